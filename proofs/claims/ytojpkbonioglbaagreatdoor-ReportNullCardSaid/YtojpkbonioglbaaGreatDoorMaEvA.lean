import Derived.Test.YtojpkbonioglbaaGreatDoorCmMath
import Derived.Lib.IndexMore
import Derived.Lib.AtoiTie
import Derived.Test.YtojpkbonioglbaaGreatDoorMaBuild
import Derived.Test.YtojpkbonioglbaaGreatDoorShelf
import Derived.Laws.RangeAny
import Derived.IntWalk
import Derived.Maps.AppendAt
import Derived.Deep.AppendLies
namespace Go.Proofs.YtojpkbonioglbaaGreatDoor.E
set_option maxRecDepth 100000
def tk (sep r : Txt) : Txt × Txt × Bool := Lib.cut r sep
theorem tk_hit {c : UInt8} {cs t : Txt} (h : c ∉ t) (r : Txt) : tk (c :: cs) (t ++ (c :: cs ++ r)) = (t, r, true) := by
 have hi : Lib.index (t ++ (c :: cs ++ r)) (c :: cs) = (t.length : Int) := by
  refine Lib.index_first (by simp) ?_ ?_
  ·unfold Lib.occAt
   rw [List.drop_left]
   simp
  ·intro j hj
   unfold Lib.occAt
   rw [List.drop_append_of_le_length (by omega), List.drop_eq_getElem_cons hj, List.cons_append]
   have hne : c ≠ t[j] := fun e => h (e ▸ List.getElem_mem hj)
   simp [List.isPrefixOf, hne]
 unfold tk Lib.cut
 rw [hi, if_pos (by omega)]
 simp [List.drop_append]
theorem tk_no {c : UInt8} {cs t : Txt} (h : c ∉ t) : tk (c :: cs) t = (t, [], false) := by
 have hi : Lib.index t (c :: cs) = -1 := by
  refine Lib.index_none fun j _ => ?_
  unfold Lib.occAt
  cases hd : t.drop j with
  | nil => rfl
  | cons b l =>
   have hb : b ∈ t := List.mem_of_mem_drop (i := j) (by rw [hd]; simp)
   have hne : c ≠ b := fun e => h (e ▸ hb)
   simp [List.isPrefixOf, hne]
 unfold tk Lib.cut
 rw [hi, if_neg (by decide)]
theorem tk_len (sep r : Txt) : (tk sep r).1.length ≤ r.length ∧ (tk sep r).2.1.length ≤ r.length := by
 unfold tk Lib.cut
 split
 ·simp only [List.length_take, List.length_drop]; omega
 ·exact ⟨Nat.le_refl _, Nat.zero_le _⟩
theorem tk_less {sep r : Txt} (hs : sep ≠ []) (h : (tk sep r).1 ≠ []) : (tk sep r).2.1.length < r.length := by
 have hs' : 0 < sep.length := List.length_pos_iff.2 hs
 revert h
 unfold tk Lib.cut
 split
 ·rename_i h0
  intro h
  simp only [List.length_drop]
  have : r ≠ [] := fun e => h (by rw [e]; simp)
  have := List.length_pos_iff.2 this
  omega
 ·intro h
  exact List.length_pos_iff.2 h
theorem tk_cut {sep r : Txt} (h : (tk sep r).2.2 = true) : (tk sep r).1.length + sep.length + (tk sep r).2.1.length = r.length := by
 revert h
 unfold tk Lib.cut
 split
 ·rename_i h0
  intro _
  have := Lib.index_room r sep h0
  simp only [List.length_take, List.length_drop]
  omega
 ·intro h; cases h
theorem quo_13 {l : Txt} (h : 13 ∉ l) : 13 ∉ P.quoL l := by
 intro hm
 obtain ⟨b, hb, hx⟩ := List.mem_flatMap.1 hm
 unfold P.quoB at hx
 split at hx
 ·simp at hx; exact h (hx ▸ hb)
 ·simp at hx; exact h (hx ▸ hb)
theorem text_13 {p : P.Pth} (h : P.rightE p = 0) : 13 ∉ P.textL p := by
 have hf := (P.right_ok h).2
 unfold P.textL
 split
 ·rename_i hn
  rw [Bool.or_eq_true] at hn
  have : 13 ∉ p.1 := by
   rcases hn with hn | hn
   ·unfold P.nullB at hn
    simp at hn
    rw [hn.1]; simp
   ·unfold P.hostB at hn
    simp at hn
    rw [hn.1]; decide
  simp [this]
 ·rename_i hn
  unfold P.formB at hf
  rw [Bool.eq_false_iff.2 hn] at hf
  simp only [Bool.false_or, Bool.and_eq_true] at hf
  obtain ⟨⟨⟨_, ha⟩, hl⟩, _⟩ := hf
  have h1 : 13 ∉ p.1 := fun hm => absurd (List.all_eq_true.1 ha 13 hm) (by decide)
  have h2 : 13 ∉ p.2 := fun hm => absurd (P.labels_mem hl 13 hm) (by decide)
  have h3 : 13 ∉ P.locL p.1 := by
   unfold P.locL
   split
   ·exact h1
   ·simp [quo_13 h1]
  simp [h2, h3]
theorem join_13 : ∀ {l : List Txt}, (∀ x ∈ l, 13 ∉ x) → 13 ∉ joinC 32 l
 | [], _ => by simp [joinC]
 | [a], h => by simpa [joinC] using h a (by simp)
 | a :: b :: l, h => by
  have h1 := h a (by simp)
  have h2 : 13 ∉ joinC 32 (b :: l) := join_13 fun x hx => h x (List.mem_cons_of_mem _ hx)
  rw [joinC]
  simp [h1, h2]
theorem formed_13 {s : Txt} (h : formedX s = true) : ∀ x ∈ s, x ≠ 13 := by
 intro x hx
 have key : ∀ f ∈ formZ ++ formP ++ formM, ∀ x, signX f x = true → x ≠ 13 := by
  intro f hf x hs
  unfold signX at hs
  by_cases e : f = 48
  ·rw [if_pos e] at hs
   have := X.all_bytes (p := fun x => digB x = true → x ≠ 13) (by decide +kernel) x
   exact this hs
  ·rw [if_neg e] at hs
   obtain rfl := beq_iff_eq.1 hs
   revert hf
   revert x
   have := X.all_bytes (p := fun x => x ∈ formZ ++ formP ++ formM → x ≠ 13) (by decide +kernel)
   exact fun x _ _ => this x
 unfold formedX at h
 simp only [Bool.or_eq_true] at h
 rcases h with (h | h) | h
 ·obtain ⟨f, hf, hs⟩ := like_mem h x hx
  exact key f (by simp [hf]) x hs
 ·obtain ⟨f, hf, hs⟩ := like_mem h x hx
  exact key f (by simp [hf]) x hs
 ·obtain ⟨f, hf, hs⟩ := like_mem h x hx
  exact key f (by simp [hf]) x hs
theorem time_13 {t : Int} (h : timB t = true) : 13 ∉ printS t := by
 have hf : formedX (printS t) = true := by
  have := (back_x h).2.1
  unfold parseE at this
  cases hf : formedX (printS t)
  ·rw [hf] at this; cases this
  ·rfl
 exact fun h' => formed_13 hf 13 h' rfl
theorem enc_13 (l : Txt) : 13 ∉ X.encX l := fun h => by have := (X.encX_signs h).1; revert this; decide
theorem word_13 {k v : Txt} (hk : 13 ∉ k) (hv : 13 ∉ v) : 13 ∉ k ++ [61] ++ v := by simp [hk, hv]
theorem wdM_13 {m : ML} (h : InvM m) : ∀ t ∈ wdM m, t.1 = true → 13 ∉ t.2.1 ++ [61] ++ t.2.2 := by
 obtain ⟨h1, h2, h3, h4⟩ := h
 simp only [namedB, unB, rangB, inB, Bool.and_eq_true, Bool.or_eq_true] at h1 h2 h3
 obtain ⟨⟨n1, n2⟩, n3⟩ := h1
 obtain ⟨⟨⟨⟨r1, r2⟩, r3⟩, r4⟩, r5⟩ := h3
 intro t ht
 simp only [wdM, List.mem_cons, List.not_mem_nil, or_false] at ht
 rcases ht with rfl | rfl | rfl | rfl | rfl | rfl | rfl | rfl
 all_goals intro hb
 all_goals first | refine word_13 (k := kSIZE) (by decide) ?_ | refine word_13 (k := kBODY) (by decide) ?_ | refine word_13 (k := kRET) (by decide) ?_ | refine word_13 (k := kENV) (by decide) ?_ | refine word_13 (k := kHF) (by decide) ?_ | refine word_13 (k := kHU) (by decide) ?_ | refine word_13 (k := kBY) (by decide) ?_ | refine word_13 (k := kPR) (by decide) ?_
 ·rcases r1 with r1 | ⟨a, b⟩
  ·simp [show m.hs = true from hb] at r1
  ·have a := of_decide_eq_true a; have b := of_decide_eq_true b
   exact itoa_free (by omega) b 13 (by decide)
 ·have hb' : isBody m.body = true := by
   rcases n1 with n1 | n1
   ·rw [beq_iff_eq] at n1; simp [n1] at hb
   ·exact n1
  have hc : m.body = t7B ∨ m.body = t8B := by simpa [isBody] using hb'
  show 13 ∉ m.body
  rcases hc with e | e <;> rw [e] <;> decide
 ·have hb' : isRet m.ret = true := by
   rcases n2 with n1 | n1
   ·rw [beq_iff_eq] at n1; simp [n1] at hb
   ·exact n1
  have hc : m.ret = tFU ∨ m.ret = tHD := by simpa [isRet] using hb'
  show 13 ∉ m.ret
  rcases hc with e | e <;> rw [e] <;> decide
 ·exact enc_13 _
 ·rcases r2 with r1 | ⟨a, b⟩
  ·simp [show m.hf = true from hb] at r1
  ·have a := of_decide_eq_true a; have b := of_decide_eq_true b
   exact itoa_free (by omega) (by omega) 13 (by decide)
 ·have ht : timB m.un = true := by
   rcases r3 with r1 | r1
   ·simp [show m.hu = true from hb] at r1
   ·unfold printE at r1
    cases hh : timB m.un
    ·rw [hh] at r1; cases r1
    ·rfl
  exact time_13 ht
 ·have hmo : isMode m.mode = true := by
   rcases n3 with ⟨_, n3⟩ | ⟨n3, _⟩
   ·exact n3
   ·simp [show m.hb = true from hb] at n3
  rcases r4 with r1 | ⟨a, b⟩
  ·simp [show m.hb = true from hb] at r1
  ·have a := of_decide_eq_true a; have b := of_decide_eq_true b
   have hl := least_ge m.mode
   have hc := mode_cases hmo
   simp only [List.mem_append, List.mem_singleton, not_or]
   refine ⟨⟨itoa_free (by omega) b 13 (by decide), by decide⟩, ?_⟩
   rcases hc with e | e | e | e <;> rw [e] <;> decide
 ·rcases r5 with r1 | ⟨a, b⟩
  ·simp [show m.hp = true from hb] at r1
  ·have a := of_decide_eq_true a; have b := of_decide_eq_true b
   exact itoa_free (by omega) (by omega) 13 (by decide)
theorem words_13 {T : List Wd} (h : ∀ t ∈ T, t.1 = true → 13 ∉ t.2.1 ++ [61] ++ t.2.2) : 13 ∉ joinC 32 (wordsL T) :=
 join_13 fun x hx => by
  obtain ⟨t, ht, hb, rfl⟩ := wordsL_mem hx
  exact h t ht hb
theorem printM_13 (m : ML) : 13 ∉ printM m := by
 unfold printM
 split
 ·rename_i h
  exact words_13 (wdM_13 (rightM_iff.1 h).1)
 ·simp
theorem names_13 {l : Txt} (h : l = [78] ∨ l = ordV l) : 13 ∉ namesV l := by
 have hm : l ∈ ([[78], [], [83], [70], [68], [83, 70], [83, 68], [70, 68], [83, 70, 68]] : List Txt) := by
  rcases h with h | h
  ·rw [h]; simp
  ·exact List.mem_cons_of_mem _ (h ▸ ord_cases l)
 clear h
 have key : ∀ l ∈ ([[78], [], [83], [70], [68], [83, 70], [83, 68], [70, 68], [83, 70, 68]] : List Txt), 13 ∉ namesV l := by decide +kernel
 exact key l hm
theorem printR_13 (r : RL) : 13 ∉ printR r := by
 unfold printR
 split
 ·rename_i h
  obtain ⟨h1, h2, h3⟩ := rightR_iff.1 h
  refine words_13 fun t ht => ?_
  simp only [wdR, List.mem_cons, List.not_mem_nil, or_false] at ht
  rcases ht with rfl | rfl
  all_goals intro hb
  all_goals first | refine word_13 (k := kNO) (by decide) ?_ | refine word_13 (k := kOR) (by decide) ?_
  ·exact names_13 h1
  ·have hk : r.kind ≠ [] := by simpa using hb
   obtain ⟨k1, k2, k3⟩ := kindB_yes h2 hk
   have hk13 : 13 ∉ r.kind := by
    have : r.kind.all alnB = true := by
     unfold isKind at k2
     simp only [Bool.and_eq_true] at k2
     exact k2.2
    exact fun hm => absurd (List.all_eq_true.1 this 13 hm) (by decide)
   simp [hk13, enc_13]
 ·simp
theorem wds_13 {hd ws : Txt} {p : P.Pth} (h1 : 13 ∉ hd) (h2 : P.rightE p = 0) (h3 : 13 ∉ ws) : 13 ∉ wdsV hd p ws := by
 unfold wdsV
 have := text_13 h2
 split <;> simp_all
theorem prV_13 {c : CL} (hv : c.verb = vMAIL ∨ c.verb = vRCPT) : 13 ∉ prV c := by
 unfold prV
 split
 ·rename_i h
  obtain ⟨hk, hb, _⟩ := prE_zero h
  rcases hv with hv | hv
  ·have e : kindV c.verb = 2 := by rw [hv]; rfl
   rw [e] at hb ⊢
   obtain ⟨_, hp, hm⟩ := bE_2.1 hb
   have : bV 2 c = wdsV hFROM c.p (printM c.m) := rfl
   rw [this, hv, List.mem_append, not_or]
   exact ⟨by decide, wds_13 (by decide) hp (printM_13 _)⟩
  ·have e : kindV c.verb = 3 := by rw [hv]; rfl
   rw [e] at hb ⊢
   obtain ⟨_, hp, hm⟩ := bE_3.1 hb
   have : bV 3 c = wdsV hTO c.p (printR c.r) := rfl
   rw [this, hv, List.mem_append, not_or]
   exact ⟨by decide, wds_13 (by decide) hp (printR_13 _)⟩
 ·simp
theorem cp_say {c : CL} (h : prE c = 0) : cpV (prV c) = c := by
 have := (cp_back h 0).2
 simpa using this
theorem prV_ne {c : CL} (h : prE c = 0) : prV c ≠ [] := by
 unfold prV
 rw [if_pos h]
 obtain ⟨hk, _, _⟩ := prE_zero h
 have := kind_len hk
 intro e
 have := congrArg List.length e
 simp at this
 simp_all
def numV (l : Txt) : Int := match Lib.atoiAll l with
 | .ok v => v
 | .range => Lib.atoiSat l
 | _ => 0
theorem dig_bd {b : UInt8} (h : digB b = true) : 48 ≤ b.toNat ∧ b.toNat ≤ 57 := by
 unfold digB at h
 simp at h
 exact h
theorem digVal_of {b : UInt8} (h : digB b = true) : Lib.digitVal b = some (b.toNat - 48) := by
 obtain ⟨h1, h2⟩ := dig_bd h
 unfold Lib.digitVal
 simp [h1, h2]
theorem decFrom_of : ∀ (l : Txt) (acc : Nat), l.all digB = true → Lib.decFrom acc l = some (l.foldl (fun n b => n * 10 + (b.toNat - 48)) acc)
 | [], acc, _ => rfl
 | b :: l, acc, h => by
  simp only [List.all_cons, Bool.and_eq_true] at h
  rw [Lib.decFrom, digVal_of h.1]
  exact decFrom_of l _ h.2
theorem dd_list (n : Nat) (hn : n < 10 ^ 14) : Lib.decDigits n ≠ [] ∧ (Lib.decDigits n).length ≤ 14 ∧ (Lib.decDigits n).all digB = true ∧ valX (Lib.decDigits n) = n := dd_all 13 n hn
theorem itoa_nat (n : Nat) : Lib.itoa (n : Int) = Lib.decDigits n := by
 unfold Lib.itoa
 rw [if_neg (by omega)]
 simp
theorem num_itoa {n : Nat} (hn : n < 10 ^ 14) : numV (Lib.itoa (n : Int)) = n := by
 obtain ⟨h1, h2, h3, h4⟩ := dd_list n hn
 rw [itoa_nat]
 have e : Lib.atoi (Lib.decDigits n) = some (n : Int) := by
  cases hd : Lib.decDigits n with
  | nil => exact absurd hd h1
  | cons b t =>
   rw [hd] at h3 h4
   have hb : digB b = true := by simp only [List.all_cons, Bool.and_eq_true] at h3; exact h3.1
   obtain ⟨b1, b2⟩ := dig_bd hb
   have n1 : (b == 45) = false := beq_eq_false_iff_ne.2 fun e => by rw [e] at b1; revert b1; decide
   have n2 : (b == 43) = false := beq_eq_false_iff_ne.2 fun e => by rw [e] at b1; revert b1; decide
   have e1 : Lib.decNat (b :: t) = some n := by
    show Lib.decFrom 0 (b :: t) = some n
    rw [decFrom_of _ 0 h3]
    exact congrArg some h4
   show (if (b == 45) = true then _ else if (b == 43) = true then _ else (Lib.decNat (b :: t)).map fun (m : Nat) => (m : Int)) = _
   rw [n1, n2, if_neg (by decide), if_neg (by decide), e1]
   rfl
 have e2 := Lib.atoiAll_short (Lib.decDigits n) (by omega)
 rw [e] at e2
 unfold numV
 rw [e2]
 rfl
theorem itoa_sg {n : Nat} (hn : n < 10 ^ 14) {c : UInt8} (hc : digB c = false) : c ∉ Lib.itoa (n : Int) := by
 rw [itoa_nat]
 intro h
 have := List.all_eq_true.1 (dd_list n hn).2.2.1 c h
 rw [hc] at this
 cases this
theorem itoa_len {n : Nat} (hn : n < 10 ^ 14) : (Lib.itoa (n : Int)).length ≤ 14 := by
 rw [itoa_nat]
 exact (dd_list n hn).2.1
end Go.Proofs.YtojpkbonioglbaaGreatDoor.E
namespace Go.Proofs.YtojpkbonioglbaaGreatDoor.L
set_option maxRecDepth 100000
open Go.RowKit
def ends3 : ByteArray := { data := #[0, 10, 13] }
theorem encode_size (r : Int) (hv : Utf8.valid r = true) (h : 128 ≤ r) : (Utf8.encode r).size = 2 ∨ (Utf8.encode r).size = 3 ∨ (Utf8.encode r).size = 4 := by
 obtain ⟨h1, h2, _⟩ := encode_facts r hv h
 omega
theorem byte_high {E : ByteArray} {n : Nat} (hn : E.size = n + 1) (h : ∀ h : E.size - 1 < E.size, 128 ≤ (E[E.size - 1]'h).toNat) : ∃ x : UInt8, 128 ≤ x.toNat ∧ ∀ h : n < E.size, E[n]'h = x := by
 have e : E.size - 1 = n := by omega
 refine ⟨E[n]'(by omega), ?_, fun _ => rfl⟩
 have := h (by omega)
 simpa only [e] using this
theorem indexByte_high (l : List UInt8) (x : UInt8) (hx : 128 ≤ x.toNat) (h : ∀ b ∈ l, b.toNat < 128) : Lib.indexByte l x = -1 := by
 induction l with
 | nil => rfl
 | cons b l ih =>
  have hb := h b (by simp)
  have hne : (b == x) = false := beq_eq_false_iff_ne.2 (by rintro rfl; omega)
  rw [Lib.indexByte, hne, ih (fun b hb => h b (by simp [hb]))]
  rfl
theorem ends3_low (i : Nat) (h : i < ends3.size) : (ends3[i]'h).toNat < 128 := by
 have h3 : i < 3 := h
 match i, h3, h with
 | 0, _, _ => exact (by decide : (0 : UInt8).toNat < 128)
 | 1, _, _ => exact (by decide : (10 : UInt8).toNat < 128)
 | 2, _, _ => exact (by decide : (13 : UInt8).toNat < 128)
theorem below_iter (w : World) (s : ByteArray) (p : Nat) : Below w.heap.size w (w.iter s p) := (Below.refl _ _).alloc (Nat.le_refl _) _
set_option maxRecDepth 1000000 in
set_option maxHeartbeats 1000000 in
theorem irune_bad (w : World) : Calls Tryz.prog 174 #[.string ends3, .int .i32 65533] w fun e w' => e = .returned (.int .i64 (-1)) ∧ Below w.heap.size w w' := by
 obtain ⟨C, hC⟩ : ∃ C, C = ends3 := ⟨_, rfl⟩
 have hlow : ∀ (i : Nat) (h : i < C.size), (C[i]'h).toNat < 128 := by subst hC; exact ends3_low
 have HL := Lib.hid hlow
 rw [← hC]
 clear hlow hC
 go_enter Tryz.func174, Tryz.ntmps174
 go_wp2_with fail
 go_loopg [5, 6] C.size (fun g _ _ wx => ∃ i : Nat, i + g = C.size ∧ wx = w.iter C i)
 case atStart => exact ⟨0, by omega, rfl⟩
 case round =>
  obtain ⟨i, hig, rfl⟩ := hrel
  cases gk with
  | zero =>
   obtain rfl : i = C.size := by omega
   have hnx := run_next_end (P := Tryz.prog) w C C.size
   go_wp2
   go_ret
   exact ⟨rfl, below_iter _ _ _⟩
  | succ g =>
   have hi : i < C.size := by omega
   have hlo := HL.out i hi
   obtain ⟨x, hx⟩ : ∃ x : UInt8, C[i]'hi = x := ⟨_, rfl⟩
   have hnx := fun ty => run_next_ascii (P := Tryz.prog) w C i ty hi hlo
   rw [hx] at hnx hlo
   have hne : ((x.toNat : Int) == 65533) = false := beq_eq_false_iff_ne.2 (by omega)
   clear hx
   go_wp2
   go_roundg g
   case measure => omega
   case rel => exact ⟨i + 1, by omega, rfl⟩
set_option maxRecDepth 1000000 in
set_option maxHeartbeats 1000000 in
theorem irune_invalid (r : Int) (w : World) (h : 128 ≤ r) (h2 : (r == 65533) = false) (hv : Lib.validRune r = false) : Calls Tryz.prog 174 #[.string ends3, .int .i32 r] w fun e w' => e = .returned (.int .i64 (-1)) ∧ Below w.heap.size w w' := by
 unfold ends3
 go_enter Tryz.func174, Tryz.ntmps174
 go_wp2_with (go_at_call 196; refine (Tryz.utf8_ValidRune _ _).mono ?_; rintro e w' ⟨rfl, rfl⟩; rw [hv])
 go_ret
 exact ⟨rfl, Below.refl _ _⟩
theorem ib_high (s : ByteArray) (x : UInt8) (hx : 128 ≤ x.toNat) (h : ∀ b ∈ s.data.toList, b.toNat < 128) : Lib.indexByte s.data.toList ((x.toNat : Int).toNat.toUInt8) = -1 := by
 have e : (x.toNat : Int).toNat.toUInt8 = x := by simp
 rw [e]; exact indexByte_high _ x hx h
theorem ib_call (s : ByteArray) (x : UInt8) (hx : 128 ≤ x.toNat) (h : ∀ b ∈ s.data.toList, b.toNat < 128) (w : World) : Calls Tryz.prog 160 #[.string s, .int .u8 (x.toNat : Int)] w fun e w' => e = .returned (.int .i64 (-1)) ∧ w' = w :=
 (Tryz.strings_IndexByte s _ w).mono fun _ _ ⟨he, hw⟩ => ⟨by rw [he, ib_high s x hx h], hw⟩
theorem low_extract {C : ByteArray} (hl : ∀ (i : Nat) (h : i < C.size), (C[i]'h).toNat < 128) (a e : Nat) : ∀ b ∈ (C.extract a e).data.toList, b.toNat < 128 := by
 intro b hb
 have hm := mem_extract hb
 obtain ⟨i, hi, he⟩ := List.mem_iff_getElem.1 hm
 have := hl i (by simpa using hi)
 rw [← he]
 exact this
set_option maxRecDepth 1000000 in
set_option maxHeartbeats 1000000 in
theorem irune_n (C : ByteArray) (n : Nat) (h12 : n = 1 ∨ n = 2) (r : Int) (w : World) (h : 128 ≤ r) (h2 : (r == 65533) = false) (hv : Lib.validRune r = true) (x : UInt8) (hx : 128 ≤ x.toNat) (hs : (Utf8.encode r).size = n + 1) (hx1 : ∀ h : n < (Utf8.encode r).size, (Utf8.encode r)[n]'h = x) (hn : n < C.size)
  (hC : C.size = 3) (hlow : ∀ (i : Nat) (h : i < C.size), (C[i]'h).toNat < 128) : Calls Tryz.prog 174 #[.string C, .int .i32 r] w fun e w' => e = .returned (.int .i64 (-1)) ∧ Below w.heap.size w w' := by
 obtain ⟨y, hy⟩ : ∃ y : UInt8, C[n]'hn = y := ⟨_, rfl⟩
 have hyl := hlow n hn
 rw [hy] at hyl
 have hy1 : ∀ h : n < C.size, C[n]'h = y := fun _ => hy
 have hne : ((y.toNat : Int) != (x.toNat : Int)) = true := by rw [bne_iff_ne]; omega
 have HL := Lib.hid hlow
 have hb3 : n < 3 := by omega
 clear hlow hy
 rcases h12 with rfl | rfl
 all_goals
  go_enter Tryz.func174, Tryz.ntmps174
  go_wp2_with (go_at_call 196; refine (Tryz.utf8_ValidRune _ _).mono ?_; rintro e w' ⟨rfl, rfl⟩; rw [hv])
  go_step3
  go_wp2_with fail
  refine wp_loop_rounds 1 ?_
  rw [rounds_succ]
  go_wp2_with fail
  go_step3
  go_wp2_with fail
  go_quiet (fail)
  go_wp2_with fail
  have w2 : IntKind.i64.wrap 2 = 2 := by decide
  have w3 : IntKind.i64.wrap 3 = 3 := by decide
  go_quiet ((go_at_call 160; exact quiet_more (ib_call _ x hx (by first | exact low_extract HL.out _ _ | simp) _)))
  go_wp2_with fail
  simp only [Exit.noGoto_ret, Exit.inBlock, Exit.then]
  go_ret
  exact ⟨rfl, below_drewN (Below.refl _ _) _⟩
set_option maxRecDepth 1000000 in
set_option maxHeartbeats 1000000 in
theorem irune_4 (C : ByteArray) (r : Int) (w : World) (h : 128 ≤ r) (h2 : (r == 65533) = false) (hv : Lib.validRune r = true) (hs : (Utf8.encode r).size = 4) (hC : C.size = 3) : Calls Tryz.prog 174 #[.string C, .int .i32 r] w fun e w' => e = .returned (.int .i64 (-1)) ∧ Below w.heap.size w w' := by
 go_enter Tryz.func174, Tryz.ntmps174
 go_wp2_with (go_at_call 196; refine (Tryz.utf8_ValidRune _ _).mono ?_; rintro e w' ⟨rfl, rfl⟩; rw [hv])
 go_step3
 go_wp2_with fail
 refine wp_loop_rounds 1 ?_
 rw [rounds_succ]
 go_wp2_with fail
 simp only [Exit.noGoto_ret, Exit.inBlock]
 go_ret
 exact ⟨rfl, Below.refl _ _⟩
theorem valid_eq (r : Int) : Utf8.valid r = Lib.validRune r := by
 rw [validRune_eq]; rfl
theorem irune_high (r : Int) (w : World) (h : 128 ≤ r) : Calls Tryz.prog 174 #[.string ends3, .int .i32 r] w fun e w' => e = .returned (.int .i64 (-1)) ∧ Below w.heap.size w w' := by
 by_cases h2 : r = 65533
 ·subst h2; exact irune_bad w
 ·have h2' : (r == 65533) = false := beq_eq_false_iff_ne.2 h2
  cases hv : Lib.validRune r with
  | false => exact irune_invalid r w h h2' hv
  | true =>
   have hv' : Utf8.valid r = true := by rw [valid_eq]; exact hv
   obtain ⟨_, _, hlast⟩ := encode_facts r hv' h
   rcases encode_size r hv' h with e | e | e
   ·obtain ⟨x, hx, hx1⟩ := byte_high (n := 1) e hlast
    exact irune_n ends3 1 (.inl rfl) r w h h2' hv x hx e hx1 (by decide) rfl ends3_low
   ·obtain ⟨x, hx, hx1⟩ := byte_high (n := 2) e hlast
    exact irune_n ends3 2 (.inr rfl) r w h h2' hv x hx e hx1 (by decide) rfl ends3_low
   ·exact irune_4 ends3 r w h h2' hv e rfl
theorem cont_high {s : ByteArray} {i k : Nat} (h : (decide (i + k < s.size) && (s.get! (i + k)).toNat / 64 == 2) = true) : ∃ hj : i + k < s.size, 128 ≤ (s[i + k]'hj).toNat := by
 simp only [Bool.and_eq_true, decide_eq_true_eq, beq_iff_eq] at h
 refine ⟨h.1, ?_⟩
 have e := get_at s (i + k) h.1
 rw [Nat.add_zero] at e
 have := h.2
 rw [e] at this
 omega
theorem decode_skip (s : ByteArray) (i : Nat) (h : i < s.size) (ha : 128 ≤ (s[i]'h).toNat) (k : Nat) (hk : k < (Utf8.decode s i).2) : ∃ hj : i + k < s.size, 128 ≤ (s[i + k]'hj).toNat := by
 have h0 : ∃ hj : i + 0 < s.size, 128 ≤ (s[i + 0]'hj).toNat := ⟨h, ha⟩
 have hn : ¬ (s[i]'h).toNat < 128 := by omega
 revert hk
 simp only [Utf8.decode, get_at s i h, hn, if_false]
 repeat' split
 all_goals intro hk
 all_goals simp only [Bool.and_eq_true] at *
 all_goals match k, hk with
  | 0, _ => exact h0
  | 1, _ => first | exact cont_high (by simp_all) | (exfalso; omega)
  | 2, _ => first | exact cont_high (by simp_all) | (exfalso; omega)
  | 3, _ => first | exact cont_high (by simp_all) | (exfalso; omega)
  | k + 4, hk => exfalso; omega
theorem noAny_more {l chars : List UInt8} {i m : Nat} (h : Lib.NoAny l chars i) (hm : ∀ j b, i ≤ j → j < m → l[j]? = some b → chars.contains b = false) : Lib.NoAny l chars m := fun j b hj hb => by
 rcases Nat.lt_or_ge j i with hl | hl
 ·exact h j b hl hb
 ·exact hm j b hl hj hb
theorem high_not (b : UInt8) (h : 128 ≤ b.toNat) : ends3.data.toList.contains b = false := by
 have h0 : b ≠ 0 := by rintro rfl; exact absurd h (by decide)
 have h1 : b ≠ 10 := by rintro rfl; exact absurd h (by decide)
 have h2 : b ≠ 13 := by rintro rfl; exact absurd h (by decide)
 simp [ends3, h0, h1, h2]
theorem noAny_skip (s : ByteArray) (i : Nat) (hi : i < s.size) (ha : 128 ≤ (s[i]'hi).toNat) (h : Lib.NoAny s.data.toList ends3.data.toList i) : Lib.NoAny s.data.toList ends3.data.toList (i + (Utf8.decode s i).2) :=
 noAny_more h fun j b hij hj hb => by
  obtain ⟨k, rfl⟩ := Nat.exists_eq_add_of_le hij
  obtain ⟨hk, hh⟩ := decode_skip s i hi ha k (by omega)
  have e := Lib.data_getElem? s (i + k) hk
  rw [e] at hb
  injection hb with hb
  rw [← hb]
  exact high_not _ hh
theorem skip_le (s : ByteArray) (i : Nat) (hi : i < s.size) (ha : 128 ≤ (s[i]'hi).toNat) : 1 ≤ (Utf8.decode s i).2 ∧ i + (Utf8.decode s i).2 ≤ s.size := by
 have h1 := (decode_high s i hi ha).2
 refine ⟨h1, ?_⟩
 obtain ⟨hk, _⟩ := decode_skip s i hi ha ((Utf8.decode s i).2 - 1) (by omega)
 omega
theorem below_iterAt {w wx : World} (h : Below w.heap.size w wx) (s : ByteArray) (p : Nat) : Below w.heap.size w (wx.iterAt w.heap.size s p) :=
 ⟨h.os, h.tape, h.output, by rw [Lib.iterAt_size]; exact h.size, fun k hk => (Lib.iterAt_other _ _ _ _ _ (by omega)).trans (h.block k hk)⟩
theorem below_nextI {w wx w' : World} {s : ByteArray} {i p : Nat} (h : Below w.heap.size w wx) (hit : wx.heap[w.heap.size]? = some (.stringIter s i)) (hb : Below (wx.iterAt w.heap.size s p).heap.size (wx.iterAt w.heap.size s p) w') :
  w'.heap[w.heap.size]? = some (.stringIter s p) ∧ Below w.heap.size w w' := by
 have hlt : w.heap.size < (wx.iterAt w.heap.size s p).heap.size := by rw [Lib.iterAt_size]; exact ltOf hit
 exact ⟨(hb.block _ hlt).trans (Lib.iterAt_heap _ _ _ _ _ hit), (below_iterAt h s p).trans (hb.mono (by omega))⟩
theorem irune_C {C : ByteArray} (hE : Hid (C = ends3)) (r : Int) (w : World) (h : 128 ≤ r) : Calls Tryz.prog 174 #[.string C, .int .i32 r] w fun e w' => e = .returned (.int .i64 (-1)) ∧ Below w.heap.size w w' := by
 rw [hE.out]; exact irune_high r w h
theorem ends3_toList : ends3.toList.isEmpty = false := by rw [Lib.toList_data]; rfl
set_option maxHeartbeats 1000000 in
set_option maxRecDepth 1000000 in
theorem iany_short (C s : ByteArray) (w : World) (hC : C.size = 3) (hE : Hid (C = ends3)) (h8 : s.size ≤ 8) :
  Calls Tryz.prog 158 #[.string s, .string C] w fun e w' => e = .returned (.int .i64 (Lib.indexAny s.data.toList ends3.data.toList)) ∧ Below w.heap.size w w' := by
 have hemp : C.toList.isEmpty = false := by rw [hE.out]; exact ends3_toList
 have h8z : decide ((8 : Int) < (s.size : Int)) = false := decide_eq_false (by omega)
 go_enter Tryz.func158, Tryz.ntmps158
 go_wp2_with (go_at_call 175; refine (Tryz.strings_shouldUseASCIISet _ _).mono ?_; rintro e w' ⟨rfl, hw⟩; rw [hw, h8z])
 go_loopg [9, 10] s.size (fun g _ _ wx => ∃ i : Nat, i + g = s.size ∧ Lib.NoAny s.data.toList ends3.data.toList i ∧ wx.heap[w.heap.size]? = some (.stringIter s i) ∧ Below w.heap.size w wx)
 case atStart => exact ⟨0, by omega, Lib.NoAny.zero _ _, World.iter_heap _ _ _, below_iter _ _ _⟩
 case round =>
  obtain ⟨i, hig, hno, hit, hb⟩ := hrel
  have HN := Lib.hid hno
  have HB := Lib.hid hb
  have HI := Lib.hid hit
  clear hno hb hit hC
  cases gk with
  | zero =>
   obtain rfl : i = s.size := by omega
   have hnx := fun ty => Lib.run_next_end_at (P := Tryz.prog) wr w.heap.size s s.size ty HI.out (by omega)
   go_wp2
   go_ret
   exact ⟨by rw [Lib.indexAny_none (by rw [← Lib.size_eq]; exact HN.out)]; rfl, HB.out⟩
  | succ g =>
   have hi : i < s.size := by omega
   obtain ⟨x, hx⟩ : ∃ x : UInt8, s[i]'hi = x := ⟨_, rfl⟩
   have hxl : s.data.toList[i]? = some x := by rw [← hx]; exact Lib.data_getElem? s i hi
   have Hx := Lib.hid hxl
   clear hxl
   by_cases hlo : x.toNat < 128
   ·have hnx := fun ty => Lib.run_next_ascii_at (P := Tryz.prog) wr w.heap.size s i ty HI.out hi (by rw [hx]; exact hlo)
    rw [hx] at hnx
    have hback : ((x.toNat : Int)).toNat.toUInt8 = x := by simp
    have hcon := Lib.contains_iff_indexByte C.data.toList x
    clear hx
    cases hin : C.data.toList.contains x
    ·rw [hin] at hcon
     have hlt : ¬ ((0 : Int) ≤ Lib.indexByte C.data.toList x) := of_decide_eq_false hcon.symm
     rw [hE.out] at hin
     have HIN := Lib.hid hin
     clear hcon hin
     go_wp2_with (go_at_call 174; refine (Tryz.strings_IndexRune_ascii _ _ _ (by omega) (by omega)).mono ?_; rintro e w' ⟨rfl, hw⟩; rw [hw, hback])
     go_roundg g
     case measure => omega
     case rel => exact ⟨i + 1, by omega, HN.out.succ Hx.out HIN.out, Lib.iterAt_heap _ _ _ _ _ HI.out, below_iterAt HB.out _ _⟩
    ·rw [hin] at hcon
     have hge : (0 : Int) ≤ Lib.indexByte C.data.toList x := of_decide_eq_true hcon.symm
     rw [hE.out] at hin
     have HIN := Lib.hid hin
     clear hcon hin
     go_wp2_with (go_at_call 174; refine (Tryz.strings_IndexRune_ascii _ _ _ (by omega) (by omega)).mono ?_; rintro e w' ⟨rfl, hw⟩; rw [hw, hback])
     go_ret
     exact ⟨by rw [Lib.indexAny_hit HN.out Hx.out HIN.out]; rfl, below_iterAt HB.out _ _⟩
   ·have hhi : 128 ≤ (s[i]'hi).toNat := by rw [hx]; omega
    have hnx := fun ty => Lib.run_next_any_at (P := Tryz.prog) wr w.heap.size s i ty HI.out hi
    have hd := (decode_high s i hi hhi).1
    have hsk := skip_le s i hi hhi
    have hna := Lib.hid (noAny_skip s i hi hhi HN.out)
    clear hx hhi
    generalize Utf8.decode s i = d at hnx hd hsk hna
    obtain ⟨r, m⟩ := d
    simp only at hnx hd hsk hna
    go_wp2_with (go_at_call 174; refine (irune_C hE _ _ (by omega)).mono ?_; rintro e w' ⟨rfl, hbw⟩)
    have hend := Lib.hid (below_nextI HB.out HI.out hbw)
    clear hbw
    go_roundg (s.size - (i + m))
    case measure => omega
    case rel => exact ⟨i + m, by omega, hna.out, hend.out.1, hend.out.2⟩
theorem iany_any (s : ByteArray) (w : World) (hs : s.size < 4294967281) :
  Calls Tryz.prog 158 #[.string s, .string ends3] w fun e w' => e = .returned (.int .i64 (Lib.indexAny s.data.toList ends3.data.toList)) ∧ Below w.heap.size w w' := by
 by_cases h8 : s.size ≤ 8
 ·exact iany_short ends3 s w rfl rfl h8
 ·refine (Tryz.strings_IndexAny_long (fun _ => by kernel_rfl) s ends3 w (by decide) (by omega) hs (by decide) ?_).mono ?_
  ·intro j b hb
   have hm := List.mem_of_getElem? hb
   have h3 : b = 0 ∨ b = 10 ∨ b = 13 := by simpa [ends3] using hm
   rcases h3 with rfl | rfl | rfl <;> decide
  ·rintro e w' ⟨rfl, rfl⟩
   exact ⟨rfl, ((Below.refl _ _).alloc (Nat.le_refl _) _).alloc (by simp) _⟩
def plainB (l : List UInt8) : Bool := l.all fun b => b != 0 && b != 10 && b != 13
theorem indexAny_plain : ∀ l : List UInt8, decide (0 ≤ Lib.indexAny l ends3.data.toList) = !plainB l
 | [] => rfl
 | b :: l => by
  have ih := indexAny_plain l
  have hge := Lib.indexAny_ge ends3.data.toList l
  have hc : ends3.data.toList.contains b = !(b != 0 && b != 10 && b != 13) := by
   simp [ends3, bne]
   rw [Bool.eq_iff_iff]
   simp [or_assoc]
  have hp : plainB (b :: l) = ((b != 0 && b != 10 && b != 13) && plainB l) := rfl
  rw [Lib.indexAny, hc, hp]
  cases hb : (b != 0 && b != 10 && b != 13)
  ·simp
  ·cases hl : plainB l
   ·rw [hl] at ih
    have h0 : 0 ≤ Lib.indexAny l ends3.data.toList := of_decide_eq_true ih
    have h1 : (Lib.indexAny l ends3.data.toList == -1) = false := beq_eq_false_iff_ne.2 (by omega)
    simp only [Bool.not_true, Bool.false_eq_true, if_false, h1, Bool.and_false, Bool.not_false]
    exact decide_eq_true (by omega)
   ·rw [hl] at ih
    have h0 : ¬ 0 ≤ Lib.indexAny l ends3.data.toList := of_decide_eq_false ih
    have h1 : (Lib.indexAny l ends3.data.toList == -1) = true := beq_iff_eq.2 (by omega)
    simp [h1]
set_option maxHeartbeats 1000000 in
theorem cany_any (s : ByteArray) (w : World) (hs : s.size < 4294967281) :
  Calls Tryz.prog 134 #[.string s, .string ends3] w fun e w' => e = .returned (.bool (!plainB s.data.toList)) ∧ Below w.heap.size w w' := by
 rw [← indexAny_plain]
 obtain ⟨C, hC⟩ : ∃ C, C = ends3 := ⟨_, rfl⟩
 have HC := Lib.hid hC
 rw [← hC]
 clear hC
 have hr := Lib.hid (iany_any s w hs)
 rw [← HC.out] at hr
 go_enter Tryz.func134, Tryz.ntmps134
 go_wp2_with (go_at_call 158; refine hr.out.mono ?_; rintro e w' ⟨rfl, hw⟩)
 go_ret
 exact ⟨rfl, hw⟩
set_option maxHeartbeats 1000000 in
theorem plain_any (s : ByteArray) (w : World) (hs : s.size < 4294967281) :
  Calls Tryz.prog 100 #[.string s] w fun e w' => e = .returned (.bool (plainB s.data.toList)) ∧ Below w.heap.size w w' := by
 go_enter Tryz.func100, Tryz.ntmps100
 go_wp2_with (go_at_call 134; refine (cany_any s w hs).mono ?_; rintro e w' ⟨rfl, hw⟩)
 go_ret
 exact ⟨by simp, hw⟩
end Go.Proofs.YtojpkbonioglbaaGreatDoor.L
namespace Go.Proofs.YtojpkbonioglbaaGreatDoor.L
set_option maxRecDepth 100000
open Go.RowKit
def Strs (w : World) (A : Option Addr) (n : Nat) (ps : List ByteArray) : Prop :=
 ps.length = n ∧ (0 < n → ∃ ad, A = some ad ∧ ad.block < w.heap.size ∧ ∀ j p, ps[j]? = some p → w.cell? (ad.add j) = some (.string p))
def joinB (ps : List ByteArray) : List UInt8 := ps.flatMap fun p => p.data.toList
theorem joinB_append (a b : List ByteArray) : joinB (a ++ b) = joinB a ++ joinB b := by simp [joinB]
theorem joinB_take {ps : List ByteArray} {i : Nat} {p : ByteArray} (h : ps[i]? = some p) : joinB (ps.take (i + 1)) = joinB (ps.take i) ++ p.data.toList := by
 obtain ⟨hi, rfl⟩ := List.getElem?_eq_some_iff.1 h
 rw [List.take_succ_eq_append_getElem hi, joinB_append]
 simp [joinB]
theorem join_le {ps : List ByteArray} {k m : Nat} {p : ByteArray} (h : ps[k]? = some p) : (joinB (ps.take k) ++ p.data.toList.take m).length ≤ (joinB ps).length ∧ p.size ≤ (joinB ps).length := by
 have e : joinB ps = joinB (ps.take k) ++ (p.data.toList ++ joinB (ps.drop (k + 1))) := by
  rw [← List.append_assoc, ← joinB_take h, ← joinB_append, List.take_append_drop]
 have e2 : p.data.toList.length = p.size := (Lib.size_eq p).symm
 rw [e]
 simp only [List.length_append, List.length_take]
 omega
theorem size_mk (l : List UInt8) : (⟨l.toArray⟩ : ByteArray).size = l.length := by simp [ByteArray.size]
def PredS (f : Nat) (lb : Array Value) (p : ByteArray → Bool) (ps : List ByteArray) (w : World) : Prop :=
 ∀ (W : World) (x : ByteArray), Below w.heap.size w W → x ∈ ps → Calls Tryz.prog f (#[.string x] ++ lb) W fun e w' => e = .returned (.bool (p x)) ∧ Below W.heap.size W w'
def IFPost (p : ByteArray → Bool) (ps : List ByteArray) (w : World) (e : Ending) (w' : World) : Prop :=
 ∃ r : Int, e = .returned (.int .i64 r) ∧ decide (0 ≤ r) = ps.any p ∧ Below w.heap.size w w'
theorem Strs.cell {w : World} {A : Option Addr} {n k : Nat} {ps : List ByteArray} (h : Strs w A n ps) (hk : k < n) : ∃ ad p, A = some ad ∧ ps[k]? = some p ∧ ad.block < w.heap.size ∧ w.cell? (ad.add k) = some (.string p) := by
 obtain ⟨hl, h⟩ := h
 obtain ⟨ad, hA, hb, hc⟩ := h (by omega)
 have hp : ps[k]? = some (ps[k]'(by omega)) := List.getElem?_eq_getElem (by omega)
 exact ⟨ad, _, hA, hp, hb, hc k _ hp⟩
theorem Strs.below {w W : World} {A : Option Addr} {n : Nat} {ps : List ByteArray} (h : Strs w A n ps) (hb : Below w.heap.size w W) : Strs W A n ps :=
 ⟨h.1, fun hn => by
  obtain ⟨ad, hA, hlt, hc⟩ := h.2 hn
  exact ⟨ad, hA, Nat.lt_of_lt_of_le hlt hb.size, fun j p hj => (hb.cell (by rw [add_block]; exact hlt)).trans (hc j p hj)⟩⟩
theorem any_more {p : ByteArray → Bool} {ps : List ByteArray} {k : Nat} {x : ByteArray} (hx : ps[k]? = some x) (ha : (ps.take k).any p = false) (hp : p x = false) : (ps.take (k + 1)).any p = false := by
 obtain ⟨hk, rfl⟩ := List.getElem?_eq_some_iff.1 hx
 rw [List.take_succ_eq_append_getElem hk, List.any_append, ha]
 simp [hp]
set_option maxHeartbeats 1000000 in
theorem ifunc_x (f : Nat) (lb : Array Value) (eg : ∀ args w, (callFunc f args).run Tryz.prog w = .ok (.enter f args) w) (p : ByteArray → Bool) (ps : List ByteArray) (A : Option Addr) (n c : Nat) (w : World) (hs : Strs w A n ps) (hp : PredS f lb p ps w) (hn : n ≤ 1000000000) :
  Calls Tryz.prog 92 #[.slice A n c, .func (.func f) #[] lb] w (IFPost p ps w) := by
 have HS := Lib.hid hs
 have HP := Lib.hid hp
 clear hs hp
 go_enter Tryz.func92, Tryz.ntmps92
 go_wp2_with fail
 go_loopw [8] (fun i wr => ∃ k : Nat, k ≤ n ∧ i = .int .i64 k ∧ (ps.take k).any p = false ∧ Below w.heap.size w wr) (fun i _ => n - (intOf i).toNat)
 case atStart => exact ⟨0, Nat.zero_le _, rfl, rfl, Below.refl _ _⟩
 case round =>
  obtain ⟨k, hk, rfl, ha, hb⟩ := hrel
  have HA := Lib.hid ha
  have HB := Lib.hid hb
  by_cases hlt : k < n
  ·obtain ⟨ad, x, rfl, hx, hab, hcw⟩ := HS.out.cell hlt
   have hcl : wr.cell? (ad.add k) = some (.string x) := (hb.cell (by rw [add_block]; exact hab)).trans hcw
   have HX := Lib.hid hx
   have HC := Lib.hid (HP.out wr x hb (List.mem_of_getElem? hx))
   clear hx hcw ha hb
   cases hpx : p x
   ·go_wp2_with fail
    refine HC.out.mono ?_
    rintro e w1 ⟨rfl, hb1⟩
    have HB1 := Lib.hid hb1
    rw [hpx]
    clear hb1
    go_wp2_with fail
    go_roundw
    case rel => exact ⟨k + 1, by omega, by go_num, any_more HX.out HA.out hpx, HB.out.trans (HB1.out.mono HB.out.size)⟩
    case measure => simp [intOf]; omega
   ·go_wp2_with fail
    refine HC.out.mono ?_
    rintro e w1 ⟨rfl, hb1⟩
    have HB1 := Lib.hid hb1
    rw [hpx]
    clear hb1
    go_wp2_with fail
    go_ret
    exact ⟨(k : Int), rfl, by rw [List.any_eq_true.2 ⟨x, List.mem_of_getElem? HX.out, hpx⟩]; exact decide_eq_true (by omega), HB.out.trans (HB1.out.mono HB.out.size)⟩
  ·clear ha hb
   go_wp2_with fail
   go_ret
   exact ⟨-1, rfl, by have e := HA.out; rw [List.take_of_length_le (by rw [HS.out.1]; omega)] at e; rw [e]; rfl, HB.out⟩
set_option maxHeartbeats 1000000 in
theorem cfunc_x (f : Nat) (lb : Array Value) (eg : ∀ args w, (callFunc f args).run Tryz.prog w = .ok (.enter f args) w) (p : ByteArray → Bool) (ps : List ByteArray) (A : Option Addr) (n c : Nat) (w : World) (hs : Strs w A n ps) (hp : PredS f lb p ps w) (hn : n ≤ 1000000000) :
  Calls Tryz.prog 69 #[.slice A n c, .func (.func f) #[] lb] w fun e w' => e = .returned (.bool (ps.any p)) ∧ Below w.heap.size w w' := by
 have HI := Lib.hid (ifunc_x f lb eg p ps A n c w hs hp hn)
 clear hs hp eg
 go_enter Tryz.func69, Tryz.ntmps69
 go_wp2_with fail
 refine HI.out.mono ?_
 rintro e w1 ⟨r, rfl, hr, hb⟩
 have HB := Lib.hid hb
 clear hb
 cases ha : ps.any p
 ·rw [ha] at hr
  go_wp2_with fail
  go_ret
  exact ⟨by rw [ha]; rfl, HB.out⟩
 ·rw [ha] at hr
  go_wp2_with fail
  go_ret
  exact ⟨by rw [ha]; rfl, HB.out⟩
theorem enters36 : ∀ args w, (callFunc 99 args).run Tryz.prog w = .ok (.enter 99 args) w := enters_of Tryz.func99 (by kernel_rfl) rfl
theorem enters37 : ∀ args w, (callFunc 101 args).run Tryz.prog w = .ok (.enter 101 args) w := enters_of Tryz.func101 (by kernel_rfl) rfl
set_option maxHeartbeats 1000000 in
theorem odd_x (s : ByteArray) (w : World) (hs : s.size < 4294967281) : Calls Tryz.prog 99 #[.string s] w fun e w' => e = .returned (.bool (!plainB s.data.toList)) ∧ Below w.heap.size w w' := by
 go_enter Tryz.func99, Tryz.ntmps99
 go_wp2_with (go_at_call 100; refine (plain_any s w hs).mono ?_; rintro e w' ⟨rfl, hw⟩)
 go_ret
 exact ⟨rfl, hw⟩
set_option maxHeartbeats 1000000 in
theorem long_x (s : ByteArray) (bx : Addr) (most : Int) (w : World) (hc : w.cell? bx = some (.int .i64 most)) : Calls Tryz.prog 101 #[.string s, .pointer (some bx)] w fun e w' => e = .returned (.bool (decide (most < s.size))) ∧ w = w' := by
 go_enter Tryz.func101, Tryz.ntmps101
 go_wp2_with fail
 go_ret
 exact ⟨rfl, rfl⟩
def wrongOf (most : Nat) (ps : List ByteArray) : Int :=
 if ps.any (fun p => !plainB p.data.toList) then 2 else if ps.any (fun p => decide ((most : Int) < p.size)) then 3 else 0
theorem wrongOf_2 {most : Nat} {ps : List ByteArray} (h : ps.any (fun p => !plainB p.data.toList) = true) : wrongOf most ps = 2 := by rw [wrongOf, h, if_pos rfl]
theorem wrongOf_3 {most : Nat} {ps : List ByteArray} (h : ps.any (fun p => !plainB p.data.toList) = false) (h' : ps.any (fun p => decide ((most : Int) < p.size)) = true) : wrongOf most ps = 3 := by rw [wrongOf, h, if_neg (by decide), h', if_pos rfl]
theorem wrongOf_0 {most : Nat} {ps : List ByteArray} (h : ps.any (fun p => !plainB p.data.toList) = false) (h' : ps.any (fun p => decide ((most : Int) < p.size)) = false) : wrongOf most ps = 0 := by rw [wrongOf, h, if_neg (by decide), h', if_neg (by decide)]
set_option maxHeartbeats 1000000 in
theorem wrong_x (most n c : Nat) (ps : List ByteArray) (A : Option Addr) (w : World) (hs : Strs w A n ps) (hz : ∀ p ∈ ps, p.size < 4294967281) (hn : n ≤ 1000000000) :
  Calls Tryz.prog 75 #[.slice A n c, .int .i64 (most : Int)] w fun e w' => e = .returned (.int .i64 (wrongOf most ps)) ∧ Below w.heap.size w w' := by
 have hb0 : Below w.heap.size w (w.alloc (.cells #[.int .i64 (most : Int)] 3)) := (Below.refl _ _).alloc (Nat.le_refl _) _
 have hbs : (w.alloc (.cells #[.int .i64 (most : Int)] 3)).cell? ⟨w.heap.size, 0, none⟩ = some (.int .i64 (most : Int)) := World.cell?_alloc_at _ _ _ _ rfl
 have H1 := Lib.hid (cfunc_x 99 #[] enters36 (fun p => !plainB p.data.toList) ps A n c _ (hs.below hb0) (fun W x _ hx => odd_x x W (hz x hx)) hn)
 have H2 : Hid (∀ W, Below (w.alloc (.cells #[.int .i64 (most : Int)] 3)).heap.size (w.alloc (.cells #[.int .i64 (most : Int)] 3)) W → Calls Tryz.prog 69 #[.slice A n c, .func (.func 101) #[] #[.pointer (some ⟨w.heap.size, 0, none⟩)]] W fun e w' => e = .returned (.bool (ps.any (fun p => decide ((most : Int) < p.size)))) ∧ Below W.heap.size W w') := fun W hW =>
  cfunc_x 101 _ enters37 (fun p => decide ((most : Int) < p.size)) ps A n c W ((hs.below hb0).below hW) (fun V x hV _ => (long_x x ⟨w.heap.size, 0, none⟩ most V (by
   rw [hV.cell (Nat.lt_of_lt_of_le (by simp) hW.size), hW.cell (by simp)]; exact hbs)).mono fun e w' ⟨he, hw⟩ => ⟨he, hw ▸ Below.refl _ _⟩) hn
 have HB0 := Lib.hid hb0
 clear hs hz hb0 hbs
 go_enter Tryz.func75, Tryz.ntmps75
 go_wp2_with fail
 refine H1.out.mono ?_
 rintro e w1 ⟨rfl, hb1⟩
 have HB1 := Lib.hid hb1
 clear hb1
 cases ha : ps.any (fun p => !plainB p.data.toList)
 ·have HA := Lib.hid ha
  clear ha
  go_wp2_with fail
  refine (H2.out _ HB1.out).mono ?_
  rintro e w2 ⟨rfl, hb2⟩
  have HB2 := Lib.hid hb2
  clear hb2
  have hfin := HB0.out.trans ((HB1.out.trans (HB2.out.mono HB1.out.size)).mono HB0.out.size)
  have HFIN := Lib.hid hfin
  clear hfin
  cases hq : ps.any (fun p => decide ((most : Int) < p.size))
  ·have HQ := Lib.hid hq
   clear hq
   go_wp2_with fail
   go_ret
   exact ⟨ret_int (wrongOf_0 HA.out HQ.out).symm, HFIN.out⟩
  ·have HQ := Lib.hid hq
   clear hq
   go_wp2_with fail
   go_ret
   exact ⟨ret_int (wrongOf_3 HA.out HQ.out).symm, HFIN.out⟩
 ·have HA := Lib.hid ha
  clear ha
  go_wp2_with fail
  go_ret
  exact ⟨ret_int (wrongOf_2 HA.out).symm, HB0.out.trans (HB1.out.mono HB0.out.size)⟩
end Go.Proofs.YtojpkbonioglbaaGreatDoor.L
namespace Go.Proofs.YtojpkbonioglbaaGreatDoor.L
set_option maxRecDepth 100000
open Go.RowKit
def laidOf (p : List UInt8) : List UInt8 := (if Lib.hasPrefix p [46] then [46] else []) ++ (p ++ [13, 10])
def bodyOf (ps : List ByteArray) : List UInt8 := ps.flatMap fun p => laidOf p.data.toList
def dataOf (ps : List ByteArray) : List UInt8 := bodyOf ps ++ [46, 13, 10]
theorem laidOf_yes {p : ByteArray} (h : Lib.hasPrefix p.data.toList [46] = true) : laidOf p.data.toList = [46] ++ (p.data.toList ++ [13, 10]) := by rw [laidOf, h, if_pos rfl]
theorem laidOf_no {p : ByteArray} (h : Lib.hasPrefix p.data.toList [46] = false) : laidOf p.data.toList = p.data.toList ++ [13, 10] := by rw [laidOf, h, if_neg (by decide)]; rfl
theorem bodyOf_take {ps : List ByteArray} {i : Nat} {p : ByteArray} (h : ps[i]? = some p) : bodyOf (ps.take (i + 1)) = bodyOf (ps.take i) ++ laidOf p.data.toList := by
 obtain ⟨hi, rfl⟩ := List.getElem?_eq_some_iff.1 h
 rw [List.take_succ_eq_append_getElem hi, bodyOf, List.flatMap_append]
 simp [bodyOf]
theorem laidOf_len (p : List UInt8) : (laidOf p).length ≤ p.length + 3 := by
 unfold laidOf
 split <;> simp
theorem bodyOf_len (ps : List ByteArray) : (bodyOf ps).length ≤ (joinB ps).length + 3 * ps.length := by
 induction ps with
 | nil => simp [bodyOf, joinB]
 | cons p ps ih =>
  have h := laidOf_len p.data.toList
  simp only [bodyOf, joinB, List.flatMap_cons, List.length_append, List.length_cons] at ih ⊢
  omega
theorem bodyOf_le (ps : List ByteArray) (k : Nat) : (bodyOf (ps.take k)).length ≤ (bodyOf ps).length := by
 have e : bodyOf ps = bodyOf (ps.take k) ++ bodyOf (ps.drop k) := by
  rw [bodyOf, bodyOf, bodyOf, ← List.flatMap_append, List.take_append_drop]
 rw [e, List.length_append]
 omega
theorem byteCells_str (l : List UInt8) (s : ByteArray) : Lib.byteCells l ++ Lib.strCells s = Lib.byteCells (l ++ s.data.toList) := by simp [Lib.byteCells, Lib.strCells]
theorem byteCells_len (l : List UInt8) : (Lib.byteCells l).length = l.length := by simp [Lib.byteCells]
def Bld (W0 : World) (b : Nat) (l : List UInt8) (w : World) : Prop := Lib.IsBuilderF 105 5 W0.heap.size b (Lib.byteCells l) w ∧ Below W0.heap.size W0 w
theorem bld_write {W0 : World} {b : Nat} {l : List UInt8} {w : World} (h : Bld W0 b l w) (s : ByteArray) (hl : l.length + s.size ≤ 100000000000) :
  Calls Tryz.prog 73 #[.pointer (some ⟨b, 0, none⟩), .string s] w fun e w' => e = .returned (.tuple #[.int .i64 s.size, .nilIface]) ∧ Bld W0 b (l ++ s.data.toList) w' :=
 (ws_any W0.heap.size b (Lib.byteCells l) s w h.1 (by rw [byteCells_len]; omega) h.2.size).mono fun e w' ⟨he, hb, hbl⟩ => ⟨he, .inr (by rw [← byteCells_str]; exact hb), h.2.trans hbl⟩
theorem bld_dot {W0 : World} {b : Nat} {l : List UInt8} {w : World} (h : Bld W0 b l w) (hl : l.length ≤ 90000000000) :
  Calls Tryz.prog 73 #[.pointer (some ⟨b, 0, none⟩), .string { data := #[46] }] w fun e w' => e = .returned (.tuple #[.int .i64 1, .nilIface]) ∧ Bld W0 b (l ++ [46]) w' :=
 bld_write h { data := #[46] } (Nat.le_trans (Nat.add_le_add_left (show _ ≤ 1 from Nat.le_refl 1) _) (by omega))
theorem bld_end {W0 : World} {b : Nat} {l : List UInt8} {w : World} (h : Bld W0 b l w) (hl : l.length ≤ 90000000000) :
  Calls Tryz.prog 73 #[.pointer (some ⟨b, 0, none⟩), .string { data := #[13, 10] }] w fun e w' => e = .returned (.tuple #[.int .i64 2, .nilIface]) ∧ Bld W0 b (l ++ [13, 10]) w' :=
 bld_write h { data := #[13, 10] } (Nat.le_trans (Nat.add_le_add_left (show _ ≤ 2 from Nat.le_refl 2) _) (by omega))
theorem bld_new (W0 w : World) (h : Below W0.heap.size W0 w) : Bld W0 w.heap.size [] (w.alloc (.cells #[.pointer none, .slice none 0 0] 105)) :=
 ⟨.inl ⟨h.size, .slice none 0 0, heap_alloc_new w _, ⟨rfl, .inl ⟨rfl, rfl⟩⟩, by simp [Value.ownBlock]⟩, h.alloc h.size _⟩
def DataPost (ps : List ByteArray) (w : World) (e : Ending) (w' : World) : Prop :=
 e = .returned (.tuple #[.string ⟨(if wrongOf 998 ps = 0 then dataOf ps else []).toArray⟩, .int .i64 (wrongOf 998 ps)]) ∧ Below w.heap.size w w'
set_option maxHeartbeats 1000000 in
theorem data_x (n c : Nat) (ps : List ByteArray) (A : Option Addr) (w : World) (hs : Strs w A n ps) (hz : (joinB ps).length ≤ 1000000000) (hn : n ≤ 1000000000) :
  Calls Tryz.prog 49 #[.slice A n c] w (DataPost ps w) := by
 have hzz : ∀ p ∈ ps, p.size ≤ 1000000000 := fun p hp => by
  obtain ⟨k, hk⟩ := List.getElem?_of_mem hp
  have := (join_le (m := 0) hk).2
  omega
 have hbl := bodyOf_len ps
 rw [hs.1] at hbl
 have HW := Lib.hid (wrong_x 998 n c ps A w hs (fun p hp => by have := hzz p hp; omega) hn)
 have HS := Lib.hid hs
 have HZ := Lib.hid hzz
 have HBL := Lib.hid hbl
 clear hs hzz hbl
 go_enter Tryz.func49, Tryz.ntmps49
 go_wp2_with fail
 refine HW.out.mono ?_
 rintro e w1 ⟨rfl, hb1⟩
 have HB1 := Lib.hid hb1
 clear hb1
 by_cases hw0 : wrongOf 998 ps = 0
 ·have H0 := Lib.hid hw0
  rw [hw0]
  clear hw0
  go_wp2_with fail
  have hnew := Lib.hid (bld_new w w1 HB1.out)
  go_loopw [15] (fun i wr => ∃ k : Nat, k ≤ n ∧ i = .int .i64 k ∧ Bld w w1.heap.size (bodyOf (ps.take k)) wr) (fun i _ => n - (intOf i).toNat)
  case atStart => exact ⟨0, Nat.zero_le _, rfl, hnew.out⟩
  case round =>
   obtain ⟨k, hk, rfl, hb⟩ := hrel
   by_cases hlt : k < n
   ·obtain ⟨ad, p, rfl, hpk, hab, hcw⟩ := HS.out.cell hlt
    have hcl : wr.cell? (ad.add k) = some (.string p) := (hb.2.cell (by rw [add_block]; exact hab)).trans hcw
    have hps := HZ.out p (List.mem_of_getElem? hpk)
    have HPK := Lib.hid hpk
    have HB := Lib.hid hb
    have hlen : (bodyOf (ps.take k)).length ≤ 4000000000 := by have := bodyOf_le ps k; have := HBL.out; omega
    clear hpk hcw hb
    generalize hbo : bodyOf (ps.take k) = bo at HB hlen
    have HBO := Lib.hid hbo
    clear hbo
    have HP := Lib.hid (Tryz.strings_HasPrefix p { data := #[46] } wr)
    cases hpf : Lib.hasPrefix p.data.toList [46]
    ·have HPF := Lib.hid hpf
     clear hpf
     go_wp2_with fail
     refine HP.out.mono ?_
     rintro e w2 ⟨rfl, rfl⟩
     rw [show Lib.hasPrefix p.data.toList ({ data := #[46] } : ByteArray).data.toList = false from HPF.out]
     go_wp2_with fail
     refine (bld_write HB.out p (by omega)).mono ?_
     rintro e w3 ⟨rfl, h3⟩
     have HB3 := Lib.hid h3
     clear h3
     go_wp2_with fail
     refine (bld_end HB3.out (by rw [List.length_append, ← Lib.size_eq]; omega)).mono ?_
     rintro e w4 ⟨rfl, h4⟩
     have HB4 := Lib.hid h4
     clear h4
     go_wp2_with fail
     go_roundw
     case rel => exact ⟨k + 1, by omega, by go_num, by rw [bodyOf_take HPK.out, HBO.out, laidOf_no HPF.out, ← List.append_assoc]; exact HB4.out⟩
     case measure => simp [intOf]; omega
    ·have HPF := Lib.hid hpf
     clear hpf
     go_wp2_with fail
     refine HP.out.mono ?_
     rintro e w2 ⟨rfl, rfl⟩
     rw [show Lib.hasPrefix p.data.toList ({ data := #[46] } : ByteArray).data.toList = true from HPF.out]
     go_wp2_with fail
     refine (bld_dot HB.out (by omega)).mono ?_
     rintro e w5 ⟨rfl, h5⟩
     have HB5 := Lib.hid h5
     clear h5
     go_wp2_with fail
     refine (bld_write HB5.out p (by rw [List.length_append]; simp; omega)).mono ?_
     rintro e w3 ⟨rfl, h3⟩
     have HB3 := Lib.hid h3
     clear h3
     go_wp2_with fail
     refine (bld_end HB3.out (by rw [List.length_append, List.length_append, ← Lib.size_eq]; simp; omega)).mono ?_
     rintro e w4 ⟨rfl, h4⟩
     have HB4 := Lib.hid h4
     clear h4
     go_wp2_with fail
     go_roundw
     case rel => exact ⟨k + 1, by omega, by go_num, by rw [bodyOf_take HPK.out, HBO.out, laidOf_yes HPF.out, ← List.append_assoc, ← List.append_assoc]; exact HB4.out⟩
     case measure => simp [intOf]; omega
   ·rw [List.take_of_length_le (by rw [HS.out.1]; omega)] at hb
    have HB := Lib.hid hb
    have hlen := HBL.out
    clear hb
    go_wp2_with fail
    refine (bld_dot HB.out (by omega)).mono ?_
    rintro e w2 ⟨rfl, h2⟩
    have HB2 := Lib.hid h2
    clear h2
    go_wp2_with fail
    refine (bld_end HB2.out (by rw [List.length_append]; simp; omega)).mono ?_
    rintro e w3 ⟨rfl, h3⟩
    have HB3 := Lib.hid h3
    clear h3
    go_wp2_with fail
    refine (Tryz.Builder_String_any_k w.heap.size w1.heap.size _ w3 HB3.out.1 HB3.out.2.size).mono ?_
    rintro e w4 ⟨rfl, _, hb4, _⟩
    have HB4 := Lib.hid hb4
    clear hb4
    generalize hd : bodyOf ps ++ [46] ++ [13, 10] = d
    have HD := Lib.hid hd
    clear hd
    go_wp2_with fail
    go_ret2
    exact ⟨by rw [H0.out, if_pos rfl, ← HD.out, dataOf, List.append_assoc]; rfl, HB3.out.2.trans HB4.out⟩
 ·have hne : (wrongOf 998 ps != 0) = true := by rw [bne_iff_ne]; exact hw0
  have H0 := Lib.hid hw0
  clear hw0
  go_wp2_with fail
  go_ret2
  exact ⟨by rw [if_neg H0.out]; rfl, HB1.out⟩
end Go.Proofs.YtojpkbonioglbaaGreatDoor.L
namespace Go.Proofs.YtojpkbonioglbaaGreatDoor.L
set_option maxRecDepth 100000
open Go.RowKit
theorem own_of {w w' : World} {B : Nat} {e : TypeId} {size n : Nat} {v : Value} {xs : List Value} (h : w.ownsRow B e size v n xs) (hk : ∀ k, v.ownBlock = some k → w'.heap[k]? = w.heap[k]?) : w'.ownsRow B e size v n xs := by
 refine ⟨h.1, ?_⟩
 rcases h.2 with h0 | ⟨k, cap, cur, hv, hB, hh, h1, h2, h3, h4⟩
 ·exact .inl h0
 ·exact .inr ⟨k, cap, cur, hv, hB, (hk k (by rw [hv]; rfl)).trans hh, h1, h2, h3, h4⟩
theorem Tryz.info9 : (Tryz.prog.info? 9).map (fun i => (i.zero, i.size, i.bytes)) = some (some (.string ⟨#[]⟩), 1, 16) := by kernel_rfl
def strsV (l : List (List UInt8)) : List Value := l.map fun t => .string (mkS t)
def cutE (r : List UInt8) : List UInt8 × List UInt8 × Bool := Lib.cut r [13, 10]
def und : Nat → List (List UInt8) → List UInt8 → Option (List (List UInt8) × List UInt8)
 | 0, _, _ => none
 | f + 1, acc, r => if (cutE r).2.2 = true then (if (cutE r).1 = [46] then some (acc, (cutE r).2.1) else und f (acc ++ [(cutE r).1]) (cutE r).2.1) else none
theorem cutE_len (r : List UInt8) (h : (cutE r).2.2 = true) : (cutE r).1.length + 2 + (cutE r).2.1.length = r.length := by
 unfold cutE Lib.cut at *
 split at h
 ·rename_i h0
  have := Lib.index_room r [13, 10] h0
  simp only [if_pos h0, List.length_take, List.length_drop, List.length_cons, List.length_nil] at this ⊢
  omega
 ·cases h
def NextPost (rb : Nat) (t r' : List UInt8) (ok : Bool) (w : World) (e : Ending) (w' : World) : Prop :=
 e = .returned (.tuple #[.string (mkS t), .bool ok]) ∧ w'.heap[rb]? = some (.cells #[.string (mkS r')] 9 (0, 0)) ∧ w.grownBy w' (some rb)
structure US (W0 : World) (acc : List (List UInt8)) (r : List UInt8) (lv : Value) (w : World) : Prop where
 rest : w.heap[W0.heap.size]? = some (.cells #[.string (mkS r)] 9 (0, 0))
 row : w.ownsRow (W0.heap.size + 1) 9 1 lv acc.length (strsV acc)
 below : Below W0.heap.size W0 w
theorem US.next {W0 w w' : World} {acc : List (List UInt8)} {r r' : List UInt8} {lv : Value} (h : US W0 acc r lv w) (hr : w'.heap[W0.heap.size]? = some (.cells #[.string (mkS r')] 9 (0, 0))) (hg : w.grownBy w' (some W0.heap.size)) : US W0 acc r' lv w' := by
 refine ⟨hr, own_of h.row fun k hk => ?_, h.below.grown hg h.below.size (fun k hk => by injection hk with hk; omega)⟩
 have := h.row.lt k hk
 exact hg.block k this.2 (fun e => by injection e with e; omega)
theorem US.more {W0 w W w1 : World} {acc : List (List UInt8)} {r t : List UInt8} {lv v1 : Value} (h : US W0 acc r lv w) (hb : Below w.heap.size w W) (hg : W.grownBy w1 lv.ownBlock) (ho : w1.ownsRow (W0.heap.size + 1) 9 1 v1 (acc.length + 1) (strsV acc ++ [.string (mkS t)])) : US W0 (acc ++ [t]) r v1 w1 := by
 have hlt := ltOf h.rest
 have hne : ∀ k, lv.ownBlock = some k → W0.heap.size + 1 ≤ k := fun k hk => (h.row.lt k hk).1
 refine ⟨?_, ?_, ?_⟩
 ·refine (hg.block _ (Nat.lt_of_lt_of_le hlt hb.size) (fun e => ?_)).trans ((hb.block _ hlt).trans h.rest)
  have := hne _ e.symm
  omega
 ·have e1 : (acc ++ [t]).length = acc.length + 1 := by simp
  have e2 : strsV (acc ++ [t]) = strsV acc ++ [.string (mkS t)] := by simp [strsV]
  rw [e1, e2]
  exact ho
 ·exact (h.below.trans (hb.mono h.below.size)).grown hg (Nat.le_trans h.below.size hb.size) (fun k hk => by have := hne k hk; omega)
theorem US.later {W0 w w' : World} {acc : List (List UInt8)} {r : List UInt8} {lv : Value} (h : US W0 acc r lv w) (hb : Below w.heap.size w w') : US W0 acc r lv w' :=
 ⟨(hb.block _ (ltOf h.rest)).trans h.rest, own_below h.row hb, h.below.trans (hb.mono h.below.size)⟩
theorem own_strs {w : World} {B c : Nat} {A : Option Addr} {l : List (List UInt8)} (h : w.ownsRow B 9 1 (.slice A l.length c) l.length (strsV l)) : Strs w A l.length (l.map mkS) := by
 refine ⟨by simp, fun hn => ?_⟩
 obtain ⟨g, cap, hv, _, hlt⟩ := h.form hn
 injection hv with h1 h2 h3
 subst h1
 refine ⟨_, rfl, hlt, fun j p hj => ?_⟩
 refine h.cells rfl j (.string p) ?_
 rw [List.getElem?_map] at hj
 rw [strsV, List.getElem?_map]
 cases hlj : l[j]? with
 | none => rw [hlj] at hj; cases hj
 | some t => rw [hlj] at hj; injection hj with hj; rw [← hj]; rfl
def undata (s : List UInt8) : List (List UInt8) × List UInt8 × Int :=
 match und (s.length + 1) [] s with
 | none => ([], [], 12)
 | some (l, rest) => if wrongOf 999 (l.map mkS) = 0 then (l.map (fun t => Lib.trimPrefix t [46]), rest, 0) else ([], [], wrongOf 999 (l.map mkS))
def UndPost (s : List UInt8) (w : World) (e : Ending) (w' : World) : Prop :=
 ∃ o, e = .returned (.tuple #[o, .string (mkS (undata s).2.1), .int .i64 (undata s).2.2]) ∧ w'.ownsRow w.heap.size 9 1 o (undata s).1.length (strsV (undata s).1) ∧ Below w.heap.size w w'
theorem more_le {acc : List (List UInt8)} {t : List UInt8} {N : Nat} (h : ∀ u ∈ acc, u.length ≤ N) (ht : t.length ≤ N) : Hid (∀ u ∈ acc ++ [t], u.length ≤ N) := by
 intro u hu
 rcases List.mem_append.1 hu with hu | hu
 ·exact h u hu
 ·rw [List.mem_singleton.1 hu]; exact ht
set_option maxHeartbeats 1000000 in
theorem clone_x (s : ByteArray) (w : World) (hs : s.size ≤ 281474976710656) : Calls Tryz.prog 27 #[.string s] w fun e w' => e = .returned (.string s) ∧ Below w.heap.size w w' := by
 go_enter Tryz.func27, Tryz.ntmps27
 go_wp2_with (go_at_call 44; refine (Tryz.stringslite_Clone s w hs).mono ?_; rintro e w' ⟨rfl, hw⟩)
 go_ret
 exact ⟨rfl, hw⟩
theorem trim_x (t : List UInt8) (w : World) : Calls Tryz.prog 87 #[.string (mkS t), .string { data := #[46] }] w fun e w' => e = .returned (.string (mkS (Lib.trimPrefix t [46]))) ∧ w = w' :=
 (Tryz.strings_TrimPrefix (mkS t) { data := #[46] } w).mono fun e w' ⟨he, hw⟩ => ⟨by rw [he]; simp [mkS], hw.symm⟩
theorem trim_len (t : List UInt8) : (Lib.trimPrefix t [46]).length ≤ t.length := by
 unfold Lib.trimPrefix
 split
 ·simp
 ·exact Nat.le_refl _
def rowAt (l : List (List UInt8)) (k : Nat) : List (List UInt8) := (l.take k).map (fun t => Lib.trimPrefix t [46]) ++ l.drop k
theorem rowAt_zero (l : List (List UInt8)) : rowAt l 0 = l := by simp [rowAt]
theorem rowAt_all {l : List (List UInt8)} {k : Nat} (h : l.length ≤ k) : rowAt l k = l.map (fun t => Lib.trimPrefix t [46]) := by
 rw [rowAt, List.take_of_length_le h, List.drop_of_length_le h, List.append_nil]
theorem rowAt_get {l : List (List UInt8)} {k : Nat} {t : List UInt8} (h : l[k]? = some t) : (rowAt l k)[k]? = some t := by
 obtain ⟨hk, _⟩ := List.getElem?_eq_some_iff.1 h
 have e : ((l.take k).map (fun t => Lib.trimPrefix t [46])).length = k := by rw [List.length_map, List.length_take]; omega
 rw [rowAt, List.getElem?_append_right (by omega), e, Nat.sub_self, List.getElem?_drop]
 exact h
theorem rowAt_set {l : List (List UInt8)} {k : Nat} {t : List UInt8} (h : l[k]? = some t) : (strsV (rowAt l k)).set k (.string (mkS (Lib.trimPrefix t [46]))) = strsV (rowAt l (k + 1)) := by
 obtain ⟨hk, ht⟩ := List.getElem?_eq_some_iff.1 h
 have e : ((l.take k).map (fun t => Lib.trimPrefix t [46])).length = k := by rw [List.length_map, List.length_take]; omega
 have e2 : rowAt l (k + 1) = (rowAt l k).set k (Lib.trimPrefix t [46]) := by
  rw [rowAt, rowAt, List.set_append, if_neg (by omega), e, Nat.sub_self, List.take_succ_eq_append_getElem hk, List.drop_eq_getElem_cons hk, ht, List.set_cons_zero]
  simp
 rw [e2, strsV, strsV, List.map_set]
theorem rowAt_length (l : List (List UInt8)) (k : Nat) : (rowAt l k).length = l.length := by
 rw [rowAt, List.length_append, List.length_map, List.length_take, List.length_drop]; omega
structure UT (W0 : World) (acc : List (List UInt8)) (k : Nat) (r : List UInt8) (lv : Value) (w : World) : Prop where
 rest : w.heap[W0.heap.size]? = some (.cells #[.string (mkS r)] 9 (0, 0))
 row : w.ownsRow (W0.heap.size + 1) 9 1 lv acc.length (strsV (rowAt acc k))
 below : Below W0.heap.size W0 w
theorem UT.start {W0 w : World} {acc : List (List UInt8)} {r : List UInt8} {lv : Value} (h : US W0 acc r lv w) : UT W0 acc 0 r lv w := ⟨h.rest, by rw [rowAt_zero]; exact h.row, h.below⟩
theorem UT.later {W0 w w' : World} {acc : List (List UInt8)} {k : Nat} {r : List UInt8} {lv : Value} (h : UT W0 acc k r lv w) (hb : Below w.heap.size w w') : UT W0 acc k r lv w' :=
 ⟨(hb.block _ (ltOf h.rest)).trans h.rest, own_below h.row hb, h.below.trans (hb.mono h.below.size)⟩
theorem UT.store {W0 w : World} {acc : List (List UInt8)} {k g c : Nat} {r t : List UInt8} (h : UT W0 acc k r (.slice (some ⟨g, 0, none⟩) acc.length c) w) (ht : acc[k]? = some t) :
  UT W0 acc (k + 1) r (.slice (some ⟨g, 0, none⟩) acc.length c) (w.setCell ⟨g, k, none⟩ (.string (mkS (Lib.trimPrefix t [46])))) := by
 have hg := (h.row.lt g rfl).1
 have hs := (h.row.stored k (.string (mkS (Lib.trimPrefix t [46])))).1
 rw [rowAt_set ht] at hs
 exact ⟨(Below.heap_setCell _ _ _ _ (by show W0.heap.size ≠ g; omega)).trans h.rest, hs, h.below.setCell (p := ⟨g, k, none⟩) (by show W0.heap.size ≤ g; omega) _⟩
theorem und_none {s : List UInt8} {w w' : World} (hb : Below w.heap.size w w') (h : und (s.length + 1) [] s = none) : UndPost s w (.returned (.tuple #[.slice none 0 0, .string ⟨#[]⟩, .int .i64 12])) w' := by
 have e : undata s = ([], [], 12) := by rw [undata, h]
 unfold UndPost
 rw [e]
 exact ⟨_, rfl, ⟨rfl, .inl ⟨rfl, rfl⟩⟩, hb⟩
theorem und_wrong {s r : List UInt8} {l : List (List UInt8)} {w w' : World} (hb : Below w.heap.size w w') (h : und (s.length + 1) [] s = some (l, r)) (h0 : wrongOf 999 (l.map mkS) ≠ 0) : UndPost s w (.returned (.tuple #[.slice none 0 0, .string ⟨#[]⟩, .int .i64 (wrongOf 999 (l.map mkS))])) w' := by
 have e : undata s = ([], [], wrongOf 999 (l.map mkS)) := by rw [undata, h]; simp only [if_neg h0]
 unfold UndPost
 rw [e]
 exact ⟨_, rfl, ⟨rfl, .inl ⟨rfl, rfl⟩⟩, hb⟩
theorem und_some {s r : List UInt8} {l : List (List UInt8)} {k c : Nat} {A : Option Addr} {w w' : World} (hb : UT w l k r (.slice A l.length c) w') (hk : l.length ≤ k) (h : und (s.length + 1) [] s = some (l, r)) (h0 : wrongOf 999 (l.map mkS) = 0) : UndPost s w (.returned (.tuple #[.slice A l.length c, .string (mkS r), .int .i64 0])) w' := by
 have e : undata s = (l.map (fun t => Lib.trimPrefix t [46]), r, 0) := by rw [undata, h]; simp only [if_pos h0]
 have hr := hb.row
 rw [rowAt_all hk] at hr
 unfold UndPost
 rw [e]
 exact ⟨_, rfl, by rw [List.length_map]; exact own_mono hr (by omega), hb.below⟩
end Go.Proofs.YtojpkbonioglbaaGreatDoor.L
namespace Go.Proofs.YtojpkbonioglbaaGreatDoor.E
set_option maxRecDepth 100000
open Go.RowKit
theorem plainB_mem {l : List UInt8} (h : L.plainB l = true) {b : UInt8} (hb : b ∈ l) : b ≠ 13 ∧ b ≠ 10 ∧ b ≠ 0 := by
 have := List.all_eq_true.1 h b hb
 simp only [Bool.and_eq_true, bne_iff_ne] at this
 exact ⟨this.2, this.1.2, this.1.1⟩
theorem cutE_hit {t : List UInt8} (ht : L.plainB t = true) (r : List UInt8) : L.cutE (t ++ ([13, 10] ++ r)) = (t, r, true) := tk_hit (c := 13) (cs := [10]) (fun h => (plainB_mem ht h).1 rfl) r
theorem und_laid : ∀ (ts : List (List UInt8)) (acc : List (List UInt8)) (f : Nat) (r : List UInt8), (∀ t ∈ ts, L.plainB t = true ∧ t ≠ [46]) → ts.length < f →
  L.und f acc (ts.flatMap (fun t => t ++ [13, 10]) ++ ([46] ++ ([13, 10] ++ r))) = some (acc ++ ts, r)
 | [], acc, f, r, _, hf => by
  obtain ⟨f', rfl⟩ : ∃ f', f = f' + 1 := ⟨f - 1, by simp at hf; omega⟩
  have e : L.cutE ([46] ++ ([13, 10] ++ r)) = ([46], r, true) := cutE_hit rfl r
  simp only [List.flatMap_nil, List.nil_append, List.append_nil, L.und, e, if_true]
 | t :: ts, acc, f, r, h, hf => by
  obtain ⟨f', rfl⟩ : ∃ f', f = f' + 1 := ⟨f - 1, by simp at hf; omega⟩
  obtain ⟨hp, hd⟩ := h t (by simp)
  have e : L.cutE ((t :: ts).flatMap (fun t => t ++ [13, 10]) ++ ([46] ++ ([13, 10] ++ r))) = (t, ts.flatMap (fun t => t ++ [13, 10]) ++ ([46] ++ ([13, 10] ++ r)), true) := by
   rw [List.flatMap_cons, List.append_assoc, List.append_assoc]
   exact cutE_hit hp _
  rw [L.und, e]
  simp only [if_true, if_neg hd]
  rw [und_laid ts (acc ++ [t]) f' r (fun u hu => h u (by simp [hu])) (by simp at hf; omega)]
  simp
def dotted (p : List UInt8) : List UInt8 := (if Lib.hasPrefix p [46] then [46] else []) ++ p
theorem laidOf_dotted (p : List UInt8) : L.laidOf p = dotted p ++ [13, 10] := by simp [L.laidOf, dotted]
theorem bodyOf_dotted (ps : List ByteArray) : L.bodyOf ps = (ps.map fun p => dotted p.data.toList).flatMap (fun t => t ++ [13, 10]) := by
 rw [L.bodyOf, List.flatMap_map]
 congr 1
 funext p
 exact laidOf_dotted _
theorem dotted_plain {p : List UInt8} (h : L.plainB p = true) : L.plainB (dotted p) = true := by
 unfold dotted
 split
 ·unfold L.plainB at *
  rw [List.all_append, h]; rfl
 ·exact h
theorem dotted_ne (p : List UInt8) : dotted p ≠ [46] := by
 unfold dotted
 split
 ·rename_i h
  cases p with
  | nil => exact absurd h (by decide)
  | cons a t => simp
 ·rename_i h
  intro e
  simp only [List.nil_append] at e
  rw [e] at h
  exact h rfl
theorem dotted_trim (p : List UInt8) : Lib.trimPrefix (dotted p) [46] = p := by
 unfold dotted
 split
 ·rename_i h
  rw [Lib.trimPrefix, if_pos (by simp [Lib.hasPrefix, List.isPrefixOf])]
  rfl
 ·rename_i h
  rw [List.nil_append, Lib.trimPrefix, if_neg h]
theorem dotted_len (p : List UInt8) : (dotted p).length ≤ p.length + 1 := by
 unfold dotted
 split <;> simp
theorem wrongOf_zero {most : Nat} {ps : List ByteArray} (h : L.wrongOf most ps = 0) : ∀ p ∈ ps, L.plainB p.data.toList = true ∧ p.size ≤ most := by
 unfold L.wrongOf at h
 split at h
 ·omega
 ·rename_i h1
  split at h
  ·omega
  ·rename_i h2
   intro p hp
   constructor
   ·by_cases hx : L.plainB p.data.toList = true
    ·exact hx
    ·exact absurd (List.any_eq_true.2 ⟨p, hp, by simpa using hx⟩) h1
   ·by_cases hx : p.size ≤ most
    ·exact hx
    ·exact absurd (List.any_eq_true.2 ⟨p, hp, decide_eq_true (by omega)⟩) h2
theorem zero_wrongOf {most : Nat} {ps : List ByteArray} (h : ∀ p ∈ ps, L.plainB p.data.toList = true ∧ p.size ≤ most) : L.wrongOf most ps = 0 := by
 refine L.wrongOf_0 ?_ ?_
 ·rw [List.any_eq_false]
  intro p hp
  rw [(h p hp).1]; decide
 ·rw [List.any_eq_false]
  intro p hp
  have := (h p hp).2
  simp; omega
theorem dataOf_eq (ps : List ByteArray) (r : List UInt8) : L.dataOf ps ++ r = (ps.map fun p => dotted p.data.toList).flatMap (fun t => t ++ [13, 10]) ++ ([46] ++ ([13, 10] ++ r)) := by
 rw [L.dataOf, bodyOf_dotted]; simp
theorem flat_len (ts : List (List UInt8)) : ts.length ≤ (ts.flatMap (fun t => t ++ [13, 10])).length := by
 induction ts with
 | nil => simp
 | cons t ts ih => simp only [List.flatMap_cons, List.length_append, List.length_cons, List.length_nil] at ih ⊢; omega
theorem undata_data (ps : List ByteArray) (r : List UInt8) (h : L.wrongOf 998 ps = 0) : L.undata (L.dataOf ps ++ r) = (ps.map (fun p => p.data.toList), r, 0) := by
 have hw := wrongOf_zero h
 have hts : ∀ t ∈ ps.map (fun p => dotted p.data.toList), L.plainB t = true ∧ t ≠ [46] := fun t ht => by
  obtain ⟨p, hp, rfl⟩ := List.mem_map.1 ht
  exact ⟨dotted_plain (hw p hp).1, dotted_ne _⟩
 have hu := und_laid (ps.map fun p => dotted p.data.toList) [] ((L.dataOf ps ++ r).length + 1) r hts (by
  rw [dataOf_eq, List.length_append]
  have := flat_len (ps.map fun p => dotted p.data.toList)
  omega)
 rw [← dataOf_eq, List.nil_append] at hu
 have h9 : L.wrongOf 999 ((ps.map (fun p => dotted p.data.toList)).map mkS) = 0 := zero_wrongOf fun q hq => by
  obtain ⟨t, ht, rfl⟩ := List.mem_map.1 hq
  obtain ⟨p, hp, rfl⟩ := List.mem_map.1 ht
  have h1 := dotted_len p.data.toList
  have h2 := (hw p hp).2
  rw [← Lib.size_eq] at h1
  rw [mkS_data, mkS_size]
  exact ⟨dotted_plain (hw p hp).1, by omega⟩
 rw [L.undata, hu]
 show (if L.wrongOf 999 ((ps.map (fun p => dotted p.data.toList)).map mkS) = 0 then ((ps.map (fun p => dotted p.data.toList)).map (fun t => Lib.trimPrefix t [46]), r, (0 : Int)) else ([], [], L.wrongOf 999 ((ps.map (fun p => dotted p.data.toList)).map mkS))) = _
 rw [if_pos h9, List.map_map]
 have e : ps.map ((fun t => Lib.trimPrefix t [46]) ∘ fun p => dotted p.data.toList) = ps.map (fun p => p.data.toList) := List.map_congr_left fun p _ => dotted_trim _
 rw [e]
theorem und_len : ∀ (f : Nat) (acc : List Txt) (r : Txt) (l : List Txt) (x : Txt) (N : Nat), L.und f acc r = some (l, x) → (∀ t ∈ acc, t.length ≤ N) → r.length ≤ N → (∀ t ∈ l, t.length ≤ N) ∧ l.length ≤ acc.length + r.length ∧ x.length ≤ r.length
 | 0, _, _, _, _, _, h, _, _ => by cases h
 | f + 1, acc, r, l, x, N, h, ha, hr => by
  rw [L.und] at h
  split at h
  ·rename_i hc
   have hl := L.cutE_len r hc
   split at h
   ·injection h with h
    injection h with h1 h2
    subst h1 h2
    exact ⟨ha, by omega, by omega⟩
   ·obtain ⟨h1, h2, h3⟩ := und_len f (acc ++ [(L.cutE r).1]) (L.cutE r).2.1 l x N h (fun t ht => by
     rcases List.mem_append.1 ht with ht | ht
     ·exact ha t ht
     ·rw [List.mem_singleton.1 ht]; omega) (by omega)
    simp only [List.length_append, List.length_cons, List.length_nil] at h2
    exact ⟨h1, by omega, by omega⟩
  ·cases h
theorem undata_len (s : Txt) : (∀ t ∈ (L.undata s).1, t.length ≤ s.length) ∧ (L.undata s).1.length ≤ s.length := by
 unfold L.undata
 cases h : L.und (s.length + 1) [] s with
 | none => simp
 | some q =>
  obtain ⟨l, x⟩ := q
  obtain ⟨h1, h2, h3⟩ := und_len _ _ _ _ _ s.length h (by simp) (Nat.le_refl _)
  simp only [List.length_nil, Nat.zero_add] at h2
  show (∀ t ∈ (if L.wrongOf 999 (l.map mkS) = 0 then (l.map (fun t => Lib.trimPrefix t [46]), x, (0 : Int)) else ([], [], L.wrongOf 999 (l.map mkS))).1, t.length ≤ s.length) ∧ (if L.wrongOf 999 (l.map mkS) = 0 then (l.map (fun t => Lib.trimPrefix t [46]), x, (0 : Int)) else ([], [], L.wrongOf 999 (l.map mkS))).1.length ≤ s.length
  split
  ·refine ⟨fun t ht => ?_, by simpa using h2⟩
   obtain ⟨u, hu, rfl⟩ := List.mem_map.1 ht
   exact Nat.le_trans (L.trim_len u) (h1 u hu)
  ·simp
structure Rc where
 p : P.Pth
 r : RL
structure EM where
 id : Int
 at_ : Int
 rel : Int
 fr : P.Pth
 m : ML
 rc : List Rc
 ls : List Txt
def zeroE : EM := ⟨0, 0, 0, ([], []), zeroM, [], []⟩
def cmdM (x : EM) : CL := ⟨vMAIL, [], x.fr, x.m, zeroR⟩
def cmdR (c : Rc) : CL := ⟨vRCPT, [], c.p, zeroM, c.r⟩
def cmds (x : EM) : List CL := cmdM x :: x.rc.map cmdR
noncomputable def sayE : List CL → Int
 | [] => 0
 | c :: l => if prE c = 0 then sayE l else prE c
noncomputable def sayV (l : List CL) : Txt := l.flatMap fun c => prV c ++ [13, 10]
def rangedB (x : EM) : Bool := (decide (1 ≤ x.id) && decide (x.id ≤ 2147483647)) && ((decide (0 ≤ x.at_) && decide (x.at_ ≤ 1099511627776)) && (decide (x.at_ ≤ x.rel) && decide (x.rel ≤ x.at_ + 1048576)))
def bs (l : List Txt) : List ByteArray := l.map mkS
noncomputable def enE (x : EM) : Int :=
 if rangedB x = false then 1 else if sayE (cmds x) ≠ 0 then sayE (cmds x) else if x.rc.length < 1 ∨ 8 < x.rc.length then 3 else if L.wrongOf 998 (bs x.ls) ≠ 0 then L.wrongOf 998 (bs x.ls) else if 4096 < (L.dataOf (bs x.ls)).length then 3 else 0
def wordsI (a b c : Int) : Txt := Lib.itoa a ++ (32 :: (Lib.itoa b ++ (32 :: Lib.itoa c)))
def headE (x : EM) : Txt := 81 :: 32 :: wordsI x.id x.at_ x.rel
noncomputable def bytesE (x : EM) : Txt := headE x ++ [13, 10] ++ sayV (cmds x) ++ [13, 10] ++ L.dataOf (bs x.ls)
noncomputable def enV (x : EM) : Txt := if enE x = 0 then bytesE x else []
def rcs : Nat → Txt → List CL × Txt
 | 0, r => ([], r)
 | f + 1, r => if (tk [13, 10] r).1 = [] then ([], (tk [13, 10] r).2.1) else (cpV (tk [13, 10] r).1 :: (rcs f (tk [13, 10] r).2.1).1, (rcs f (tk [13, 10] r).2.1).2)
def nx (r : Txt) : Txt := (tk [32] r).2.1
def wd (r : Txt) : Txt := (tk [32] r).1
def ln (r : Txt) : Txt := (tk [13, 10] r).1
def lx (r : Txt) : Txt := (tk [13, 10] r).2.1
def rcsV (s : Txt) : List CL × Txt := rcs (s.length + 1) s
def readE (s : Txt) : EM :=
 ⟨numV (wd (nx (ln s))), numV (wd (nx (nx (ln s)))), numV (wd (nx (nx (nx (ln s))))), (cpV (ln (lx s))).p, (cpV (ln (lx s))).m, (rcsV (lx (lx s))).1.map (fun c => ⟨c.p, c.r⟩), (L.undata (rcsV (lx (lx s))).2).1⟩
noncomputable def paE (s : Txt) : Int := if s.length ≤ 9728 ∧ enE (readE s) = 0 ∧ enV (readE s) = s then 0 else 2
noncomputable def paV (s : Txt) : EM := if paE s = 0 then readE s else zeroE
theorem sayE_0 : ∀ {l : List CL}, sayE l = 0 → ∀ c ∈ l, prE c = 0
 | [], _, c, hc => by simp at hc
 | a :: l, h, c, hc => by
  rw [sayE] at h
  split at h
  ·rename_i ha
   rcases List.mem_cons.1 hc with rfl | hc
   ·exact ha
   ·exact sayE_0 h c hc
  ·rename_i ha
   exact absurd h ha
theorem sayE_of : ∀ {l : List CL}, (∀ c ∈ l, prE c = 0) → sayE l = 0
 | [], _ => rfl
 | a :: l, h => by
  rw [sayE, if_pos (h a (by simp))]
  exact sayE_of fun c hc => h c (by simp [hc])
structure OkE (x : EM) : Prop where
 id : 1 ≤ x.id ∧ x.id ≤ 2147483647
 at_ : 0 ≤ x.at_ ∧ x.at_ ≤ 1099511627776
 rel : x.at_ ≤ x.rel ∧ x.rel ≤ x.at_ + 1048576
 say : ∀ c ∈ cmds x, prE c = 0
 rc : 1 ≤ x.rc.length ∧ x.rc.length ≤ 8
 wrong : L.wrongOf 998 (bs x.ls) = 0
 len : (L.dataOf (bs x.ls)).length ≤ 4096
theorem ranged_iff {x : EM} : rangedB x = true ↔ (1 ≤ x.id ∧ x.id ≤ 2147483647) ∧ (0 ≤ x.at_ ∧ x.at_ ≤ 1099511627776) ∧ (x.at_ ≤ x.rel ∧ x.rel ≤ x.at_ + 1048576) := by
 unfold rangedB
 simp only [Bool.and_eq_true, decide_eq_true_eq]
theorem en_iff {x : EM} : enE x = 0 ↔ OkE x := by
 constructor
 ·intro h
  unfold enE at h
  split at h
  ·cases h
  ·rename_i h1
   split at h
   ·rename_i h2; exact absurd h h2
   ·rename_i h2
    split at h
    ·cases h
    ·rename_i h3
     split at h
     ·rename_i h4; exact absurd h h4
     ·rename_i h4
      split at h
      ·cases h
      ·rename_i h5
       obtain ⟨a, b, c⟩ := ranged_iff.1 (by simpa using h1)
       exact ⟨a, b, c, sayE_0 (by omega), by omega, by omega, by omega⟩
 ·intro h
  unfold enE
  rw [if_neg (by rw [ranged_iff.2 ⟨h.id, h.at_, h.rel⟩]; decide), if_neg (by rw [sayE_of h.say]; decide), if_neg (by have := h.rc; omega), if_neg (by rw [h.wrong]; decide), if_neg (by have := h.len; omega)]
theorem rcs_say : ∀ (l : List CL) (f : Nat) (r : Txt), (∀ c ∈ l, prE c = 0 ∧ (c.verb = vMAIL ∨ c.verb = vRCPT)) → l.length < f → rcs f (sayV l ++ ([13, 10] ++ r)) = (l, r)
 | [], f, r, _, hf => by
  obtain ⟨f', rfl⟩ : ∃ f', f = f' + 1 := ⟨f - 1, by simp at hf; omega⟩
  have e : tk [13, 10] ([] ++ ([13, 10] ++ r)) = ([], r, true) := tk_hit (c := 13) (cs := [10]) (by simp) r
  show rcs (f' + 1) ([] ++ ([13, 10] ++ r)) = _
  rw [rcs, e, if_pos rfl]
 | c :: l, f, r, h, hf => by
  obtain ⟨f', rfl⟩ : ∃ f', f = f' + 1 := ⟨f - 1, by simp at hf; omega⟩
  obtain ⟨h1, h2⟩ := h c (by simp)
  have e : tk [13, 10] (sayV (c :: l) ++ ([13, 10] ++ r)) = (prV c, sayV l ++ ([13, 10] ++ r), true) := by
   have e0 : sayV (c :: l) ++ ([13, 10] ++ r) = prV c ++ ([13, 10] ++ (sayV l ++ ([13, 10] ++ r))) := by
    rw [sayV, List.flatMap_cons]; simp [sayV]
   rw [e0]
   exact tk_hit (c := 13) (cs := [10]) (prV_13 h2) _
  rw [rcs, e]
  have hi := rcs_say l f' r (fun d hd => h d (by simp [hd])) (by simp at hf; omega)
  rw [if_neg (prV_ne h1), hi, cp_say h1]
theorem cmds_verb {x : EM} : ∀ c ∈ cmds x, c.verb = vMAIL ∨ c.verb = vRCPT := by
 intro c hc
 rcases List.mem_cons.1 hc with rfl | hc
 ·exact .inl rfl
 ·obtain ⟨d, _, rfl⟩ := List.mem_map.1 hc
  exact .inr rfl
theorem int_nat {n : Int} (h : 0 ≤ n) : ∃ k : Nat, n = k := ⟨n.toNat, by omega⟩
theorem say_len : ∀ l : List CL, l.length ≤ (sayV l).length
 | [] => Nat.zero_le _
 | c :: l => by
  have ih := say_len l
  have e : sayV (c :: l) = prV c ++ [13, 10] ++ sayV l := by simp [sayV]
  rw [e]
  simp only [List.length_append, List.length_cons, List.length_nil]
  omega
theorem read_more {x : EM} (h : OkE x) (t : Txt) : readE (bytesE x ++ t) = x := by
 obtain ⟨id, at_, rel, fr, m, rc, ls⟩ := x
 obtain ⟨h1, h2, h3, h4, h5, h6, h7⟩ := h
 simp only at h1 h2 h3 h5 h6 h7
 obtain ⟨a, rfl⟩ := int_nat (show 0 ≤ id by omega)
 obtain ⟨b, rfl⟩ := int_nat h2.1
 obtain ⟨c, rfl⟩ := int_nat (show 0 ≤ rel by omega)
 have ha : a < 10 ^ 14 := by omega
 have hb : b < 10 ^ 14 := by omega
 have hc : c < 10 ^ 14 := by omega
 have s32 : ∀ {n : Nat}, n < 10 ^ 14 → (32 : UInt8) ∉ Lib.itoa (n : Int) := fun hn => itoa_sg hn (by decide)
 have s13 : ∀ {n : Nat}, n < 10 ^ 14 → (13 : UInt8) ∉ Lib.itoa (n : Int) := fun hn => itoa_sg hn (by decide)
 generalize hx : (⟨a, b, c, fr, m, rc, ls⟩ : EM) = x at h4
 have hM : cmdM x = ⟨vMAIL, [], fr, m, zeroR⟩ := by rw [← hx]; rfl
 have hR : x.rc = rc := by rw [← hx]
 have hL : x.ls = ls := by rw [← hx]
 have hH : headE x = 81 :: 32 :: wordsI a b c := by rw [← hx]; rfl
 have hh13 : 13 ∉ headE x := by
  rw [hH]
  have := s13 ha; have := s13 hb; have := s13 hc
  simp [wordsI, *]
 have e1 : tk [13, 10] (bytesE x ++ t) = (headE x, sayV (cmds x) ++ ([13, 10] ++ (L.dataOf (bs x.ls) ++ t)), true) := by
  have e0 : bytesE x ++ t = headE x ++ ([13, 10] ++ (sayV (cmds x) ++ ([13, 10] ++ (L.dataOf (bs x.ls) ++ t)))) := by simp [bytesE]
  rw [e0]
  exact tk_hit (c := 13) (cs := [10]) hh13 _
 have hm := h4 (cmdM x) (by simp [cmds])
 have e2 : tk [13, 10] (sayV (cmds x) ++ ([13, 10] ++ (L.dataOf (bs x.ls) ++ t))) = (prV (cmdM x), sayV (x.rc.map cmdR) ++ ([13, 10] ++ (L.dataOf (bs x.ls) ++ t)), true) := by
  have e0 : sayV (cmds x) ++ ([13, 10] ++ (L.dataOf (bs x.ls) ++ t)) = prV (cmdM x) ++ ([13, 10] ++ (sayV (x.rc.map cmdR) ++ ([13, 10] ++ (L.dataOf (bs x.ls) ++ t)))) := by simp [sayV, cmds]
  rw [e0]
  exact tk_hit (c := 13) (cs := [10]) (prV_13 (.inl rfl)) _
 have e3 : rcsV (sayV (x.rc.map cmdR) ++ ([13, 10] ++ (L.dataOf (bs x.ls) ++ t))) = (x.rc.map cmdR, L.dataOf (bs x.ls) ++ t) := by
  refine rcs_say _ _ _ (fun d hd => ?_) ?_
  ·have hd' : d ∈ cmds x := List.mem_cons_of_mem _ hd
   exact ⟨h4 d hd', cmds_verb d hd'⟩
  ·have := say_len (x.rc.map cmdR)
   rw [List.length_append]
   simp only [List.length_map] at this ⊢
   omega
 have e4 : L.undata (L.dataOf (bs x.ls) ++ t) = (ls, t, 0) := by
  have := undata_data (bs x.ls) t (by rw [hL]; exact h6)
  rw [this, hL, bs, List.map_map]
  rw [show ls.map ((fun p => p.data.toList) ∘ mkS) = ls from (List.map_congr_left fun p _ => mkS_data p).trans (List.map_id _)]
 have w1 : tk [32] (headE x) = ([81], wordsI a b c, true) := by rw [hH]; exact tk_hit (c := 32) (cs := []) (t := [81]) (by decide) _
 have w2 : tk [32] (wordsI a b c) = (Lib.itoa a, Lib.itoa b ++ (32 :: Lib.itoa c), true) := tk_hit (c := 32) (cs := []) (s32 ha) _
 have w3 : tk [32] (Lib.itoa b ++ (32 :: Lib.itoa c)) = (Lib.itoa b, Lib.itoa c, true) := tk_hit (c := 32) (cs := []) (s32 hb) _
 have w4 : tk [32] (Lib.itoa c) = (Lib.itoa c, [], false) := tk_no (c := 32) (cs := []) (s32 hc)
 have q1 : ln (bytesE x ++ t) = headE x := congrArg (·.1) e1
 have q2 : lx (bytesE x ++ t) = sayV (cmds x) ++ ([13, 10] ++ (L.dataOf (bs x.ls) ++ t)) := congrArg (·.2.1) e1
 have q3 : ln (lx (bytesE x ++ t)) = prV (cmdM x) := by rw [q2]; exact congrArg (·.1) e2
 have q4 : lx (lx (bytesE x ++ t)) = sayV (x.rc.map cmdR) ++ ([13, 10] ++ (L.dataOf (bs x.ls) ++ t)) := by rw [q2]; exact congrArg (·.2.1) e2
 have n1 : nx (headE x) = wordsI a b c := congrArg (·.2.1) w1
 have n2 : nx (wordsI a b c) = Lib.itoa b ++ (32 :: Lib.itoa c) := congrArg (·.2.1) w2
 have n3 : nx (Lib.itoa b ++ (32 :: Lib.itoa c)) = Lib.itoa c := congrArg (·.2.1) w3
 have d1 : wd (wordsI a b c) = Lib.itoa a := congrArg (·.1) w2
 have d2 : wd (Lib.itoa b ++ (32 :: Lib.itoa c)) = Lib.itoa b := congrArg (·.1) w3
 have d3 : wd (Lib.itoa c) = Lib.itoa c := congrArg (·.1) w4
 unfold readE
 rw [q1, q3, q4, n1, n2, n3, d1, d2, d3, num_itoa ha, num_itoa hb, num_itoa hc, e3, cp_say hm]
 simp only
 rw [e4, hM, hR]
 have er : (rc.map cmdR).map (fun c => (⟨c.p, c.r⟩ : Rc)) = rc := by
  rw [List.map_map]
  have : (fun c : CL => (⟨c.p, c.r⟩ : Rc)) ∘ cmdR = id := by funext d; cases d; rfl
  rw [this, List.map_id]
 rw [er, ← hx]
theorem read_back {x : EM} (h : OkE x) : readE (bytesE x) = x := by simpa using read_more h []
theorem bytes_len {x : EM} (h : OkE x) : (bytesE x).length ≤ 9728 := by
 obtain ⟨h1, h2, h3, h4, h5, h6, h7⟩ := h
 obtain ⟨a, ha⟩ := int_nat (show 0 ≤ x.id by omega)
 obtain ⟨b, hb⟩ := int_nat h2.1
 obtain ⟨c, hc⟩ := int_nat (show 0 ≤ x.rel by omega)
 have l1 := itoa_len (n := a) (by omega)
 have l2 := itoa_len (n := b) (by omega)
 have l3 := itoa_len (n := c) (by omega)
 have hw : (headE x).length ≤ 46 := by
  unfold headE wordsI
  rw [ha, hb, hc]
  simp only [List.length_cons, List.length_append]
  omega
 have key : ∀ l : List CL, (sayV l).length ≤ 512 * l.length := by
  intro l
  induction l with
  | nil => simp [sayV]
  | cons c l ih =>
   have := prV_len (c := c)
   have e : sayV (c :: l) = prV c ++ [13, 10] ++ sayV l := by simp [sayV]
   rw [e]
   simp only [List.length_append, List.length_cons, List.length_nil]
   omega
 have hk := key (cmds x)
 have hc9 : (cmds x).length = x.rc.length + 1 := by simp [cmds]
 unfold bytesE
 simp only [List.length_append, List.length_cons, List.length_nil]
 omega
theorem en_yes {x : EM} (h : enE x = 0) : enV x = bytesE x := if_pos h
theorem en_no {x : EM} (h : enE x ≠ 0) : enV x = [] := if_neg h
theorem pa_back {x : EM} (h : enE x = 0) : paE (enV x) = 0 ∧ paV (enV x) = x := by
 have hr := read_back (en_iff.1 h)
 have hl := bytes_len (en_iff.1 h)
 have e : paE (enV x) = 0 := by
  unfold paE
  rw [en_yes h, hr, if_pos ⟨hl, h, en_yes h⟩]
 refine ⟨e, ?_⟩
 unfold paV
 rw [if_pos e, en_yes h, hr]
theorem pa_0 {s : Txt} (h : paE s = 0) : s.length ≤ 9728 ∧ enE (paV s) = 0 ∧ enV (paV s) = s := by
 unfold paV
 rw [if_pos h]
 unfold paE at h
 split at h
 ·rename_i hh; exact hh
 ·cases h
theorem pa_2 {s : Txt} (h : paE s ≠ 0) : paE s = 2 ∧ paV s = zeroE := by
 unfold paV
 rw [if_neg h]
 unfold paE at h ⊢
 split
 ·rename_i hh; rw [if_pos hh] at h; exact absurd rfl h
 ·exact ⟨rfl, rfl⟩
theorem en_inj {x y : EM} (hx : enE x = 0) (hy : enE y = 0) (h : enV x = enV y) : x = y := by
 have := (pa_back hx).2
 rw [h, (pa_back hy).2] at this
 exact this.symm
theorem pa_cut {x : EM} (h : enE x = 0) {s t : Txt} (ht : t ≠ []) (e : s ++ t = enV x) : paE s = 2 := by
 refine (pa_2 fun h0 => ?_).1
 obtain ⟨_, h1, h2⟩ := pa_0 h0
 generalize paV s = y at h1 h2
 rw [en_yes h1] at h2
 have := read_more (en_iff.1 h1) t
 rw [h2, e, en_yes h, read_back (en_iff.1 h)] at this
 subst this
 rw [en_yes h] at e
 rw [← h2] at e
 have := congrArg List.length e
 exact ht (by simpa using this)
theorem pa_more {x : EM} (h : enE x = 0) {t : Txt} (ht : t ≠ []) : paE (enV x ++ t) = 2 := by
 refine (pa_2 fun h0 => ?_).1
 obtain ⟨_, h1, h2⟩ := pa_0 h0
 generalize paV (enV x ++ t) = y at h1 h2
 have hr := read_more (en_iff.1 h) t
 rw [en_yes h] at h2
 rw [en_yes h1] at h2
 have := read_back (en_iff.1 h1)
 rw [h2, hr] at this
 subst this
 have := congrArg List.length h2
 exact ht (by simpa using this)
theorem pa_ahead {x : EM} (h : enE x = 0) (b : UInt8) : paE (b :: enV x) = 2 := by
 refine (pa_2 fun h0 => ?_).1
 obtain ⟨_, h1, h2⟩ := pa_0 h0
 generalize paV (b :: enV x) = y at h1 h2
 rw [en_yes h1, en_yes h] at h2
 simp only [bytesE, headE, List.cons_append, List.cons.injEq] at h2
 exact absurd h2.2.1 (by decide)
structure ST where
 pl : Int
 st : Txt
 tr : Int
 ne : Int
 told : Int
def zeroT : ST := ⟨0, [], 0, 0, 0⟩
def stateB (s : Txt) : Bool := s == [82] || s == [68] || s == [71] || s == [70]
def inI (n a b : Int) : Bool := decide (a ≤ n) && decide (n ≤ b)
def stE (t : ST) : Int := if stateB t.st = false then 10 else if (inI t.pl 0 7 && inI t.tr 0 1000 && inI t.ne 0 2199023255552 && inI t.told 0 7) = false then 1 else 0
def bytesT (t : ST) : Txt := 83 :: 32 :: (Lib.itoa t.pl ++ (32 :: (t.st ++ (32 :: wordsI t.tr t.ne t.told))))
def stV (t : ST) : Txt := if stE t = 0 then bytesT t else []
def readT (s : Txt) : ST := ⟨numV (wd (nx s)), wd (nx (nx s)), numV (wd (nx (nx (nx s)))), numV (wd (nx (nx (nx (nx s))))), numV (wd (nx (nx (nx (nx (nx s))))))⟩
def ptE (s : Txt) : Int := if stE (readT s) = 0 ∧ stV (readT s) = s then 0 else 2
def ptV (s : Txt) : ST := if ptE s = 0 then readT s else zeroT
theorem st_iff {t : ST} : stE t = 0 ↔ stateB t.st = true ∧ (0 ≤ t.pl ∧ t.pl ≤ 7) ∧ (0 ≤ t.tr ∧ t.tr ≤ 1000) ∧ (0 ≤ t.ne ∧ t.ne ≤ 2199023255552) ∧ (0 ≤ t.told ∧ t.told ≤ 7) := by
 unfold stE inI
 cases hs : stateB t.st
 ·simp
 ·rw [if_neg (by decide)]
  constructor
  ·intro h
   split at h
   ·cases h
   ·rename_i hh
    simpa [and_assoc] using hh
  ·intro h
   rw [if_neg]
   simpa [and_assoc] using h
theorem state_cases {s : Txt} (h : stateB s = true) : s = [82] ∨ s = [68] ∨ s = [71] ∨ s = [70] := by simpa [stateB, or_assoc] using h
theorem readT_back {t : ST} (h : stE t = 0) : readT (bytesT t) = t := by
 obtain ⟨pl, st, tr, ne, told⟩ := t
 obtain ⟨h1, h2, h3, h4, h5⟩ := st_iff.1 h
 simp only at h1 h2 h3 h4 h5
 obtain ⟨a, rfl⟩ := int_nat h2.1
 obtain ⟨b, rfl⟩ := int_nat h3.1
 obtain ⟨c, rfl⟩ := int_nat h4.1
 obtain ⟨d, rfl⟩ := int_nat h5.1
 have ha : a < 10 ^ 14 := by omega
 have hb : b < 10 ^ 14 := by omega
 have hc : c < 10 ^ 14 := by omega
 have hd : d < 10 ^ 14 := by omega
 have s32 : ∀ {n : Nat}, n < 10 ^ 14 → (32 : UInt8) ∉ Lib.itoa (n : Int) := fun hn => itoa_sg hn (by decide)
 have hs : (32 : UInt8) ∉ st := by rcases state_cases h1 with e | e | e | e <;> rw [e] <;> decide
 have w1 : tk [32] (bytesT ⟨a, st, b, c, d⟩) = ([83], Lib.itoa a ++ (32 :: (st ++ (32 :: wordsI b c d))), true) := tk_hit (c := 32) (cs := []) (t := [83]) (by decide) _
 have w2 : tk [32] (Lib.itoa a ++ (32 :: (st ++ (32 :: wordsI b c d)))) = (Lib.itoa a, st ++ (32 :: wordsI b c d), true) := tk_hit (c := 32) (cs := []) (s32 ha) _
 have w3 : tk [32] (st ++ (32 :: wordsI b c d)) = (st, wordsI b c d, true) := tk_hit (c := 32) (cs := []) hs _
 have w4 : tk [32] (wordsI b c d) = (Lib.itoa b, Lib.itoa c ++ (32 :: Lib.itoa d), true) := tk_hit (c := 32) (cs := []) (s32 hb) _
 have w5 : tk [32] (Lib.itoa c ++ (32 :: Lib.itoa d)) = (Lib.itoa c, Lib.itoa d, true) := tk_hit (c := 32) (cs := []) (s32 hc) _
 have w6 : tk [32] (Lib.itoa d) = (Lib.itoa d, [], false) := tk_no (c := 32) (cs := []) (s32 hd)
 simp only [readT, wd, nx, w1, w2, w3, w4, w5, w6, num_itoa ha, num_itoa hb, num_itoa hc, num_itoa hd]
theorem st_yes {t : ST} (h : stE t = 0) : stV t = bytesT t := if_pos h
theorem pt_back {t : ST} (h : stE t = 0) : ptE (stV t) = 0 ∧ ptV (stV t) = t := by
 have hr := readT_back h
 have e : ptE (stV t) = 0 := by
  unfold ptE
  rw [st_yes h, hr, if_pos ⟨h, st_yes h⟩]
 refine ⟨e, ?_⟩
 unfold ptV
 rw [if_pos e, st_yes h, hr]
theorem pt_0 {s : Txt} (h : ptE s = 0) : stE (ptV s) = 0 ∧ stV (ptV s) = s := by
 unfold ptV
 rw [if_pos h]
 unfold ptE at h
 split at h
 ·rename_i hh; exact hh
 ·cases h
theorem pt_2 {s : Txt} (h : ptE s ≠ 0) : ptE s = 2 ∧ ptV s = zeroT := by
 unfold ptV
 rw [if_neg h]
 unfold ptE at h ⊢
 split
 ·rename_i hh; rw [if_pos hh] at h; exact absurd rfl h
 ·exact ⟨rfl, rfl⟩
theorem st_inj {t u : ST} (ht : stE t = 0) (hu : stE u = 0) (h : stV t = stV u) : t = u := by
 have := (pt_back ht).2
 rw [h, (pt_back hu).2] at this
 exact this.symm
end Go.Proofs.YtojpkbonioglbaaGreatDoor.E
namespace Go.Proofs.YtojpkbonioglbaaGreatDoor.E
set_option maxRecDepth 100000
open Go.RowKit
abbrev Txt := List UInt8
theorem below_box (w : World) (o : Obj) : Below w.heap.size w (w.alloc o) := (Below.refl _ w).alloc (Nat.le_refl _) _
def TxtsAt (w : World) (v : Value) (l : List Txt) : Prop :=
 ∃ (a : Option Addr) (cap : Nat), v = .slice a l.length cap ∧ l.length ≤ cap ∧ (a = none → cap = 0) ∧ ∀ (i : Nat) (t : Txt), l[i]? = some t → ∃ A, a = some A ∧ A.block < w.heap.size ∧ w.cell? (A.add i) = some (.string (mkS t))
theorem TxtsAt.below {w w' : World} {v : Value} {l : List Txt} (h : TxtsAt w v l) (hb : Below w.heap.size w w') : TxtsAt w' v l := by
 obtain ⟨a, cap, hv, hc0, hn, hc⟩ := h
 refine ⟨a, cap, hv, hc0, hn, fun i t hi => ?_⟩
 obtain ⟨A, ha, hA, c0⟩ := hc i t hi
 have e : (A.add i).block < w.heap.size := by rw [add_block]; exact hA
 exact ⟨A, ha, Nat.lt_of_lt_of_le hA hb.size, (hb.cell e).trans c0⟩
theorem TxtsAt.apart {w w' : World} {v : Value} {l : List Txt} (h : TxtsAt w v l) (hb : Below w.heap.size w w') : TxtsAt w' v l := h.below hb
theorem TxtsAt.take {w : World} {a : Option Addr} {n cap : Nat} {l : List Txt} (h : TxtsAt w (.slice a n cap) l) {k : Nat} (hk : k ≤ l.length) : TxtsAt w (.slice a k cap) (l.take k) := by
 obtain ⟨a', cap', hv, hc0, hn, hc⟩ := h
 injection hv with h1 h2 h3
 subst h1 h3
 have e : (l.take k).length = k := by rw [List.length_take]; omega
 refine ⟨a, cap, by rw [e], by rw [e]; omega, hn, fun i t hi => ?_⟩
 rw [List.getElem?_take] at hi
 split at hi
 ·exact hc i t hi
 ·cases hi
theorem txts_nil (w : World) : TxtsAt w (.slice none 0 0) [] := ⟨none, 0, rfl, Nat.le_refl _, fun _ => rfl, fun i t h => by simp at h⟩
theorem wpList_unguard {P : Program} {ops : Array Oper} {rest : List Oper} {o : Oper} {a : Act} {w : World} {Q : Exit → Act → World → Prop} (hw : Region.wanted o (yielded ops a.tmps) = true) (h : wpList P ops Q (⟨o.dst, o.op, o.type, o.pos, o.after, none⟩ :: rest) a w) : wpList P ops Q (o :: rest) a w := by
 unfold wpList at h ⊢
 rw [if_pos hw]
 rw [if_pos (by simp [Region.wanted])] at h
 cases o
 exact h
def strsV (l : List Txt) : List Value := l.map fun s => .string (mkS s)
theorem strsV_length (l : List Txt) : (strsV l).length = l.length := by simp [strsV]
theorem strsV_append (l m : List Txt) : strsV (l ++ m) = strsV l ++ strsV m := by simp [strsV]
theorem Tryz.infoT : (Tryz.prog.info? 9).map (fun i => (i.zero, i.size, i.bytes)) = some (some (.string { data := #[] }), 1, 16) := by kernel_rfl
theorem news_one (w : World) (x : Txt) : ∀ j u, (strsV [x])[j]? = some u → (w.alloc (.cells #[.string (mkS x)] 9)).cell? ((⟨w.heap.size, 0, none⟩ : Addr).add j) = some u := by
 intro j u hj
 match j with
 | 0 => simp [strsV] at hj; subst hj; exact World.cell?_alloc_at _ _ _ _ rfl
 | j + 1 => simp [strsV] at hj
theorem app_strs {w : World} {ops : Array Oper} {rest : List Oper} {o : Oper} {a : Act} {Q : Exit → Act → World → Prop} (hgd : o.guard = none) (s x : Operand)
  (ho : o.op = .call { callee := .builtin .append, args := #[s, x], argTypes := #[22, 22] }) (base : Nat) (v : Value) (l : List Txt) (hs : a.eval s = v) (hown : w.ownsRow base 9 1 v l.length (strsV l))
  (ad : Addr) (m c : Nat) (news : List Txt) (hx : a.eval x = .slice (some ad) m c) (hl : news.length = m) (hnews : ∀ j u, (strsV news)[j]? = some u → w.cell? (ad.add j) = some u) (h9 : l.length + m ≤ 100000000) (hbase : base ≤ w.heap.size)
  (h : ∀ v' w', w'.ownsRow base 9 1 v' (l ++ news).length (strsV (l ++ news)) → w.grownBy w' v.ownBlock → (v'.ownBlock = v.ownBlock ∨ v'.ownBlock = some w.heap.size) → wpList Tryz.prog ops Q rest (a.put o.dst v') w') :
  wpList Tryz.prog ops Q (o :: rest) a w := by
 obtain ⟨i0, hi, hz0, hz1, hz2⟩ := info_parts Tryz.infoT
 refine wpList_append_own_at (w := w) hgd s x 22 ho base 9 i0 (.string { data := #[] }) 1 16 Tryz.underlying22 hi hz0 hz1 hz2 rfl (by decide) v l.length (strsV l) hs hown ad m c (strsV news) hx (by rw [strsV_length]; omega) hnews ?_ (by unfold maxLen; omega) (by omega) hbase ?_
 ·intro u hu
  obtain ⟨b, _, rfl⟩ := List.mem_map.1 hu
  rfl
 ·intro v' w' h1 h2 _ h3
  refine h v' w' ?_ h2 h3
  rw [List.length_append, hl, strsV_append]
  exact h1
theorem app_txts {w : World} {ops : Array Oper} {rest : List Oper} {o : Oper} {a : Act} {Q : Exit → Act → World → Prop} (hgd : o.guard = none) (s x : Operand)
  (ho : o.op = .call { callee := .builtin .append, args := #[s, x], argTypes := #[22, 22] }) (base : Nat) (v : Value) (l : List Txt) (hs : a.eval s = v) (hown : w.ownsRow base 9 1 v l.length (strsV l))
  (u : Value) (news : List Txt) (hx : a.eval x = u) (hu : TxtsAt w u news) (h9 : l.length + news.length ≤ 100000000) (hbase : base ≤ w.heap.size)
  (h : ∀ v' w', w'.ownsRow base 9 1 v' (l ++ news).length (strsV (l ++ news)) → w.grownBy w' v.ownBlock → (v'.ownBlock = v.ownBlock ∨ v'.ownBlock = some w.heap.size) → wpList Tryz.prog ops Q rest (a.put o.dst v') w') :
  wpList Tryz.prog ops Q (o :: rest) a w := by
 obtain ⟨A, cap, rfl, hc0, hnil, hc⟩ := hu
 cases A with
 | some ad =>
  refine app_strs hgd s x ho base v l hs hown ad news.length cap news hx rfl (fun j u hj => ?_) h9 hbase h
  rw [strsV, List.getElem?_map, Option.map_eq_some_iff] at hj
  obtain ⟨t, ht, rfl⟩ := hj
  obtain ⟨A, hA, _, c0⟩ := hc j t ht
  cases hA
  exact c0
 | none =>
  have hc1 := hnil rfl
  subst hc1
  have hn0 : news = [] := List.eq_nil_of_length_eq_zero (by omega)
  subst hn0
  obtain ⟨i0, hi, hz0, hz1, hz2⟩ := info_parts Tryz.infoT
  refine wpList_plain hgd fun K hK' => ?_
  have hrun := run_append_owned_none (P := Tryz.prog) w base 22 o.type 9 i0 1 Tryz.underlying22 hi v l.length (strsV l) hown
  unfold Oper.wp
  simp [execOp, ho, resolve, invoke, builtin, hs, hx, hrun, Result.andThen]
  exact hK' _ _ (h v w (by simpa using hown) (World.grownBy.refl _ _) (.inl rfl))
theorem strs_grown {B : Nat} {w0 w w' : World} {v : Value} {l : List Txt} (hB : B ≤ w.heap.size) (hb : Below B w0 w) (hown : w.ownsRow B 9 1 v l.length (strsV l)) {o : Obj} (hg : (w.alloc o).grownBy w' v.ownBlock) : Below B w0 w' :=
 (hb.alloc hB o).grown hg (by simp; omega) (fun k hk => (hown.lt k hk).1)
theorem strs_nil (w : World) (B : Nat) : w.ownsRow B 9 1 (.slice none 0 0) ([] : List Txt).length (strsV []) := ⟨rfl, .inl ⟨rfl, rfl⟩⟩
theorem strs_slice {w : World} {B : Nat} {v : Value} {l : List Txt} (h : w.ownsRow B 9 1 v l.length (strsV l)) : ∃ A c, v = .slice A l.length c := own_slice h
theorem own_txts {w : World} {B : Nat} {v : Value} {l : List Txt} (h : w.ownsRow B 9 1 v l.length (strsV l)) : TxtsAt w v l := by
 rcases h.2 with ⟨rfl, h0⟩ | ⟨g, cap, cur, rfl, hB, hg, hcap, _⟩
 ·have e : l = [] := List.eq_nil_of_length_eq_zero h0
  subst e
  exact txts_nil w
 ·refine ⟨some ⟨g, 0, none⟩, cap, rfl, hcap, fun e => by (cases e), fun i t hi => ⟨_, rfl, ltOf hg, ?_⟩⟩
  exact h.cells rfl i (.string (mkS t)) (by rw [strsV, List.getElem?_map, hi]; rfl)
theorem own_not {w : World} {B g : Nat} {v : Value} {l : List Txt} {cs : Array Value} {t : TypeId} {fz : Nat × Nat} (h : w.ownsRow B 9 1 v l.length (strsV l)) (hg : w.heap[g]? = some (.cells cs t fz)) (ht : t ≠ 9) : v.ownBlock ≠ some g := by
 intro e
 rcases h.2 with ⟨rfl, _⟩ | ⟨k, cap, cur, rfl, _, hk, _⟩
 ·cases e
 ·simp [Value.ownBlock] at e
  subst e
  rw [hk] at hg
  injection hg with hg
  injection hg with _ h2
  exact ht h2.symm
theorem own_of {w w' : World} {B n size : Nat} {e : TypeId} {v : Value} {xs : List Value} (h : w.ownsRow B e size v n xs) (hk : ∀ k, v.ownBlock = some k → w'.heap[k]? = w.heap[k]?) : w'.ownsRow B e size v n xs := by
 refine ⟨h.1, ?_⟩
 rcases h.2 with h0 | ⟨g, cap, cur, hv, hB, hg, h1⟩
 ·exact .inl h0
 ·exact .inr ⟨g, cap, cur, hv, hB, (hk g (by rw [hv]; rfl)).trans hg, h1⟩
theorem one_txts (w : World) (x : Txt) : TxtsAt (w.alloc (.cells #[.string (mkS x)] 9)) (.slice (some ⟨w.heap.size, 0, none⟩) 1 1) [x] :=
 ⟨_, _, rfl, Nat.le_refl _, fun e => by (cases e), fun i t hi => by
  match i with
  | 0 => simp at hi; subst hi; exact ⟨_, rfl, by simp, World.cell?_alloc_at _ _ _ _ rfl⟩
  | i + 1 => simp at hi⟩
theorem app_new {w : World} {ops : Array Oper} {rest : List Oper} {o : Oper} {a : Act} {Q : Exit → Act → World → Prop} (hgd : o.guard = none) (s x : Operand)
  (ho : o.op = .call { callee := .builtin .append, args := #[s, x], argTypes := #[22, 22] }) (b : Nat) (hs : a.eval s = .slice (some ⟨b, 0, none⟩) 0 0) (hb0 : b = w.heap.size) (u : Value) (news : List Txt) (hx : a.eval x = u) (hu : TxtsAt w u news) (h9 : news.length ≤ 10000000)
  (h : ∀ v' w', w'.ownsRow w.heap.size 9 1 v' news.length (strsV news) → Below w.heap.size w w' → wpList Tryz.prog ops Q rest (a.put o.dst v') w') : wpList Tryz.prog ops Q (o :: rest) a (w.alloc (.cells #[] 9)) := by
 subst hb0
 refine app_txts hgd s x ho w.heap.size (.slice (some ⟨w.heap.size, 0, none⟩) 0 0) [] hs (World.ownsRow_lit w #[] 0 (Nat.le_refl _) (Nat.zero_le _) rfl) u news hx (hu.below (below_box w _)) (by simp; omega) (by simp) ?_
 intro v' w' h1 h2 _
 refine h v' w' (by simpa using h1) ?_
 exact ((Below.refl _ w).alloc (Nat.le_refl _) _).grown h2 (by simp) (fun k hk => by simp [Value.ownBlock] at hk; omega)
theorem app_more {w0 w : World} {B : Nat} {ops : Array Oper} {rest : List Oper} {o : Oper} {a : Act} {Q : Exit → Act → World → Prop} (hgd : o.guard = none) (s x : Operand)
  (ho : o.op = .call { callee := .builtin .append, args := #[s, x], argTypes := #[22, 22] }) (v : Value) (l : List Txt) (hs : a.eval s = v) (hown : w.ownsRow B 9 1 v l.length (strsV l)) (hB : B ≤ w.heap.size) (hb : Below B w0 w) (u : Value) (news : List Txt) (hx : a.eval x = u) (hu : TxtsAt w u news) (h9 : l.length + news.length ≤ 10000000)
  (h : ∀ v' w', w'.ownsRow B 9 1 v' (l ++ news).length (strsV (l ++ news)) → Below B w0 w' → wpList Tryz.prog ops Q rest (a.put o.dst v') w') : wpList Tryz.prog ops Q (o :: rest) a w := by
 refine app_txts hgd s x ho B v l hs hown u news hx hu (by omega) hB ?_
 intro v' w' h1 h2 _
 exact h v' w' h1 (hb.grown h2 hB (fun k hk => (hown.lt k hk).1))
end Go.Proofs.YtojpkbonioglbaaGreatDoor.E
