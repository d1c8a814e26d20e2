/-
  Frames as lists of bytes: sums, what a frame is, what stands at the front of bytes, what a turned byte does.
-/
import Derived.Test.YtfejepkpjoieoaaTxts
import Derived.Lib.Bytealg
namespace Go.Proofs.Ytfejepkpjoieoaa
set_option maxRecDepth 100000
/-- What the register is turned by. -/
def polyF : Nat := 3988292384
/-- One step down of the register. -/
def stepF (x : Nat) : Nat := x / 2 ^^^ (if x % 2 = 1 then polyF else 0)
def stepsF : Nat → Nat → Nat
  | 0, x => x
  | n + 1, x => stepsF n (stepF x)
theorem stepF_xor (a b : Nat) : stepF (a ^^^ b) = stepF a ^^^ stepF b := by
  unfold stepF
  have h1 : (a ^^^ b) / 2 = a / 2 ^^^ b / 2 := by
    apply Nat.eq_of_testBit_eq; intro i
    simp [Nat.testBit_div_two]
  have h2 : (a ^^^ b) % 2 = (a + b) % 2 := by
    have h := Nat.testBit_xor a b 0
    rw [Nat.testBit_zero, Nat.testBit_zero, Nat.testBit_zero] at h
    rcases Nat.mod_two_eq_zero_or_one a with ha | ha <;> rcases Nat.mod_two_eq_zero_or_one b with hb | hb <;> rcases Nat.mod_two_eq_zero_or_one (a ^^^ b) with hc | hc <;> rw [ha, hb, hc] at h <;> rw [hc, Nat.add_mod, ha, hb]
    all_goals (revert h; decide)
  rw [h1, h2]
  apply Nat.eq_of_testBit_eq; intro i
  rcases Nat.mod_two_eq_zero_or_one a with ha | ha <;> rcases Nat.mod_two_eq_zero_or_one b with hb | hb <;>
    simp [ha, hb, Nat.add_mod, Nat.testBit_xor]
  all_goals first
    | rfl
    | (cases (a/2).testBit i <;> cases (b/2).testBit i <;> cases polyF.testBit i <;> rfl)
    | (rw [Nat.testBit_div_two, Nat.testBit_div_two]; cases a.testBit (i+1) <;> cases b.testBit (i+1) <;> cases polyF.testBit i <;> rfl)
    | (cases a.testBit (i+1) <;> cases b.testBit (i+1) <;> cases polyF.testBit i <;> rfl)
theorem stepsF_xor : ∀ (n a b : Nat), stepsF n (a ^^^ b) = stepsF n a ^^^ stepsF n b
  | 0, _, _ => rfl
  | n + 1, a, b => by rw [stepsF, stepF_xor, stepsF_xor n]; rfl
theorem stepF_lt {x : Nat} (h : x < 4294967296) : stepF x < 4294967296 := by
  unfold stepF
  refine Nat.xor_lt_two_pow (n := 32) (by omega) ?_
  split
  · decide
  · decide
theorem stepsF_lt : ∀ (n : Nat) {x : Nat}, x < 4294967296 → stepsF n x < 4294967296
  | 0, _, h => h
  | n + 1, _, h => stepsF_lt n (stepF_lt h)
theorem stepF_zero {x : Nat} (h : x < 4294967296) (h0 : stepF x = 0) : x = 0 := by
  unfold stepF at h0
  by_cases hx : x % 2 = 1
  · rw [if_pos hx] at h0
    have hb := congrArg (·.testBit 31) h0
    simp only [Nat.testBit_xor, Nat.zero_testBit] at hb
    rw [Nat.testBit_lt_two_pow (x := x / 2) (i := 31) (by omega)] at hb
    exact absurd hb (by decide)
  · rw [if_neg hx, Nat.xor_zero] at h0
    omega
theorem stepsF_zero : ∀ (n : Nat) {x : Nat}, x < 4294967296 → stepsF n x = 0 → x = 0
  | 0, _, _, h0 => h0
  | n + 1, _, h, h0 => stepF_zero h (stepsF_zero n (stepF_lt h) h0)
theorem stepsF_add : ∀ (m n x : Nat), stepsF (m + n) x = stepsF n (stepsF m x)
  | 0, n, x => by rw [Nat.zero_add]; rfl
  | m + 1, n, x => by rw [Nat.add_right_comm]; exact stepsF_add m n (stepF x)
theorem stepF_dbl (x : Nat) : stepF (2 * x) = x := by
  unfold stepF
  rw [if_neg (by omega), Nat.xor_zero]
  omega
theorem stepsF_pow : ∀ (n x : Nat), stepsF n (x * 2 ^ n) = x
  | 0, x => by simp [stepsF]
  | n + 1, x => by
    rw [stepsF, Nat.pow_succ, ← Nat.mul_assoc, Nat.mul_comm _ 2, stepF_dbl]
    exact stepsF_pow n x
/-- The register behind bytes. -/
def downF (r : Nat) (b : UInt8) : Nat := stepsF 8 (r ^^^ b.toNat)
def regF (l : Txt) (r : Nat) : Nat := l.foldl downF r
def sumF (l : Txt) : Nat := regF l 4294967295 ^^^ 4294967295
theorem xor_byte_lt {r : Nat} (h : r < 4294967296) (b : UInt8) : r ^^^ b.toNat < 4294967296 :=
  Nat.xor_lt_two_pow (n := 32) h (by have := b.toNat_lt; omega)
theorem downF_lt {r : Nat} (h : r < 4294967296) (b : UInt8) : downF r b < 4294967296 := stepsF_lt 8 (xor_byte_lt h b)
theorem regF_lt : ∀ (l : Txt) {r : Nat}, r < 4294967296 → regF l r < 4294967296
  | [], _, h => h
  | b :: l, _, h => regF_lt l (downF_lt h b)
theorem sumF_lt (l : Txt) : sumF l < 4294967296 := Nat.xor_lt_two_pow (n := 32) (regF_lt l (by decide)) (by decide)
theorem regF_snoc (l : Txt) (b : UInt8) (r : Nat) : regF (l ++ [b]) r = downF (regF l r) b := by simp [regF]
theorem regF_take {l : Txt} {k : Nat} {b : UInt8} (h : l[k]? = some b) (r : Nat) : regF (l.take (k + 1)) r = downF (regF (l.take k) r) b := by
  obtain ⟨hk, e⟩ := List.getElem?_eq_some_iff.1 h
  rw [List.take_succ_eq_append_getElem hk, regF_snoc, e]
/-- Bytes as one number, the lowest first. -/
def leF : Txt → Nat
  | [] => 0
  | b :: l => b.toNat ^^^ (leF l * 256)
theorem regF_eq : ∀ (l : Txt) (r : Nat), regF l r = stepsF (8 * l.length) (r ^^^ leF l)
  | [], r => by simp [regF, leF, stepsF]
  | b :: l, r => by
    show regF l (downF r b) = _
    rw [regF_eq l, List.length_cons, show 8 * (l.length + 1) = 8 + 8 * l.length by omega, stepsF_add]
    congr 1
    rw [leF, ← Nat.xor_assoc, stepsF_xor 8, show leF l * 256 = leF l * 2 ^ 8 by rfl, stepsF_pow]
    rfl
theorem sum_ne {l m : Txt} (hn : l.length = m.length) {t k : Nat} (ht : t < 4294967296) (h0 : t ≠ 0) (hk : k ≤ 8 * l.length) (h : leF l ^^^ leF m = t * 2 ^ k) : sumF l ≠ sumF m := by
  intro he
  have h1 : regF l 4294967295 = regF m 4294967295 := by
    have := congrArg (· ^^^ 4294967295) he
    simpa [sumF, Nat.xor_assoc, Nat.xor_self] using this
  have h2 : regF l 4294967295 ^^^ regF m 4294967295 = stepsF (8 * l.length) (leF l ^^^ leF m) := by
    rw [regF_eq, regF_eq, ← hn, ← stepsF_xor]
    congr 1
    rw [Nat.xor_comm 4294967295 (leF l), Nat.xor_assoc, ← Nat.xor_assoc 4294967295, Nat.xor_self, Nat.zero_xor]
  rw [h1, Nat.xor_self, h, show 8 * l.length = k + (8 * l.length - k) by omega, stepsF_add, stepsF_pow] at h2
  exact h0 (stepsF_zero _ ht h2.symm)
theorem xor_mul (a b n : Nat) : (a ^^^ b) * 2 ^ n = a * 2 ^ n ^^^ b * 2 ^ n := by
  rw [← Nat.shiftLeft_eq, ← Nat.shiftLeft_eq, ← Nat.shiftLeft_eq, Nat.shiftLeft_xor_distrib]
/-- One byte turned. -/
theorem leF_set : ∀ (l : Txt) (k : Nat) (b x : UInt8), l[k]? = some b → leF (l.set k (b ^^^ x)) = leF l ^^^ x.toNat * 2 ^ (8 * k)
  | [], k, b, x, h => by simp at h
  | c :: l, 0, b, x, h => by
    simp at h
    subst h
    simp only [List.set_cons_zero, leF, UInt8.toNat_xor, Nat.mul_zero, Nat.pow_zero, Nat.mul_one]
    rw [Nat.xor_assoc, Nat.xor_comm x.toNat, Nat.xor_assoc]
  | c :: l, k + 1, b, x, h => by
    simp at h
    simp only [List.set_cons_succ, leF]
    rw [leF_set l k b x h, show (256 : Nat) = 2 ^ 8 by rfl, xor_mul, Nat.mul_assoc, ← Nat.pow_add, show 8 * k + 8 = 8 * (k + 1) by omega, Nat.xor_assoc]
theorem sum_set {l : Txt} {k : Nat} {b x : UInt8} (h : l[k]? = some b) (hx : x ≠ 0) : sumF (l.set k (b ^^^ x)) ≠ sumF l := by
  have hk := (List.getElem?_eq_some_iff.1 h).1
  refine sum_ne (by simp) (t := x.toNat) (k := 8 * k) (by have := x.toNat_lt; omega) (fun e => hx (UInt8.toNat_inj.1 (by rw [e]; rfl))) (by simp; omega) ?_
  rw [leF_set l k b x h, Nat.xor_comm (leF l), Nat.xor_assoc, Nat.xor_self, Nat.xor_zero]
/-- A number's bytes. -/
def le2 (n : Nat) : Txt := [UInt8.ofNat (n % 256), UInt8.ofNat (n / 256 % 256)]
def le4 (n : Nat) : Txt := [UInt8.ofNat (n % 256), UInt8.ofNat (n / 256 % 256), UInt8.ofNat (n / 65536 % 256), UInt8.ofNat (n / 16777216 % 256)]
theorem ofNat_inj {a b : Nat} (ha : a < 256) (hb : b < 256) (h : UInt8.ofNat a = UInt8.ofNat b) : a = b := by
  have := congrArg UInt8.toNat h
  simpa [Nat.mod_eq_of_lt ha, Nat.mod_eq_of_lt hb] using this
theorem le4_inj {a b : Nat} (ha : a < 4294967296) (hb : b < 4294967296) (h : le4 a = le4 b) : a = b := by
  simp only [le4, List.cons.injEq, and_true] at h
  obtain ⟨h0, h1, h2, h3⟩ := h
  have e0 := ofNat_inj (by omega) (by omega) h0
  have e1 := ofNat_inj (by omega) (by omega) h1
  have e2 := ofNat_inj (by omega) (by omega) h2
  have e3 := ofNat_inj (by omega) (by omega) h3
  omega
theorem le4_len (n : Nat) : (le4 n).length = 4 := rfl
theorem le2_len (n : Nat) : (le2 n).length = 2 := rfl
def sealF (l : Txt) : Txt := l ++ le4 (sumF l)
theorem sealF_len (l : Txt) : (sealF l).length = l.length + 4 := by simp [sealF, le4]
def frameF (r : Txt) : Txt := sealF (le2 r.length) ++ sealF r
theorem frameF_len (r : Txt) : (frameF r).length = r.length + 10 := by simp [frameF, sealF_len, le2]; omega
def framesF (l : List Txt) : Txt := l.flatMap frameF
theorem framesF_cons (r : Txt) (l : List Txt) : framesF (r :: l) = frameF r ++ framesF l := by simp [framesF]
theorem framesF_append (l m : List Txt) : framesF (l ++ m) = framesF l ++ framesF m := by simp [framesF]
theorem framesF_nil : framesF [] = [] := rfl
theorem framesF_snoc (l : List Txt) (r : Txt) : framesF (l ++ [r]) = framesF l ++ frameF r := by simp [framesF]
theorem framesF_len : ∀ l : List Txt, l.length * 10 ≤ (framesF l).length
  | [] => by simp
  | r :: l => by rw [framesF_cons, List.length_append, frameF_len, List.length_cons]; have := framesF_len l; omega
/-- So many bytes of the front, and what stands behind their sum, if it is right. -/
def unsealF (l : Txt) (n : Nat) : Option (Txt × Txt) :=
  if l.length < n then none else if (le4 (sumF (l.take n))).isPrefixOf (l.drop n) then some (l.take n, l.drop (n + 4)) else none
theorem unseal_some {l : Txt} {n : Nat} {p r : Txt} : unsealF l n = some (p, r) ↔ (p.length = n ∧ l = sealF p ++ r) := by
  unfold unsealF
  constructor
  · intro h
    split at h
    · cases h
    · split at h
      · rename_i h1 h2
        injection h with h
        injection h with hp hr
        obtain ⟨t, ht⟩ := List.isPrefixOf_iff_prefix.1 h2
        subst hp
        refine ⟨by simp; omega, ?_⟩
        have e : l.drop (n + 4) = t := by
          rw [← List.drop_drop, ← ht, List.drop_left' (le4_len _)]
        rw [← hr, e, sealF, List.append_assoc, ht, List.take_append_drop]
      · cases h
  · rintro ⟨hn, rfl⟩
    have e1 : (sealF p ++ r).take n = p := by rw [sealF, List.append_assoc, List.take_left' hn]
    have e2 : (sealF p ++ r).drop n = le4 (sumF p) ++ r := by rw [sealF, List.append_assoc, List.drop_left' hn]
    rw [if_neg (by simp [sealF_len]; omega), e1, e2, if_pos (List.isPrefixOf_iff_prefix.2 ⟨r, rfl⟩)]
    rw [← List.drop_drop, e2, List.drop_left' (le4_len _)]
def lenF (p : Txt) : Nat := (p[0]?.getD 0).toNat + 256 * (p[1]?.getD 0).toNat
theorem lenF_le2 {n : Nat} (h : n ≤ 65535) : lenF (le2 n) = n := by
  simp [lenF, le2]; omega
theorem le2_lenF {p : Txt} (h : p.length = 2) : le2 (lenF p) = p ∧ lenF p ≤ 65535 := by
  match p, h with
  | [a, b], _ =>
    have ha := a.toNat_lt
    have hb := b.toNat_lt
    refine ⟨?_, by simp [lenF]; omega⟩
    simp only [lenF, le2]
    have e1 : (a.toNat + 256 * b.toNat) % 256 = a.toNat := by omega
    have e2 : (a.toNat + 256 * b.toNat) / 256 % 256 = b.toNat := by omega
    simp only [List.getElem?_cons_zero, List.getElem?_cons_succ, Option.getD_some]
    rw [e1, e2, UInt8.ofNat_toNat, UInt8.ofNat_toNat]
/-- The record of the frame at the front. -/
def firstF (l : Txt) : Option Txt :=
  match unsealF l 2 with
  | none => none
  | some (p, rest) => match unsealF rest (lenF p) with
    | none => none
    | some (r, _) => some r
theorem first_some {l r : Txt} : firstF l = some r ↔ (r.length ≤ 65535 ∧ ∃ t, l = frameF r ++ t) := by
  unfold firstF
  constructor
  · intro h
    cases h1 : unsealF l 2 with
    | none => rw [h1] at h; cases h
    | some q =>
      obtain ⟨p, rest⟩ := q
      rw [h1] at h
      simp only at h
      cases h2 : unsealF rest (lenF p) with
      | none => rw [h2] at h; cases h
      | some q' =>
        obtain ⟨r', t⟩ := q'
        rw [h2] at h
        simp only at h
        injection h with h
        subst h
        obtain ⟨hp, e1⟩ := unseal_some.1 h1
        obtain ⟨hr, e2⟩ := unseal_some.1 h2
        obtain ⟨e3, e4⟩ := le2_lenF hp
        refine ⟨by omega, t, ?_⟩
        rw [e1, e2, frameF, hr, e3, List.append_assoc]
  · rintro ⟨hr, t, rfl⟩
    have e1 : unsealF (frameF r ++ t) 2 = some (le2 r.length, sealF r ++ t) := unseal_some.2 ⟨rfl, by rw [frameF, List.append_assoc]⟩
    have e2 : unsealF (sealF r ++ t) (lenF (le2 r.length)) = some (r, t) := unseal_some.2 ⟨(lenF_le2 hr).symm, rfl⟩
    rw [e1]
    simp only [e2]
theorem first_frame {r : Txt} (h : r.length ≤ 65535) (t : Txt) : firstF (frameF r ++ t) = some r := first_some.2 ⟨h, t, rfl⟩
theorem first_len {l r : Txt} (h : firstF l = some r) : r.length + 10 ≤ l.length := by
  obtain ⟨_, t, rfl⟩ := first_some.1 h
  rw [List.length_append, frameF_len]; omega
theorem first_split {l r : Txt} (h : firstF l = some r) : l = frameF r ++ l.drop (r.length + 10) := by
  obtain ⟨_, t, rfl⟩ := first_some.1 h
  rw [List.drop_left' (frameF_len r)]
/-- The records of the frames at the front. -/
def scanN : Nat → Txt → List Txt
  | 0, _ => []
  | n + 1, l => match firstF l with
    | none => []
    | some r => r :: scanN n (l.drop (r.length + 10))
def scanF (l : Txt) : List Txt := scanN l.length l
theorem scanN_some {n : Nat} {l r : Txt} (h : firstF l = some r) : scanN (n + 1) l = r :: scanN n (l.drop (r.length + 10)) := by rw [scanN, h]
theorem scanN_none {n : Nat} {l : Txt} (h : firstF l = none) : scanN n l = [] := by
  cases n with
  | zero => rfl
  | succ n => rw [scanN, h]
theorem scanN_more : ∀ (n m : Nat) (l : Txt), l.length ≤ n → l.length ≤ m → scanN n l = scanN m l := by
  intro n
  induction n with
  | zero =>
    intro m l hn hm
    have e : l = [] := List.eq_nil_of_length_eq_zero (by omega)
    subst e
    rw [scanN_none (by rfl), scanN_none (by rfl)]
  | succ n ih =>
    intro m l hn hm
    cases h : firstF l with
    | none => rw [scanN_none h, scanN_none h]
    | some r =>
      have := first_len h
      obtain ⟨m, rfl⟩ : ∃ k, m = k + 1 := ⟨m - 1, by omega⟩
      rw [scanN_some h, scanN_some h, ih m _ (by simp; omega) (by simp; omega)]
theorem scanF_none {l : Txt} (h : firstF l = none) : scanF l = [] := scanN_none h
theorem scanF_some {l r : Txt} (h : firstF l = some r) : scanF l = r :: scanF (l.drop (r.length + 10)) := by
  have hl := first_len h
  unfold scanF
  obtain ⟨n, hn⟩ : ∃ n, l.length = n + 1 := ⟨l.length - 1, by omega⟩
  rw [hn, scanN_some h, scanN_more n _ _ (by simp; omega) (Nat.le_refl _)]
theorem scanF_frame {r : Txt} (h : r.length ≤ 65535) (t : Txt) : scanF (frameF r ++ t) = r :: scanF t := by
  rw [scanF_some (first_frame h t), List.drop_left' (frameF_len r)]
theorem scanF_frames : ∀ (l : List Txt) (t : Txt), (∀ r ∈ l, r.length ≤ 65535) → scanF (framesF l ++ t) = l ++ scanF t
  | [], t, _ => by simp [framesF]
  | r :: l, t, h => by
    rw [framesF_cons, List.append_assoc, scanF_frame (h r (by simp)), scanF_frames l t (fun x hx => h x (by simp [hx]))]
    rfl
theorem scanF_front : ∀ (n : Nat) (l : Txt), l.length ≤ n → ∃ t, l = framesF (scanF l) ++ t ∧ firstF t = none ∧ ∀ r ∈ scanF l, r.length ≤ 65535 := by
  intro n
  induction n with
  | zero =>
    intro l hl
    have e : l = [] := List.eq_nil_of_length_eq_zero (by omega)
    subst e
    exact ⟨[], rfl, rfl, fun r hr => by cases hr⟩
  | succ n ih =>
    intro l hl
    cases h : firstF l with
    | none =>
      rw [scanF_none h]
      exact ⟨l, rfl, h, fun r hr => by cases hr⟩
    | some r =>
      have hlen := first_len h
      obtain ⟨t, e1, e2, e3⟩ := ih (l.drop (r.length + 10)) (by simp; omega)
      rw [scanF_some h]
      refine ⟨t, ?_, e2, fun x hx => ?_⟩
      · rw [framesF_cons, List.append_assoc, ← e1]
        exact first_split h
      · rcases List.mem_cons.1 hx with rfl | hx
        · exact (first_some.1 h).1
        · exact e3 x hx
theorem scanF_is {l : List Txt} {t : Txt} (h : ∀ r ∈ l, r.length ≤ 65535) (ht : firstF t = none) : scanF (framesF l ++ t) = l := by
  rw [scanF_frames l t h, scanF_none ht, List.append_nil]
theorem scanF_len (l : Txt) : (framesF (scanF l)).length ≤ l.length := by
  obtain ⟨t, e, _⟩ := scanF_front _ l (Nat.le_refl _)
  have := congrArg List.length e
  rw [List.length_append] at this
  omega
theorem scanF_take (l : Txt) : l.take (framesF (scanF l)).length = framesF (scanF l) := by
  obtain ⟨t, e, _⟩ := scanF_front _ l (Nat.le_refl _)
  rw [show l.take _ = (framesF (scanF l) ++ t).take (framesF (scanF l)).length by rw [← e], List.take_left]
/-- A frame that is cut off is none. -/
theorem first_cut {r p q : Txt} (hr : r.length ≤ 65535) (h : frameF r = p ++ q) (hq : q ≠ []) : firstF p = none := by
  cases e : firstF p with
  | none => rfl
  | some x =>
    exfalso
    obtain ⟨hx, t, rfl⟩ := first_some.1 e
    have h1 := first_frame hr []
    have h2 := first_frame hx (t ++ q)
    rw [List.append_nil, h, List.append_assoc, h2] at h1
    injection h1 with h1
    subst h1
    have := congrArg List.length h
    simp only [List.length_append] at this
    exact hq (List.eq_nil_of_length_eq_zero (by omega))
theorem first_nil : firstF [] = none := rfl
/-- A frame of which one byte is turned is none, whatever stands behind it. -/
theorem first_turned {r : Txt} (hr : r.length ≤ 65535) {k : Nat} {b x : UInt8} (hb : (frameF r)[k]? = some b) (hx : x ≠ 0) (t : Txt) : firstF ((frameF r).set k (b ^^^ x) ++ t) = none := by
  have hne : b ^^^ x ≠ b := by
    intro e
    apply hx
    have := congrArg (b ^^^ ·) e
    simpa [← UInt8.xor_assoc, UInt8.xor_self] using this
  cases e : firstF ((frameF r).set k (b ^^^ x) ++ t) with
  | none => rfl
  | some y =>
    exfalso
    obtain ⟨hy, u, hu⟩ := first_some.1 e
    have hk := (List.getElem?_eq_some_iff.1 hb).1
    rw [frameF_len] at hk
    -- the bytes of the front: the length
    by_cases h6 : k < 6
    · have hs : (frameF r).set k (b ^^^ x) = (sealF (le2 r.length)).set k (b ^^^ x) ++ sealF r := by
        rw [frameF, List.set_append_left _ _ (by rw [sealF_len]; simpa [le2] using h6)]
      have hb' : (sealF (le2 r.length))[k]? = some b := by
        rw [frameF, List.getElem?_append_left (by rw [sealF_len]; simpa [le2] using h6)] at hb
        exact hb
      rw [hs, frameF, List.append_assoc, List.append_assoc] at hu
      obtain ⟨h1, _⟩ := List.append_inj hu (by simp [sealF_len, le2])
      by_cases h2 : k < 2
      · rw [sealF, List.set_append_left _ _ (by simpa [le2] using h2), sealF] at h1
        obtain ⟨h3, h4⟩ := List.append_inj h1 (by simp [le2])
        have hb2 : (le2 r.length)[k]? = some b := by
          rw [sealF, List.getElem?_append_left (by simpa [le2] using h2)] at hb'
          exact hb'
        refine sum_set hb2 hx ?_
        rw [h3]
        exact (le4_inj (sumF_lt _) (sumF_lt _) h4).symm
      · rw [sealF, List.set_append_right _ _ (by simp [le2]; omega), sealF] at h1
        obtain ⟨h3, h4⟩ := List.append_inj h1 (by simp [le2])
        rw [← h3] at h4
        have hb2 : (le4 (sumF (le2 r.length)))[k - 2]? = some b := by
          rw [sealF, List.getElem?_append_right (by simp [le2]; omega)] at hb'
          exact hb'
        have h5 := congrArg (·[k - 2]?) h4
        simp only [le2_len] at h5
        rw [hb2, List.getElem?_set_self (List.getElem?_eq_some_iff.1 hb2).1] at h5
        injection h5 with h5
        exact hne h5
    · have hl6 : (sealF (le2 r.length)).length = 6 := by simp [sealF_len, le2]
      have hs : (frameF r).set k (b ^^^ x) = sealF (le2 r.length) ++ (sealF r).set (k - 6) (b ^^^ x) := by
        rw [frameF, List.set_append_right _ _ (by omega), hl6]
      have hb' : (sealF r)[k - 6]? = some b := by
        rw [frameF, List.getElem?_append_right (by omega), hl6] at hb
        exact hb
      rw [hs, frameF, List.append_assoc, List.append_assoc] at hu
      obtain ⟨h1, h1'⟩ := List.append_inj hu (by simp [sealF_len, le2])
      have hlen : r.length = y.length := by
        rw [sealF, sealF] at h1
        have h0 := (List.append_inj h1 (by simp [le2])).1
        have := congrArg lenF h0
        rwa [lenF_le2 hr, lenF_le2 hy] at this
      obtain ⟨h2, _⟩ := List.append_inj h1' (by simp [sealF_len, hlen])
      by_cases h3 : k - 6 < r.length
      · rw [sealF, List.set_append_left _ _ h3, sealF] at h2
        obtain ⟨h4, h5⟩ := List.append_inj h2 (by simp [hlen])
        have hb2 : r[k - 6]? = some b := by
          rw [sealF, List.getElem?_append_left h3] at hb'
          exact hb'
        refine sum_set hb2 hx ?_
        rw [h4]
        exact (le4_inj (sumF_lt _) (sumF_lt _) h5).symm
      · rw [sealF, List.set_append_right _ _ (by omega), sealF] at h2
        obtain ⟨h4, h5⟩ := List.append_inj h2 hlen
        rw [← h4] at h5
        have hb2 : (le4 (sumF r))[k - 6 - r.length]? = some b := by
          rw [sealF, List.getElem?_append_right (by omega)] at hb'
          exact hb'
        have h6 := congrArg (·[k - 6 - r.length]?) h5
        rw [hb2, List.getElem?_set_self (List.getElem?_eq_some_iff.1 hb2).1] at h6
        injection h6 with h6
        exact hne h6
end Go.Proofs.Ytfejepkpjoieoaa
