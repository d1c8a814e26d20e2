/-
  What a printed text tells: the time that was printed; with another zone in Z's place, a time that is as much earlier or later.
-/
import Derived.Test.YtdcakmamdabiaaaDoorPrMath
namespace Go.Proofs.YtdcakmamdabiaaaDoor
set_option maxRecDepth 100000
/-- A text ahead of its zone. -/
def coreX (y m d h i s : Nat) : List UInt8 := b4 y ++ [45] ++ b2 m ++ [45] ++ b2 d ++ [84] ++ b2 h ++ [58] ++ b2 i ++ [58] ++ b2 s
theorem textX_core (y m d h i s : Nat) : textX y m d h i s = coreX y m d h i s ++ [90] := rfl
theorem coreX_len (y m d h i s : Nat) : (coreX y m d h i s).length = 19 := rfl
theorem text_len (y m d h i s : Nat) : (textX y m d h i s).length = 20 := rfl
theorem text_take (y m d h i s : Nat) : (textX y m d h i s).take 19 = coreX y m d h i s := rfl
theorem val_2 {n : Nat} (h : n < 100) : valX (b2 n) = n := by
  show (0 * 10 + ((dg (n / 10)).toNat - 48)) * 10 + ((dg (n % 10)).toNat - 48) = n
  rw [dg_nat (by omega), dg_nat (by omega)]
  omega
theorem val_4 {n : Nat} (h : n < 10000) : valX (b4 n) = n := by
  show (((0 * 10 + ((dg (n / 1000)).toNat - 48)) * 10 + ((dg (n / 100 % 10)).toNat - 48)) * 10 + ((dg (n / 10 % 10)).toNat - 48)) * 10 + ((dg (n % 10)).toNat - 48) = n
  rw [dg_nat (by omega), dg_nat (by omega), dg_nat (by omega), dg_nat (by omega)]
  omega
/-- A date and a clock that may be. -/
structure Clk (y m d h i s : Nat) : Prop where
  vld : Vld y m d
  h : h ≤ 23
  i : i ≤ 59
  s : s ≤ 59
theorem Clk.bd {y m d h i s : Nat} (k : Clk y m d h i s) : y < 10000 ∧ m < 100 ∧ d < 100 := by
  have := k.vld.y2
  have := k.vld.m
  have := k.vld.d31
  omega
theorem fld_y {y m d h i s : Nat} (k : Clk y m d h i s) (z : List UInt8) : fld (coreX y m d h i s ++ z) 0 4 = y := by
  show ((valX (b4 y) : Nat) : Int) = y
  rw [val_4 k.bd.1]
theorem fld_m {y m d h i s : Nat} (k : Clk y m d h i s) (z : List UInt8) : fld (coreX y m d h i s ++ z) 5 2 = m := by
  show ((valX (b2 m) : Nat) : Int) = m
  rw [val_2 k.bd.2.1]
theorem fld_d {y m d h i s : Nat} (k : Clk y m d h i s) (z : List UInt8) : fld (coreX y m d h i s ++ z) 8 2 = d := by
  show ((valX (b2 d) : Nat) : Int) = d
  rw [val_2 k.bd.2.2]
theorem fld_h {y m d h i s : Nat} (k : Clk y m d h i s) (z : List UInt8) : fld (coreX y m d h i s ++ z) 11 2 = h := by
  show ((valX (b2 h) : Nat) : Int) = h
  rw [val_2 (by have := k.h; omega)]
theorem fld_i {y m d h i s : Nat} (k : Clk y m d h i s) (z : List UInt8) : fld (coreX y m d h i s ++ z) 14 2 = i := by
  show ((valX (b2 i) : Nat) : Int) = i
  rw [val_2 (by have := k.i; omega)]
theorem fld_s {y m d h i s : Nat} (k : Clk y m d h i s) (z : List UInt8) : fld (coreX y m d h i s ++ z) 17 2 = s := by
  show ((valX (b2 s) : Nat) : Int) = s
  rw [val_2 (by have := k.s; omega)]
theorem like_core {y m d h i s : Nat} (k : Clk y m d h i s) (z : List UInt8) (f : List UInt8) : likeX (coreX y m d h i s ++ z) ([48, 48, 48, 48, 45, 48, 48, 45, 48, 48, 84, 48, 48, 58, 48, 48, 58, 48, 48] ++ f) = likeX z f := by
  have hb := k.bd
  have hh := k.h
  have hi := k.i
  have hs := k.s
  have q : ∀ {n : Nat}, n < 10 → signX 48 (dg n) = true := fun hn => by rw [signX, if_pos rfl]; exact dg_dig hn
  have q45 : signX 45 45 = true := by decide
  have q84 : signX 84 84 = true := by decide
  have q58 : signX 58 58 = true := by decide
  show (signX 48 (dg (y / 1000)) && (signX 48 (dg (y / 100 % 10)) && (signX 48 (dg (y / 10 % 10)) && (signX 48 (dg (y % 10)) && (signX 45 45 && (signX 48 (dg (m / 10)) && (signX 48 (dg (m % 10)) && (signX 45 45 && (signX 48 (dg (d / 10)) && (signX 48 (dg (d % 10)) && (signX 84 84 && (signX 48 (dg (h / 10)) && (signX 48 (dg (h % 10)) && (signX 58 58 && (signX 48 (dg (i / 10)) && (signX 48 (dg (i % 10)) && (signX 58 58 && (signX 48 (dg (s / 10)) && (signX 48 (dg (s % 10)) && likeX z f))))))))))))))))))) = likeX z f
  rw [q (n := y / 1000) (by omega), q (n := y / 100 % 10) (by omega), q (n := y / 10 % 10) (by omega), q (n := y % 10) (by omega), q (n := m / 10) (by omega), q (n := m % 10) (by omega), q (n := d / 10) (by omega), q (n := d % 10) (by omega),
    q (n := h / 10) (by omega), q (n := h % 10) (by omega), q (n := i / 10) (by omega), q (n := i % 10) (by omega), q (n := s / 10) (by omega), q (n := s % 10) (by omega), q45, q84, q58]
  rfl
theorem dateB_core {y m d h i s : Nat} (k : Clk y m d h i s) (z : List UInt8) : dateB (coreX y m d h i s ++ z) = true := by
  unfold dateB
  rw [fld_y k, fld_m k, fld_d k]
  exact vldB_iff.2 k.vld
theorem clockB_core {y m d h i s : Nat} (k : Clk y m d h i s) (z : List UInt8) : clockB (coreX y m d h i s ++ z) = true := by
  unfold clockB
  rw [fld_h k, fld_i k, fld_s k]
  have := k.h
  have := k.i
  have := k.s
  simp [secB]
  omega
theorem parseT_core {y m d h i s : Nat} (k : Clk y m d h i s) (z : List UInt8) : parseT (coreX y m d h i s ++ z) = numD y m d * 86400 + ((h : Int) * 3600 + i * 60 + s) - sgnX (coreX y m d h i s ++ z) * (fld (coreX y m d h i s ++ z) 20 2 * 3600 + fld (coreX y m d h i s ++ z) 23 2 * 60) := by
  unfold parseT dateN
  rw [fld_y k, fld_m k, fld_d k, fld_h k, fld_i k, fld_s k]
/-- What stands in Z. -/
theorem parse_Z {y m d h i s : Nat} (k : Clk y m d h i s) {t : Int} (ht : numD y m d * 86400 + ((h : Int) * 3600 + i * 60 + s) = t) (hb : timB t = true) : parseV (textX y m d h i s) = t ∧ parseE (textX y m d h i s) = 0 := by
  have hf : formedX (coreX y m d h i s ++ [90]) = true := by
    have := like_core k [90] [90]
    unfold formedX
    rw [show formZ = [48, 48, 48, 48, 45, 48, 48, 45, 48, 48, 84, 48, 48, 58, 48, 48, 58, 48, 48] ++ [90] from rfl, this]
    rfl
  have hz1 : fld (coreX y m d h i s ++ [90]) 20 2 = 0 := fld_nil (by rw [List.length_append, coreX_len]; decide) 2
  have hz2 : fld (coreX y m d h i s ++ [90]) 23 2 = 0 := fld_nil (by rw [List.length_append, coreX_len]; decide) 2
  have hp : parseT (coreX y m d h i s ++ [90]) = t := by rw [parseT_core k, hz1, hz2, ← ht]; omega
  have ho : okX (coreX y m d h i s ++ [90]) = true := by
    unfold okX zoneB
    rw [dateB_core k, clockB_core k, hz1, hz2, hp, hb]
    rfl
  rw [textX_core, parseV, parseE, hf, ho, hp]
  exact ⟨rfl, rfl⟩
/-- What stands in another zone: a is 43 (+) or 45 (-). -/
theorem parse_zone {y m d h i s : Nat} (k : Clk y m d h i s) {zh zm : Nat} (h1 : zh ≤ 23) (h2 : zm ≤ 59) (a : UInt8) (ha : a = 43 ∨ a = 45) {t : Int} (ht : numD y m d * 86400 + ((h : Int) * 3600 + i * 60 + s) - (if a = 45 then -1 else 1) * ((zh : Int) * 3600 + zm * 60) = t) :
    parseV (coreX y m d h i s ++ ([a] ++ (b2 zh ++ [58] ++ b2 zm))) = (if timB t then t else 0) ∧ parseE (coreX y m d h i s ++ ([a] ++ (b2 zh ++ [58] ++ b2 zm))) = (if timB t then 0 else 1) := by
  have q : ∀ {n : Nat}, n < 10 → signX 48 (dg n) = true := fun hn => by rw [signX, if_pos rfl]; exact dg_dig hn
  have hl : ∀ g : UInt8, g = a → g ≠ 48 → likeX (coreX y m d h i s ++ ([a] ++ (b2 zh ++ [58] ++ b2 zm))) ([48, 48, 48, 48, 45, 48, 48, 45, 48, 48, 84, 48, 48, 58, 48, 48, 58, 48, 48] ++ [g, 48, 48, 58, 48, 48]) = true := by
    rintro g rfl hg
    rw [like_core k]
    show (signX g g && (signX 48 (dg (zh / 10)) && (signX 48 (dg (zh % 10)) && (signX 58 58 && (signX 48 (dg (zm / 10)) && (signX 48 (dg (zm % 10)) && true)))))) = true
    rw [q (n := zh / 10) (by omega), q (n := zh % 10) (by omega), q (n := zm / 10) (by omega), q (n := zm % 10) (by omega), show signX g g = true by rw [signX, if_neg hg]; exact beq_self_eq_true g]
    rfl
  have hf : formedX (coreX y m d h i s ++ ([a] ++ (b2 zh ++ [58] ++ b2 zm))) = true := by
    unfold formedX
    rcases ha with ha | ha
    · have := hl 43 ha.symm (by decide)
      rw [show formP = [48, 48, 48, 48, 45, 48, 48, 45, 48, 48, 84, 48, 48, 58, 48, 48, 58, 48, 48] ++ [43, 48, 48, 58, 48, 48] from rfl, this]
      simp
    · have := hl 45 ha.symm (by decide)
      rw [show formM = [48, 48, 48, 48, 45, 48, 48, 45, 48, 48, 84, 48, 48, 58, 48, 48, 58, 48, 48] ++ [45, 48, 48, 58, 48, 48] from rfl, this]
      simp
  have hz1 : fld (coreX y m d h i s ++ ([a] ++ (b2 zh ++ [58] ++ b2 zm))) 20 2 = zh := by
    show ((valX (b2 zh) : Nat) : Int) = zh
    rw [val_2 (by omega)]
  have hz2 : fld (coreX y m d h i s ++ ([a] ++ (b2 zh ++ [58] ++ b2 zm))) 23 2 = zm := by
    show ((valX (b2 zm) : Nat) : Int) = zm
    rw [val_2 (by omega)]
  have hsg : sgnX (coreX y m d h i s ++ ([a] ++ (b2 zh ++ [58] ++ b2 zm))) = if a = 45 then -1 else 1 := by
    show (if some a = some (45 : UInt8) then (-1 : Int) else 1) = _
    simp
  have hp : parseT (coreX y m d h i s ++ ([a] ++ (b2 zh ++ [58] ++ b2 zm))) = t := by rw [parseT_core k, hz1, hz2, hsg, ← ht]
  have ho : okX (coreX y m d h i s ++ ([a] ++ (b2 zh ++ [58] ++ b2 zm))) = timB t := by
    unfold okX zoneB
    rw [dateB_core k, clockB_core k, hz1, hz2, hp, show secB zh zm 0 = true by simp [secB]; omega]
    simp
  rw [parseV, parseE, hf, ho, hp]
  exact ⟨rfl, rfl⟩
/-- The date and the clock of a time. -/
theorem clk_of {t : Int} (ht : timB t = true) : Clk (ofD (t / 86400)).1.toNat (ofD (t / 86400)).2.1.toNat (ofD (t / 86400)).2.2.toNat (t % 86400 / 3600).toNat (t % 3600 / 60).toNat (t % 60).toNat ∧
    numD ((ofD (t / 86400)).1.toNat : Int) ((ofD (t / 86400)).2.1.toNat : Int) ((ofD (t / 86400)).2.2.toNat : Int) * 86400 + (((t % 86400 / 3600).toNat : Int) * 3600 + (t % 3600 / 60).toNat * 60 + (t % 60).toNat) = t := by
  have hb := timB_iff.1 ht
  obtain ⟨hv, hn⟩ := ofD_spec (n := t / 86400) (by omega) (by omega)
  have e1 : ((ofD (t / 86400)).1.toNat : Int) = (ofD (t / 86400)).1 := Int.toNat_of_nonneg (by have := hv.y1; omega)
  have e2 : ((ofD (t / 86400)).2.1.toNat : Int) = (ofD (t / 86400)).2.1 := Int.toNat_of_nonneg (by have := hv.m; omega)
  have e3 : ((ofD (t / 86400)).2.2.toNat : Int) = (ofD (t / 86400)).2.2 := Int.toNat_of_nonneg (by have := hv.d1; omega)
  refine ⟨⟨by rw [e1, e2, e3]; exact hv, by omega, by omega, by omega⟩, ?_⟩
  rw [e1, e2, e3, hn]
  omega
theorem back_x {t : Int} (ht : timB t = true) : parseV (printS t) = t ∧ parseE (printS t) = 0 ∧ printE t = 0 ∧ (printS t).length = 20 := by
  obtain ⟨k, hn⟩ := clk_of ht
  have := parse_Z k hn ht
  unfold printS printE
  rw [ht, if_pos rfl, if_pos rfl]
  exact ⟨this.1, this.2, rfl, rfl⟩
theorem print_none {t : Int} (ht : timB t = false) : printS t = [] ∧ printE t = 1 := by
  unfold printS printE
  rw [ht]
  exact ⟨rfl, rfl⟩
/-- What is parsed is a time. -/
theorem parse_time {l : List UInt8} (h : parseE l = 0) : timB (parseV l) = true := by
  unfold parseE at h
  unfold parseV
  cases hf : formedX l
  · rw [hf] at h; cases h
  · rw [hf] at h
    cases ho : okX l
    · rw [ho] at h; cases h
    · unfold okX at ho
      rw [Bool.and_eq_true] at ho
      exact ho.2
theorem parseE_cases (l : List UInt8) : parseE l = 0 ∨ parseE l = 1 ∨ parseE l = 2 := by
  unfold parseE
  split
  · split
    · exact .inl rfl
    · exact .inr (.inl rfl)
  · exact .inr (.inr rfl)
end Go.Proofs.YtdcakmamdabiaaaDoor
