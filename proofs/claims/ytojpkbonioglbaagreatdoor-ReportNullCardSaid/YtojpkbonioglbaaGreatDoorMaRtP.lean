import Derived.Test.YtojpkbonioglbaaGreatDoorMaEvA
import Derived.Test.YtojpkbonioglbaaGreatDoorPtMath
import Derived.Test.YtojpkbonioglbaaGreatDoorMaPure
import Derived.Test.YtojpkbonioglbaaGreatDoorRpMath
namespace Go.Proofs.YtojpkbonioglbaaGreatDoor.E.T
set_option maxRecDepth 100000
open Go.RowKit
def kDel : Txt := [100, 101, 108, 97, 121, 101, 100]
def kFai : Txt := [102, 97, 105, 108, 101, 100]
def kDlv : Txt := [100, 101, 108, 105, 118, 101, 114, 101, 100]
def kRly : Txt := [114, 101, 108, 97, 121, 101, 100]
def clsK (k : Txt) : Option Int := if k = kRly then some 2 else if k = kDlv then some 2 else if k = kFai then some 5 else if k = kDel then some 4 else none
structure RT where
 kind : Txt
 x : EM
 pl : Int
 now : Int
 til : Int
 host : Txt
 rp : Rp
def inR (n a b : Int) : Bool := decide (a ≤ n) && decide (n ≤ b)
noncomputable def rtE (r : RT) : Int :=
 if clsK r.kind = none then 10
 else if (inR r.now 0 1099511627776 && (inR r.til 0 2199023255552 && inR r.pl 0 ((r.x.rc.length : Int) - 1))) = false then 1
 else if enE r.x ≠ 0 then enE r.x
 else if P.nullB r.x.fr = true then 9
 else if (P.domainE r.host == 0 && P.domainV r.host == r.host) = false then 2
 else if r.rp.code = 0 then 0 else rpRight r.rp
def rtCode (r : RT) : E3 := if (r.rp.code != 0 && rpHas r.rp.e) = true then r.rp.e else ((clsK r.kind).getD 0, 0, 0)
def rtFull (r : RT) : Bool := r.kind == kFai && r.x.m.ret == [70, 85, 76, 76]
def rtBack (r : RT) : List Txt := if rtFull r then r.x.ls else r.x.ls.takeWhile (fun t => t != [])
def bPre : Txt := [45, 45, 114, 101, 112, 111, 114, 116, 46]
def usesB (l : List Txt) (n : Nat) : Bool := l.any fun t => (bPre ++ Lib.itoa n).isPrefixOf t
def firstB (l : List Txt) : Nat → Nat → Nat
 | 0, n => n
 | f + 1, n => if usesB l n then firstB l f (n + 1) else n
def leastB (l : List Txt) : Nat := firstB l (10 * l.length) 1
def bnd (l : List Txt) : Txt := [114, 101, 112, 111, 114, 116, 46] ++ Lib.itoa (leastB l)
noncomputable def tmL (n : Int) : Txt := printS (min n 253402300799)
def lowL (l : Txt) : Txt := P.smallL l
def rtTo (r : RT) : Rc := r.x.rc.getD r.pl.toNat ⟨([], []), zeroR⟩
def bareL (s : Txt) : Txt := Lib.trimSuffix (Lib.trimPrefix s [60]) [62]
def dots (e : E3) : Txt := Lib.itoa e.1 ++ 46 :: (Lib.itoa e.2.1 ++ 46 :: Lib.itoa e.2.2)
noncomputable def sec1 (r : RT) (b : Txt) : List Txt := [[70, 114, 111, 109, 58, 32] ++ P.textL ([112, 111, 115, 116, 109, 97, 115, 116, 101, 114], r.host), [84, 111, 58, 32] ++ P.textL r.x.fr, [68, 97, 116, 101, 58, 32] ++ tmL r.now, [83, 117, 98, 106, 101, 99, 116, 58, 32, 68, 101, 108, 105, 118, 101, 114, 121, 32, 114, 101, 112, 111, 114, 116, 58, 32] ++ r.kind, [77, 73, 77, 69, 45, 86, 101, 114, 115, 105, 111, 110, 58, 32, 49, 46, 48], [67, 111, 110, 116, 101, 110, 116, 45, 84, 121, 112, 101, 58, 32, 109, 117, 108, 116, 105, 112, 97, 114, 116, 47, 114, 101, 112, 111, 114, 116, 59, 32, 114, 101, 112, 111, 114, 116, 45, 116, 121, 112, 101, 61, 100, 101, 108, 105, 118, 101, 114, 121, 45, 115, 116, 97, 116, 117, 115, 59, 32, 98, 111, 117, 110, 100, 97, 114, 121, 61] ++ b, []]
def part (b f : Txt) : List Txt := [[45, 45] ++ b, [67, 111, 110, 116, 101, 110, 116, 45, 84, 121, 112, 101, 58, 32] ++ f, []]
def sec2 (r : RT) : List Txt := [[84, 104, 101, 32, 109, 101, 115, 115, 97, 103, 101, 32, 116, 111, 32] ++ P.textL (rtTo r).p ++ (if r.kind = kDel then [32, 105, 115, 32] else [32, 119, 97, 115, 32]) ++ r.kind ++ [46], []]
noncomputable def sec3 (r : RT) : List Txt := [[82, 101, 112, 111, 114, 116, 105, 110, 103, 45, 77, 84, 65, 58, 32, 100, 110, 115, 59, 32] ++ r.host] ++ (if r.x.m.env = [] then [] else [[79, 114, 105, 103, 105, 110, 97, 108, 45, 69, 110, 118, 101, 108, 111, 112, 101, 45, 73, 100, 58, 32] ++ X.encX r.x.m.env]) ++ [[65, 114, 114, 105, 118, 97, 108, 45, 68, 97, 116, 101, 58, 32] ++ tmL r.x.at_, []]
noncomputable def sec4 (r : RT) : List Txt := (if (rtTo r).r.kind = [] then [] else [[79, 114, 105, 103, 105, 110, 97, 108, 45, 82, 101, 99, 105, 112, 105, 101, 110, 116, 58, 32] ++ lowL (rtTo r).r.kind ++ [59, 32] ++ X.encX (rtTo r).r.oc]) ++ [[70, 105, 110, 97, 108, 45, 82, 101, 99, 105, 112, 105, 101, 110, 116, 58, 32, 114, 102, 99, 56, 50, 50, 59, 32] ++ bareL (P.textL (rtTo r).p), [65, 99, 116, 105, 111, 110, 58, 32] ++ r.kind, [83, 116, 97, 116, 117, 115, 58, 32] ++ dots (rtCode r)]
 ++ (if r.rp.code = 0 then [] else [[68, 105, 97, 103, 110, 111, 115, 116, 105, 99, 45, 67, 111, 100, 101, 58, 32, 115, 109, 116, 112, 59, 32] ++ Lib.itoa r.rp.code ++ [32] ++ r.rp.text.headD []]) ++ (if r.kind = kDel then [[87, 105, 108, 108, 45, 82, 101, 116, 114, 121, 45, 85, 110, 116, 105, 108, 58, 32] ++ tmL r.til] else []) ++ [[]]
def tyT : Txt := [116, 101, 120, 116, 47, 112, 108, 97, 105, 110]
def tyS : Txt := [109, 101, 115, 115, 97, 103, 101, 47, 100, 101, 108, 105, 118, 101, 114, 121, 45, 115, 116, 97, 116, 117, 115]
def tyM : Txt := [109, 101, 115, 115, 97, 103, 101, 47, 114, 102, 99, 56, 50, 50]
def tyH : Txt := [116, 101, 120, 116, 47, 114, 102, 99, 56, 50, 50, 45, 104, 101, 97, 100, 101, 114, 115]
noncomputable def rtPre (r : RT) : List Txt := sec1 r (bnd (rtBack r)) ++ part (bnd (rtBack r)) tyT ++ sec2 r ++ part (bnd (rtBack r)) tyS ++ sec3 r ++ sec4 r ++ part (bnd (rtBack r)) (if rtFull r then tyM else tyH)
noncomputable def rtLines (r : RT) : List Txt := rtPre r ++ rtBack r ++ [[45, 45] ++ bnd (rtBack r) ++ [45, 45]]
def cntB (b : Txt) (l : List Txt) : Nat := (l.filter fun t => b.isPrefixOf t).length
theorem cnt_app (b : Txt) (l m : List Txt) : cntB b (l ++ m) = cntB b l + cntB b m := by unfold cntB; rw [List.filter_append, List.length_append]
theorem cnt_none {b : Txt} {l : List Txt} (h : ∀ t ∈ l, b.isPrefixOf t = false) : cntB b l = 0 := by
 unfold cntB
 rw [List.length_eq_zero_iff, List.filter_eq_nil_iff]
 intro t ht
 rw [h t ht]; decide
theorem pre_no {x : Txt} {t : Txt} (h : t.head? ≠ some 45) : (45 :: x : Txt).isPrefixOf t = false := by
 cases t with
 | nil => rfl
 | cons c l =>
  have : ¬ (45 : UInt8) = c := fun e => h (by rw [← e]; rfl)
  simp [List.isPrefixOf, this]
theorem pre_self (b x : Txt) : b.isPrefixOf (b ++ x) = true := by simp
def NoD (l : List Txt) : Prop := ∀ t ∈ l, t.head? ≠ some 45
theorem NoD.app {l m : List Txt} (h : NoD l) (k : NoD m) : NoD (l ++ m) := fun t ht => by
 rcases List.mem_append.1 ht with ht | ht
 ·exact h t ht
 ·exact k t ht
theorem NoD.nil : NoD [] := fun t h => by cases h
theorem NoD.cons {t : Txt} {l : List Txt} (h : t.head? ≠ some 45) (k : NoD l) : NoD (t :: l) := fun u hu => by
 rcases List.mem_cons.1 hu with rfl | hu
 ·exact h
 ·exact k u hu
theorem NoD.ite {p : Prop} [Decidable p] {l m : List Txt} (h : NoD l) (k : NoD m) : NoD (if p then l else m) := by split <;> assumption
theorem NoD.cnt {x : Txt} {l : List Txt} (h : NoD l) : cntB (45 :: x) l = 0 := cnt_none fun t ht => pre_no (h t ht)
theorem nod1 (r : RT) (b : Txt) : NoD (sec1 r b) := by unfold sec1; repeat' (first | exact NoD.nil | refine NoD.cons (by decide) ?_ | refine NoD.cons (by simp) ?_)
theorem nod2 (r : RT) : NoD (sec2 r) := by unfold sec2; repeat' (first | exact NoD.nil | refine NoD.cons (by decide) ?_ | refine NoD.cons (by simp) ?_)
theorem nod3 (r : RT) : NoD (sec3 r) := by unfold sec3; repeat' (first | exact NoD.nil | refine NoD.app ?_ ?_ | refine NoD.ite ?_ ?_ | refine NoD.cons (by decide) ?_ | refine NoD.cons (by simp) ?_)
theorem nod4 (r : RT) : NoD (sec4 r) := by unfold sec4; repeat' (first | exact NoD.nil | refine NoD.app ?_ ?_ | refine NoD.ite ?_ ?_ | refine NoD.cons (by decide) ?_ | refine NoD.cons (by simp) ?_)
theorem cnt_part (b f : Txt) : cntB ([45, 45] ++ b) (part b f) = 1 := by
 unfold part cntB
 have h1 : ([45, 45] ++ b : Txt).isPrefixOf ([45, 45] ++ b) = true := by simp
 have h2 : ([45, 45] ++ b : Txt).isPrefixOf ([67, 111, 110, 116, 101, 110, 116, 45, 84, 121, 112, 101, 58, 32] ++ f) = false := pre_no (by simp)
 have h3 : ([45, 45] ++ b : Txt).isPrefixOf [] = false := rfl
 rw [List.filter_cons, h1, if_pos rfl, List.filter_cons, h2, List.filter_cons, h3]
 rfl
theorem four {r : RT} (h : usesB (rtBack r) (leastB (rtBack r)) = false) : cntB ([45, 45] ++ bnd (rtBack r)) (rtLines r) = 4 := by
 have e : ∀ l, NoD l → cntB ([45, 45] ++ bnd (rtBack r)) l = 0 := fun l hl => hl.cnt
 have hb : cntB ([45, 45] ++ bnd (rtBack r)) (rtBack r) = 0 := cnt_none fun t ht => by
  unfold usesB at h
  rw [List.any_eq_false] at h
  exact Bool.eq_false_iff.2 (h t ht)
 have hl : cntB ([45, 45] ++ bnd (rtBack r)) [[45, 45] ++ bnd (rtBack r) ++ [45, 45]] = 1 := by
  unfold cntB
  rw [List.filter_cons, pre_self]
  rfl
 unfold rtLines rtPre
 simp only [cnt_app, cnt_part, e _ (nod1 _ _), e _ (nod2 _), e _ (nod3 _), e _ (nod4 _), hb, hl]
theorem act_mem (r : RT) : ([65, 99, 116, 105, 111, 110, 58, 32] ++ r.kind) ∈ rtLines r := by
 unfold rtLines rtPre sec4
 simp
theorem pre_end (r : RT) : ∃ l, rtPre r = l ++ [[]] ∧ 7 ≤ l.length := by
 refine ⟨sec1 r (bnd (rtBack r)) ++ part (bnd (rtBack r)) tyT ++ sec2 r ++ part (bnd (rtBack r)) tyS ++ sec3 r ++ sec4 r ++ [[45, 45] ++ bnd (rtBack r), [67, 111, 110, 116, 101, 110, 116, 45, 84, 121, 112, 101, 58, 32] ++ (if rtFull r then tyM else tyH)], ?_, ?_⟩
 ·unfold rtPre part
  simp
 ·unfold sec1
  simp
end Go.Proofs.YtojpkbonioglbaaGreatDoor.E.T
namespace Go.Proofs.YtojpkbonioglbaaGreatDoor.E.T
set_option maxRecDepth 100000
open Go.RowKit
theorem tdg_val {b : UInt8} (h : digB b = true) : dg (b.toNat - 48) = b := by
 obtain ⟨h1, h2⟩ := dig_bd h
 apply UInt8.toNat_inj.1
 rw [dg_nat (by omega)]
 omega
theorem tdd_48 : ∀ (k n : Nat), n < 10 ^ (k + 1) → ∀ t, Lib.decDigits n = 48 :: t → t = []
 | 0, n, h, t, e => by
  have h' : n < 10 := by simpa using h
  rw [dec_1 h'] at e
  injection e with _ e
  exact e.symm
 | k + 1, n, h, t, e => by
  by_cases h' : n < 10
  ·rw [dec_1 h'] at e
   injection e with _ e
   exact e.symm
  ·exfalso
   have hk : n / 10 < 10 ^ (k + 1) := by
    rw [Nat.div_lt_iff_lt_mul (by decide)]
    rw [Nat.pow_succ] at h
    exact h
   rw [dec_s h'] at e
   obtain ⟨h1, _, _, h4⟩ := dd_all k (n / 10) hk
   cases hd : Lib.decDigits (n / 10) with
   | nil => exact h1 hd
   | cons b u =>
    rw [hd, List.cons_append] at e
    injection e with e1 e2
    rw [e1] at hd
    have hu := tdd_48 k (n / 10) hk u hd
    rw [hd, hu] at h4
    have : valX [48] = 0 := rfl
    omega
theorem tdd_val (l : Txt) (h0 : l ≠ []) (hd : l.all digB = true) (hh : l.length = 1 ∨ l.head? ≠ some 48) : Lib.decDigits (valX l) = l := by
 rcases List.eq_nil_or_concat l with e | ⟨p, b, e⟩
 ·exact absurd e h0
 ·try rw [List.concat_eq_append] at e
  have hb : digB b = true := List.all_eq_true.1 hd b (by rw [e]; simp)
  have hp : p.all digB = true := List.all_eq_true.2 fun x hx => List.all_eq_true.1 hd x (by rw [e]; simp [hx])
  obtain ⟨b1, b2⟩ := dig_bd hb
  by_cases hn : p = []
  ·rw [hn, List.nil_append] at e
   rw [e]
   have : valX [b] = b.toNat - 48 := by simp [valX]
   rw [this, dec_1 (by omega), tdg_val hb]
  ·have hl : 1 ≤ p.length := by cases p with
    | nil => exact absurd rfl hn
    | cons a t => simp
   have hx : p.head? ≠ some 48 := by
    rcases hh with hh | hh
    ·rw [e] at hh; simp at hh; exact absurd hh (by intro h; exact hn h)
    ·rw [e, List.head?_append] at hh
     cases p with
     | nil => exact absurd rfl hn
     | cons a t => simpa using hh
   have ih := tdd_val p hn hp (.inr hx)
   have hv : valX p ≠ 0 := fun hz => by
    rw [hz] at ih
    have : Lib.decDigits 0 = [48] := by rw [dec_1 (by decide)]; rfl
    rw [this] at ih
    rw [← ih] at hx
    exact hx rfl
   rw [e, valX_snoc, dec_s (by omega), show (valX p * 10 + (b.toNat - 48)) / 10 = valX p by omega, show (valX p * 10 + (b.toNat - 48)) % 10 = b.toNat - 48 by omega, ih, tdg_val hb]
termination_by l.length
decreasing_by
 simp [*]
theorem pig : ∀ (m l : List Txt), m.Nodup → (∀ t ∈ m, t ∈ l) → m.length ≤ l.length
 | [], _, _, _ => Nat.zero_le _
 | a :: m, l, hn, hs => by
  obtain ⟨l1, l2, rfl⟩ := List.append_of_mem (hs a (by simp))
  rw [List.nodup_cons] at hn
  have h := pig m (l1 ++ l2) hn.2 (fun t ht => by
   have h1 := hs t (by simp [ht])
   rw [List.mem_append, List.mem_cons] at h1
   rcases h1 with h1 | rfl | h1
   ·simp [h1]
   ·exact absurd ht hn.1
   ·simp [h1])
  simp only [List.length_append, List.length_cons] at h ⊢
  omega
theorem first_spec (l : List Txt) : ∀ (f n : Nat), (∀ m, n ≤ m → m < firstB l f n → usesB l m = true) ∧ n ≤ firstB l f n ∧ firstB l f n ≤ n + f ∧ (firstB l f n < n + f → usesB l (firstB l f n) = false)
 | 0, n => ⟨fun m h1 h2 => by simp only [firstB] at h2; omega, Nat.le_refl _, Nat.le_refl _, fun h => by simp only [firstB] at h; omega⟩
 | f + 1, n => by
  rw [firstB]
  by_cases hu : usesB l n = true
  ·rw [if_pos hu]
   obtain ⟨h1, h2, h3, h4⟩ := first_spec l f (n + 1)
   refine ⟨fun m a b => ?_, by omega, by omega, fun h => h4 (by omega)⟩
   by_cases e : m = n
   ·rw [e]; exact hu
   ·exact h1 m (by omega) b
  ·rw [if_neg hu]
   exact ⟨fun m a b => by omega, Nat.le_refl _, by omega, fun _ => by simpa using hu⟩
theorem dd_of {n : Nat} (h : n < 10 ^ 10) : Lib.decDigits n ≠ [] ∧ (Lib.decDigits n).length ≤ 10 ∧ (Lib.decDigits n).all digB = true ∧ valX (Lib.decDigits n) = n := dd_all 9 n h
theorem itoa_n (n : Nat) : Lib.itoa (n : Int) = Lib.decDigits n := by
 unfold Lib.itoa
 rw [if_neg (by omega)]
 simp
theorem used_iff {l : List Txt} {n : Nat} : usesB l n = true ↔ ∃ t ∈ l, bPre.isPrefixOf t = true ∧ (Lib.decDigits n).isPrefixOf (t.drop 9) = true := by
 unfold usesB
 rw [List.any_eq_true, itoa_n]
 constructor
 ·rintro ⟨t, ht, hp⟩
  obtain ⟨r, rfl⟩ := List.isPrefixOf_iff_prefix.1 hp
  refine ⟨_, ht, by rw [List.append_assoc]; exact List.isPrefixOf_iff_prefix.2 (List.prefix_append _ _), ?_⟩
  rw [List.append_assoc, show (bPre ++ (Lib.decDigits n ++ r)).drop 9 = Lib.decDigits n ++ r from rfl]
  exact List.isPrefixOf_iff_prefix.2 (List.prefix_append _ _)
 ·rintro ⟨t, ht, h1, h2⟩
  obtain ⟨r, rfl⟩ := List.isPrefixOf_iff_prefix.1 h1
  rw [show (bPre ++ r).drop 9 = r from rfl] at h2
  obtain ⟨q, rfl⟩ := List.isPrefixOf_iff_prefix.1 h2
  exact ⟨_, ht, by rw [← List.append_assoc]; exact List.isPrefixOf_iff_prefix.2 (List.prefix_append _ _)⟩
theorem dd_inj {a b : Nat} (ha : a < 10 ^ 10) (hb : b < 10 ^ 10) (h : Lib.decDigits a = Lib.decDigits b) : a = b := by
 have h1 := (dd_of ha).2.2.2
 rw [h, (dd_of hb).2.2.2] at h1
 exact h1.symm
theorem some_free (l : List Txt) (hl : l.length ≤ 100000000) : ¬ ∀ n, 1 ≤ n → n ≤ 10 * l.length + 1 → usesB l n = true := by
 intro hu
 have hb : ∀ n, n ≤ 10 * l.length + 1 → n < 10 ^ 10 := fun n h => by omega
 have hp := pig ((List.range (10 * l.length + 1)).map fun n => Lib.decDigits (n + 1)) (l.flatMap fun t => (List.range 10).map fun d => (t.drop 9).take (d + 1)) (by
  rw [List.nodup_iff_pairwise_ne, List.pairwise_map]
  refine (List.nodup_iff_pairwise_ne.1 List.nodup_range).imp_of_mem ?_
  intro a b ha hb2 hne e
  rw [List.mem_range] at ha hb2
  have := dd_inj (hb (a + 1) (by omega)) (hb (b + 1) (by omega)) e
  omega) (by
  intro s hs
  obtain ⟨n, hn, rfl⟩ := List.mem_map.1 hs
  rw [List.mem_range] at hn
  obtain ⟨t, ht, _, h2⟩ := used_iff.1 (hu (n + 1) (by omega) (by omega))
  obtain ⟨r, hr⟩ := List.isPrefixOf_iff_prefix.1 h2
  obtain ⟨d1, d2, _⟩ := dd_of (hb (n + 1) (by omega))
  refine List.mem_flatMap.2 ⟨t, ht, List.mem_map.2 ⟨(Lib.decDigits (n + 1)).length - 1, List.mem_range.2 ?_, ?_⟩⟩
  ·have := List.length_pos_iff.2 d1; omega
  ·have := List.length_pos_iff.2 d1
   rw [show (Lib.decDigits (n + 1)).length - 1 + 1 = (Lib.decDigits (n + 1)).length by omega, ← hr]
   simp)
 have e : (l.flatMap fun t => (List.range 10).map fun d => (t.drop 9).take (d + 1)).length = 10 * l.length := by
  clear hp hu hb hl
  induction l with
  | nil => rfl
  | cons a l ih => rw [List.flatMap_cons, List.length_append, ih]; simp; omega
 rw [e] at hp
 simp at hp
 omega
theorem least_ok (l : List Txt) (hl : l.length ≤ 100000000) : usesB l (leastB l) = false ∧ 1 ≤ leastB l ∧ leastB l ≤ 10 * l.length + 1 ∧ ∀ m, 1 ≤ m → m < leastB l → usesB l m = true := by
 obtain ⟨h1, h2, h3, h4⟩ := first_spec l (10 * l.length) 1
 refine ⟨?_, h2, by show firstB l (10 * l.length) 1 ≤ _; omega, h1⟩
 by_cases hlt : firstB l (10 * l.length) 1 < 1 + 10 * l.length
 ·exact h4 hlt
 ·rcases Bool.eq_false_or_eq_true (usesB l (leastB l)) with hu | hu
  ·exfalso
   refine some_free l hl fun n a b => ?_
   by_cases e : n = firstB l (10 * l.length) 1
   ·rw [e]; exact hu
   ·exact h1 n a (by omega)
  ·exact hu
def begL : Nat → Nat → Txt → List Nat
 | 0, _, _ => []
 | _ + 1, _, [] => []
 | f + 1, n, b :: t => if digB b = false ∨ (n = 0 ∧ b = 48) then [] else (n * 10 + (b.toNat - 48)) :: begL f (n * 10 + (b.toNat - 48)) t
def vfrom (n : Nat) (l : Txt) : Nat := l.foldl (fun n b => n * 10 + (b.toNat - 48)) n
theorem beg_mem : ∀ (f n : Nat) (t : Txt) (m : Nat), m ∈ begL f n t ↔ ∃ k, 1 ≤ k ∧ k ≤ f ∧ k ≤ t.length ∧ (t.take k).all digB = true ∧ (n = 0 → t.head? ≠ some 48) ∧ m = vfrom n (t.take k)
 | 0, n, t, m => ⟨fun h => (by cases h), fun ⟨k, h1, h2, _⟩ => by omega⟩
 | f + 1, n, [], m => ⟨fun h => (by cases h), fun ⟨k, h1, _, h3, _⟩ => by simp at h3; omega⟩
 | f + 1, n, b :: t, m => by
  rw [begL]
  by_cases hc : digB b = false ∨ (n = 0 ∧ b = 48)
  ·rw [if_pos hc]
   refine ⟨fun h => (by cases h), fun ⟨k, h1, _, _, h4, h5, _⟩ => ?_⟩
   obtain ⟨j, rfl⟩ : ∃ j, k = j + 1 := ⟨k - 1, by omega⟩
   rw [List.take_succ_cons, List.all_cons, Bool.and_eq_true] at h4
   rcases hc with hc | hc
   ·rw [hc] at h4; exact absurd h4.1 (by decide)
   ·exact absurd (by rw [hc.2]; rfl) (h5 hc.1)
  ·rw [if_neg hc, List.mem_cons, beg_mem f _ t m]
   have hd : digB b = true := by
    cases h : digB b
    ·exact absurd (.inl h) hc
    ·rfl
   have hpos : ¬ n * 10 + (b.toNat - 48) = 0 := fun e => by
    have h1 := dig_bd hd
    refine hc (.inr ⟨by omega, UInt8.toNat_inj.1 ?_⟩)
    show b.toNat = 48
    omega
   constructor
   ·rintro (rfl | ⟨k, h1, h2, h3, h4, _, h6⟩)
    ·exact ⟨1, Nat.le_refl _, by omega, by simp, by simp [hd], fun e => by
      intro h
      injection h with h
      exact hc (.inr ⟨e, h⟩), rfl⟩
    ·exact ⟨k + 1, by omega, by omega, by simp; omega, by simp [hd, h4], fun e => by
      intro h
      injection h with h
      exact hc (.inr ⟨e, h⟩), h6⟩
   ·rintro ⟨k, h1, h2, h3, h4, h5, h6⟩
    obtain ⟨j, rfl⟩ : ∃ j, k = j + 1 := ⟨k - 1, by omega⟩
    cases j with
    | zero => exact .inl h6
    | succ j =>
     refine .inr ⟨j + 1, by omega, by omega, by simp at h3; omega, ?_, fun e => absurd e hpos, h6⟩
     rw [List.take_succ_cons, List.all_cons, Bool.and_eq_true] at h4
     exact h4.2
theorem beg_iff {t : Txt} {m : Nat} (hm1 : 1 ≤ m) (hm : m < 10 ^ 10) : m ∈ begL 10 0 t ↔ (Lib.decDigits m).isPrefixOf t = true := by
 obtain ⟨d1, d2, d3, d4⟩ := dd_of hm
 have hdp := List.length_pos_iff.2 d1
 rw [beg_mem, List.isPrefixOf_iff_prefix]
 constructor
 ·rintro ⟨k, h1, h2, h3, h4, h5, h6⟩
  have hne : t.take k ≠ [] := fun e => by
   have h7 := congrArg List.length e
   rw [List.length_take, Nat.min_eq_left h3] at h7
   simp at h7
   omega
  have hh : (t.take k).head? = t.head? := by
   obtain ⟨j, rfl⟩ : ∃ j, k = j + 1 := ⟨k - 1, by omega⟩
   cases t <;> rfl
  have e : Lib.decDigits (valX (t.take k)) = t.take k := tdd_val _ hne h4 (.inr (by rw [hh]; exact h5 rfl))
  have h6' : m = valX (t.take k) := h6
  rw [h6', e]
  exact List.take_prefix _ _
 ·rintro ⟨r, rfl⟩
  refine ⟨(Lib.decDigits m).length, hdp, d2, by simp, by simpa using d3, fun _ h => ?_, by simp; exact d4.symm⟩
  cases hd : Lib.decDigits m with
  | nil => exact d1 hd
  | cons b u =>
   rw [hd] at h
   injection h with h
   rw [h] at hd
   have := tdd_48 9 m hm u hd
   rw [hd, this] at d4
   have h0 : valX [48] = 0 := rfl
   omega
def usedL (l : List Txt) : List Nat := l.flatMap fun t => if bPre.isPrefixOf t then begL 10 0 (t.drop 9) else []
theorem usedL_iff {l : List Txt} {m : Nat} (hm1 : 1 ≤ m) (hm : m < 10 ^ 10) : m ∈ usedL l ↔ usesB l m = true := by
 rw [used_iff, usedL, List.mem_flatMap]
 constructor
 ·rintro ⟨t, ht, h⟩
  split at h
  ·rename_i hp
   exact ⟨t, ht, hp, (beg_iff hm1 hm).1 h⟩
  ·cases h
 ·rintro ⟨t, ht, hp, h⟩
  exact ⟨t, ht, by rw [if_pos hp]; exact (beg_iff hm1 hm).2 h⟩
end Go.Proofs.YtojpkbonioglbaaGreatDoor.E.T
namespace Go.Proofs.YtojpkbonioglbaaGreatDoor.E.T
set_option maxRecDepth 100000
open Go.RowKit
def szL (ps : List Txt) : Int := if L.wrongOf 998 (bs ps) = 0 then ((L.dataOf (bs ps)).length : Int) else 0
def cost (t : Txt) : Int := szL [t] - szL []
def fitL : Int → List Txt → List Txt
 | _, [] => []
 | room, t :: l => if room - cost (t.take 998) < 0 then [] else t.take 998 :: fitL (room - cost (t.take 998)) l
def plainT (t : Txt) : Bool := L.plainB t
theorem sz_nil : szL [] = 3 := rfl
theorem laid_len (t : Txt) : t.length + 2 ≤ (L.laidOf t).length ∧ (L.laidOf t).length ≤ t.length + 3 := by
 unfold L.laidOf
 split <;> simp <;> omega
theorem cost_ok {t : Txt} (h : plainT t = true) (hl : t.length ≤ 998) : cost t = ((L.laidOf t).length : Int) := by
 unfold cost
 rw [sz_nil]
 unfold szL
 have h0 : L.wrongOf 998 (bs [t]) = 0 := zero_wrongOf fun p hp => by
  simp only [bs, List.map_cons, List.map_nil, List.mem_singleton] at hp
  subst hp
  rw [mkS_data, mkS_size]
  exact ⟨h, hl⟩
 rw [if_pos h0]
 unfold L.dataOf L.bodyOf bs
 simp [mkS_data]
theorem plain_take {t : Txt} (h : plainT t = true) (n : Nat) : plainT (t.take n) = true := by
 unfold plainT L.plainB at *
 rw [List.all_eq_true] at *
 exact fun b hb => h b (List.mem_of_mem_take hb)
theorem fit_mem : ∀ {l : List Txt} {room : Int} {t : Txt}, t ∈ fitL room l → ∃ u ∈ l, t = u.take 998
 | [], _, t, h => by cases h
 | a :: l, room, t, h => by
  rw [fitL] at h
  split at h
  ·cases h
  ·rcases List.mem_cons.1 h with rfl | h
   ·exact ⟨a, by simp, rfl⟩
   ·obtain ⟨u, hu, e⟩ := fit_mem h
    exact ⟨u, by simp [hu], e⟩
theorem fit_len : ∀ (l : List Txt) (room : Int), (∀ t ∈ l, plainT t = true) → 0 ≤ room → ((L.bodyOf (bs (fitL room l))).length : Int) ≤ room
 | [], room, _, hr => by simpa [fitL, bs, L.bodyOf] using hr
 | a :: l, room, h, hr => by
  rw [fitL]
  split
  ·simpa [bs, L.bodyOf] using hr
  ·rename_i hc
   have h1 := cost_ok (plain_take (h a (by simp)) 998) (by rw [List.length_take]; omega)
   have h2 := fit_len l (room - cost (a.take 998)) (fun t ht => h t (by simp [ht])) (by omega)
   have e : (L.bodyOf (bs (a.take 998 :: fitL (room - cost (a.take 998)) l))).length = (L.laidOf (a.take 998)).length + (L.bodyOf (bs (fitL (room - cost (a.take 998)) l))).length := by
    unfold L.bodyOf bs
    rw [List.map_cons, List.flatMap_cons, List.length_append, mkS_data]
   rw [e]
   omega
theorem fit_ok {l : List Txt} (h : ∀ t ∈ l, plainT t = true) : L.wrongOf 998 (bs (fitL 4093 l)) = 0 ∧ (L.dataOf (bs (fitL 4093 l))).length ≤ 4096 := by
 constructor
 ·refine zero_wrongOf fun p hp => ?_
  obtain ⟨t, ht, rfl⟩ := List.mem_map.1 hp
  obtain ⟨u, hu, rfl⟩ := fit_mem ht
  rw [mkS_data, mkS_size]
  exact ⟨plain_take (h u hu) 998, by rw [List.length_take]; omega⟩
 ·have := fit_len l 4093 h (by decide)
  unfold L.dataOf
  rw [List.length_append]
  simp
  omega
theorem fit_front : ∀ (a l : List Txt) (room : Int), (∀ t ∈ a, plainT t = true ∧ t.length ≤ 998) → ((a.map fun t => (t.length : Int) + 3).sum) ≤ room → ∃ r, fitL room (a ++ l) = a ++ r
 | [], l, room, _, _ => ⟨_, rfl⟩
 | t :: a, l, room, h, hs => by
  obtain ⟨h1, h2⟩ := h t (by simp)
  have e : t.take 998 = t := List.take_of_length_le h2
  have hc := cost_ok h1 h2
  have hl := (laid_len t).2
  simp only [List.map_cons, List.sum_cons] at hs
  have hp : ∀ b : List Txt, 0 ≤ (b.map fun t => (t.length : Int) + 3).sum := fun b => by
   induction b with
   | nil => simp
   | cons x b ih => simp only [List.map_cons, List.sum_cons]; omega
  have h0 := hp a
  obtain ⟨r, hr⟩ := fit_front a l (room - cost t) (fun u hu => h u (by simp [hu])) (by omega)
  refine ⟨r, ?_⟩
  rw [List.cons_append, fitL, e, if_neg (by omega), hr]
  rfl
end Go.Proofs.YtojpkbonioglbaaGreatDoor.E.T
namespace Go.Proofs.YtojpkbonioglbaaGreatDoor.E.T
set_option maxRecDepth 100000
open Go.RowKit
def gb (t : Txt) : Bool := t.all fun b => decide (32 ≤ b.toNat)
theorem gb_mem {t : Txt} : gb t = true ↔ ∀ b ∈ t, 32 ≤ b.toNat := by unfold gb; simp
theorem gb_plain {t : Txt} (h : gb t = true) : plainT t = true := by
 unfold plainT L.plainB
 rw [List.all_eq_true]
 intro b hb
 have h1 := gb_mem.1 h b hb
 have e : ∀ c : UInt8, c.toNat < 32 → (b != c) = true := fun c hc => bne_iff_ne.2 fun e => by rw [e] at h1; omega
 rw [e 0 (by decide), e 10 (by decide), e 13 (by decide)]; rfl
theorem gb_app {a b : Txt} : gb (a ++ b) = (gb a && gb b) := by unfold gb; rw [List.all_append]
theorem gb_cons {b : UInt8} {t : Txt} : gb (b :: t) = (decide (32 ≤ b.toNat) && gb t) := rfl
theorem gb_quo {l : Txt} (h : gb l = true) : gb (P.quoL l) = true := gb_mem.2 fun b hb => by
 obtain ⟨c, hc, hx⟩ := List.mem_flatMap.1 hb
 have h1 := gb_mem.1 h c hc
 unfold P.quoB at hx
 split at hx
 ·simp at hx
  rcases hx with rfl | rfl
  ·decide
  ·exact h1
 ·simp at hx
  rw [hx]; exact h1
theorem lab_lo (b : UInt8) : (P.labB b || b == 46) = true → 32 ≤ b.toNat := by
 have := P.all_bytes (P := fun b => !(P.labB b || b == 46) || decide (32 ≤ b.toNat)) (by decide +kernel) b
 intro h
 rw [h] at this
 simpa using this
theorem gb_labels {s : Txt} (h : P.labels s = true) : gb s = true := gb_mem.2 fun b hb => lab_lo b (P.labels_mem h b hb)
theorem gb_text {p : P.Pth} (h : P.rightE p = 0) : gb (P.textL p) = true := by
 have hf := (P.right_ok h).2
 unfold P.textL
 split
 ·rename_i hn
  rw [Bool.or_eq_true] at hn
  have : gb p.1 = true := by
   rcases hn with hn | hn
   ·unfold P.nullB at hn
    simp at hn
    rw [hn.1]; rfl
   ·unfold P.hostB at hn
    simp at hn
    rw [hn.1]; decide
  rw [gb_app, gb_app, this]; rfl
 ·rename_i hn
  unfold P.formB at hf
  rw [Bool.eq_false_iff.2 hn] at hf
  simp only [Bool.false_or, Bool.and_eq_true] at hf
  obtain ⟨⟨⟨_, ha⟩, hl⟩, _⟩ := hf
  have h1 : gb p.1 = true := gb_mem.2 fun b hb => by
   have := List.all_eq_true.1 ha b hb
   unfold P.printB at this
   simp at this
   exact this.1
  have h3 : gb (P.locL p.1) = true := by
   unfold P.locL
   split
   ·exact h1
   ·rw [gb_app, gb_app, gb_quo h1]; rfl
  rw [gb_app, gb_app, gb_app, gb_app, h3, gb_labels hl]; rfl
theorem formed_lo {s : Txt} (h : formedX s = true) : ∀ x ∈ s, 32 ≤ x.toNat := by
 intro x hx
 have key : ∀ f ∈ formZ ++ formP ++ formM, ∀ x, signX f x = true → 32 ≤ x.toNat := by
  intro f hf x hs
  unfold signX at hs
  by_cases e : f = 48
  ·rw [if_pos e] at hs
   have := dig_bd hs
   omega
  ·rw [if_neg e] at hs
   obtain rfl := beq_iff_eq.1 hs
   revert hf
   revert x
   have := X.all_bytes (p := fun x => x ∈ formZ ++ formP ++ formM → 32 ≤ x.toNat) (by decide +kernel)
   exact fun x _ _ => this x
 unfold formedX at h
 simp only [Bool.or_eq_true] at h
 rcases h with (h | h) | h
 ·obtain ⟨f, hf, hs⟩ := like_mem h x hx
  exact key f (by simp [hf]) x hs
 ·obtain ⟨f, hf, hs⟩ := like_mem h x hx
  exact key f (by simp [hf]) x hs
 ·obtain ⟨f, hf, hs⟩ := like_mem h x hx
  exact key f (by simp [hf]) x hs
theorem gb_time {t : Int} (h : timB t = true) : gb (printS t) = true := by
 have hf : formedX (printS t) = true := by
  have := (back_x h).2.1
  unfold parseE at this
  cases hf : formedX (printS t)
  ·rw [hf] at this; cases this
  ·rfl
 exact gb_mem.2 (formed_lo hf)
theorem gb_tm {n : Int} (h : 0 ≤ n) : gb (tmL n) = true := gb_time (by unfold timB; simp; omega)
theorem gb_enc (l : Txt) : gb (X.encX l) = true := gb_mem.2 fun b hb => by have := X.encX_signs hb; omega
theorem gb_dd (u : Nat) : gb (Lib.decDigits u) = true := by
 have h := (dd_all u u (Nat.lt_of_lt_of_le (Nat.lt_pow_self (by decide)) (Nat.pow_le_pow_right (by decide) (Nat.le_succ u)))).2.2.1
 exact gb_mem.2 fun b hb => by have := dig_bd (List.all_eq_true.1 h b hb); omega
theorem gb_itoa (n : Int) : gb (Lib.itoa n) = true := by
 unfold Lib.itoa
 split
 ·rw [gb_cons, gb_dd]; rfl
 ·exact gb_dd _
theorem gb_dots (e : E3) : gb (dots e) = true := by unfold dots; rw [gb_app, gb_cons, gb_app, gb_cons, gb_itoa, gb_itoa, gb_itoa]; rfl
theorem cls_kind {k : Txt} (h : clsK k ≠ none) : k = kRly ∨ k = kDlv ∨ k = kFai ∨ k = kDel := by
 unfold clsK at h
 by_cases h1 : k = kRly
 ·exact .inl h1
 by_cases h2 : k = kDlv
 ·exact .inr (.inl h2)
 by_cases h3 : k = kFai
 ·exact .inr (.inr (.inl h3))
 by_cases h4 : k = kDel
 ·exact .inr (.inr (.inr h4))
 rw [if_neg h1, if_neg h2, if_neg h3, if_neg h4] at h
 exact absurd rfl h
theorem gb_kind {k : Txt} (h : clsK k ≠ none) : gb k = true := by rcases cls_kind h with rfl | rfl | rfl | rfl <;> decide
theorem gb_bare {t : Txt} (h : gb t = true) : gb (bareL t) = true := by
 rw [gb_mem] at *
 intro b hb
 unfold bareL Lib.trimSuffix Lib.trimPrefix at hb
 split at hb <;> split at hb <;> first | exact h b (List.mem_of_mem_drop (List.mem_of_mem_take hb)) | exact h b (List.mem_of_mem_take hb) | exact h b (List.mem_of_mem_drop hb) | exact h b hb
theorem gb_low {t : Txt} (h : gb t = true) : gb (lowL t) = true := by
 rw [gb_mem] at *
 intro b hb
 obtain ⟨c, hc, rfl⟩ := List.mem_map.1 hb
 have h1 := h c hc
 have := P.all_bytes (P := fun c => !(decide (32 ≤ c.toNat)) || decide (32 ≤ (P.smallB c).toNat)) (by decide +kernel) c
 rw [show decide (32 ≤ c.toNat) = true by simpa using h1] at this
 simpa using this
end Go.Proofs.YtojpkbonioglbaaGreatDoor.E.T
namespace Go.Proofs.YtojpkbonioglbaaGreatDoor.E.T
set_option maxRecDepth 100000
open Go.RowKit
theorem mem_tw {p : Txt → Bool} : ∀ {l : List Txt} {t : Txt}, t ∈ l.takeWhile p → t ∈ l
 | [], _, h => h
 | a :: l, t, h => by
  rw [List.takeWhile_cons] at h
  split at h
  ·rcases List.mem_cons.1 h with rfl | h
   ·simp
   ·exact List.mem_cons_of_mem _ (mem_tw h)
  ·cases h
theorem gb2 {a b : Txt} (ha : gb a = true) (hb : gb b = true) : gb (a ++ b) = true := by rw [gb_app, ha, hb]; rfl
def GL (l : List Txt) : Prop := ∀ t ∈ l, gb t = true
theorem GL.app {l m : List Txt} (h : GL l) (k : GL m) : GL (l ++ m) := fun t ht => by
 rcases List.mem_append.1 ht with ht | ht
 ·exact h t ht
 ·exact k t ht
theorem GL.nil : GL [] := fun t h => by cases h
theorem GL.cons {t : Txt} {l : List Txt} (h : gb t = true) (k : GL l) : GL (t :: l) := fun u hu => by
 rcases List.mem_cons.1 hu with rfl | hu
 ·exact h
 ·exact k u hu
structure OkR (r : RT) : Prop where
 kind : clsK r.kind ≠ none
 now : 0 ≤ r.now ∧ r.now ≤ 1099511627776
 til : 0 ≤ r.til ∧ r.til ≤ 2199023255552
 pl : 0 ≤ r.pl ∧ r.pl < r.x.rc.length
 ok : OkE r.x
 nn : P.nullB r.x.fr = false
 host : P.domainE r.host = 0 ∧ P.domainV r.host = r.host
 rp : r.rp.code = 0 ∨ rpRight r.rp = 0
theorem rt_ok {r : RT} (h : rtE r = 0) : OkR r := by
 unfold rtE at h
 split at h
 ·cases h
 ·rename_i h1
  split at h
  ·cases h
  ·rename_i h2
   split at h
   ·rename_i h3; exact absurd h h3
   ·rename_i h3
    split at h
    ·cases h
    ·rename_i h4
     split at h
     ·cases h
     ·rename_i h5
      simp only [Bool.not_eq_false, Bool.and_eq_true, inR, decide_eq_true_eq, beq_iff_eq] at h2 h5
      refine ⟨h1, h2.1, h2.2.1, ⟨h2.2.2.1, by have := h2.2.2.2; omega⟩, en_iff.1 (by omega), by simpa using h4, h5, ?_⟩
      split at h
      ·rename_i h6; exact .inl h6
      ·exact .inr h
theorem ok_rt {r : RT} (h : OkR r) : rtE r = 0 := by
 have h2 : (inR r.now 0 1099511627776 && (inR r.til 0 2199023255552 && inR r.pl 0 ((r.x.rc.length : Int) - 1))) = true := by
  simp only [Bool.and_eq_true, inR, decide_eq_true_eq]
  have := h.pl
  exact ⟨h.now, h.til, by omega⟩
 have h5 : (P.domainE r.host == 0 && P.domainV r.host == r.host) = true := by
  simp only [Bool.and_eq_true, beq_iff_eq]; exact h.host
 unfold rtE
 rw [if_neg h.kind, if_neg (by rw [h2]; decide), if_neg (by rw [en_iff.2 h.ok]; decide), if_neg (by rw [h.nn]; decide), if_neg (by rw [h5]; decide)]
 split
 ·rfl
 ·rename_i hc
  rcases h.rp with e | e
  ·exact absurd e hc
  ·exact e
section
variable {r : RT}
theorem mail_ok (h : OkE r.x) : P.rightE r.x.fr = 0 := by
 have h1 := h.say (cmdM r.x) (by unfold cmds; simp)
 obtain ⟨_, h2, _⟩ := prE_zero h1
 rw [show kindV (cmdM r.x).verb = 2 from rfl] at h2
 unfold bE at h2
 rw [if_neg (by decide), if_pos rfl] at h2
 split at h2
 ·split at h2
  ·rename_i h3; exact h3
  ·rename_i h3; exact absurd h2 h3
 ·exact absurd h2 (by decide)
theorem rcpt_ok (h : OkE r.x) {c : Rc} (hc : c ∈ r.x.rc) : P.rightE c.p = 0 ∧ rightR c.r = 0 := by
 have h1 := h.say (cmdR c) (by unfold cmds; simp; exact .inr ⟨c, hc, rfl⟩)
 obtain ⟨_, h2, _⟩ := prE_zero h1
 rw [show kindV (cmdR c).verb = 3 from rfl] at h2
 unfold bE at h2
 rw [if_neg (by decide), if_neg (by decide), if_pos rfl] at h2
 split at h2
 ·split at h2
  ·rename_i h3; exact ⟨h3, h2⟩
  ·rename_i h3; exact absurd h2 h3
 ·exact absurd h2 (by decide)
theorem to_mem (h : OkR r) : rtTo r ∈ r.x.rc := by
 unfold rtTo
 have h1 := h.pl
 have h2 : r.pl.toNat < r.x.rc.length := by omega
 rw [List.getD_eq_getElem?_getD, List.getElem?_eq_getElem h2]
 exact List.getElem_mem h2
theorem host_ok (h : OkR r) : P.labels r.host = true ∧ P.smallL r.host = r.host ∧ r.host.length ≤ 255 ∧ r.host ≠ [] := by
 obtain ⟨h1, h2⟩ := h.host
 unfold P.domainV at h2
 rw [if_pos h1] at h2
 unfold P.domainE at h1
 split at h1
 ·cases h1
 ·rename_i h3
  split at h1
  ·rename_i h4
   exact ⟨h4, h2, by omega, fun e => by rw [e] at h4; exact absurd h4 (by decide)⟩
  ·cases h1
theorem pm_text (h : OkR r) : P.rightE ([112, 111, 115, 116, 109, 97, 115, 116, 101, 114], r.host) = 0 ∧ P.textL ([112, 111, 115, 116, 109, 97, 115, 116, 101, 114], r.host) = [60, 112, 111, 115, 116, 109, 97, 115, 116, 101, 114, 64] ++ r.host ++ [62] := by
 obtain ⟨h1, h2, h3, h4⟩ := host_ok h
 have hn : (P.nullB ([112, 111, 115, 116, 109, 97, 115, 116, 101, 114], r.host) || P.hostB ([112, 111, 115, 116, 109, 97, 115, 116, 101, 114], r.host)) = false := by
  have e : (r.host == []) = false := by simpa using h4
  unfold P.nullB P.hostB
  rw [e]; rfl
 constructor
 ·unfold P.rightE
  rw [if_neg (by unfold P.longB; simp; exact h3), if_pos]
  unfold P.formB
  rw [hn, h1, h2]
  simp
  decide
 ·unfold P.textL
  rw [hn, if_neg (by decide), show P.locL [112, 111, 115, 116, 109, 97, 115, 116, 101, 114] = [112, 111, 115, 116, 109, 97, 115, 116, 101, 114] by decide]
  rfl
theorem gb_rp {t : Txt} (h : t.all rpPr = true) : gb t = true := gb_mem.2 fun b hb => by
 have := List.all_eq_true.1 h b hb
 unfold rpPr at this
 simp at this
 exact this.1
theorem rp_texts (h : rpRight r.rp = 0) : ∀ t ∈ r.rp.text, t.all rpPr = true := by
 unfold rpRight at h
 split at h
 ·cases h
 ·split at h
  ·cases h
  ·rename_i h2
   intro t ht
   rw [Bool.not_eq_true, List.any_eq_false] at h2
   simpa using h2 t ht
theorem gb_kindR {c : Rc} (h : rightR c.r = 0) : gb c.r.kind = true := by
 unfold rightR at h
 split at h
 ·cases h
 ·split at h
  ·cases h
  ·rename_i h2
   simp only [Bool.not_eq_false] at h2
   unfold kindB at h2
   simp only [Bool.and_eq_true, Bool.or_eq_true] at h2
   rcases h2.2 with h3 | h3
   ·rw [beq_iff_eq] at h3; rw [h3]; rfl
   ·have h4 := h3.1
    unfold isKind at h4
    simp only [Bool.and_eq_true] at h4
    refine gb_mem.2 fun b hb => ?_
    have h5 := List.all_eq_true.1 h4.2 b hb
    have := P.all_bytes (P := fun b => !(alnB b) || decide (32 ≤ b.toNat)) (by decide +kernel) b
    rw [h5] at this
    simpa using this
theorem back_plain (h : OkE r.x) : ∀ t ∈ rtBack r, plainT t = true := by
 intro t ht
 have hm : t ∈ r.x.ls := by
  unfold rtBack at ht
  split at ht
  ·exact ht
  ·exact mem_tw ht
 have := (wrongOf_zero h.wrong (mkS t) (List.mem_map.2 ⟨t, hm, rfl⟩)).1
 rw [mkS_data] at this
 exact this
theorem lines_plain (h : OkR r) : ∀ t ∈ rtLines r, plainT t = true := by
 have gk := gb_kind h.kind
 have gt := gb_text (mail_ok h.ok)
 obtain ⟨p1, p2⟩ := pm_text h
 have gp := gb_text p1
 have hto := rcpt_ok h.ok (to_mem h)
 have go := gb_text hto.1
 have gr := gb_kindR hto.2
 have gh := gb_labels (host_ok h).1
 have gn := gb_tm h.now.1
 have ga := gb_tm h.ok.at_.1
 have gl := gb_tm h.til.1
 have gbd : gb (bnd (rtBack r)) = true := by unfold bnd; rw [gb_app, gb_itoa]; decide
 have hrt : r.rp.code ≠ 0 → gb (r.rp.text.headD []) = true := fun hc => by
  rcases h.rp with e | e
  ·exact absurd e hc
  ·cases hx : r.rp.text with
   | nil => rfl
   | cons a l => exact gb_rp (rp_texts e a (by rw [hx]; simp))
 have k1 : GL (sec1 r (bnd (rtBack r))) := GL.cons (gb2 (by decide) gp) (GL.cons (gb2 (by decide) gt) (GL.cons (gb2 (by decide) gn) (GL.cons (gb2 (by decide) gk) (GL.cons (by decide) (GL.cons (gb2 (by decide) gbd) (GL.cons rfl GL.nil))))))
 have kp : ∀ f, gb f = true → GL (part (bnd (rtBack r)) f) := fun f hf => GL.cons (gb2 (by decide) gbd) (GL.cons (gb2 (by decide) hf) (GL.cons rfl GL.nil))
 have k2 : GL (sec2 r) := GL.cons (gb2 (gb2 (gb2 (gb2 (by decide) go) (by split <;> decide)) gk) (by decide)) (GL.cons rfl GL.nil)
 have k3 : GL (sec3 r) := by
  refine GL.app (GL.app (GL.cons (gb2 (by decide) gh) GL.nil) ?_) (GL.cons (gb2 (by decide) ga) (GL.cons rfl GL.nil))
  split
  ·exact GL.nil
  ·exact GL.cons (gb2 (by decide) (gb_enc _)) GL.nil
 have k4 : GL (sec4 r) := by
  refine GL.app (GL.app (GL.app (GL.app ?_ (GL.cons (gb2 (by decide) (gb_bare go)) (GL.cons (gb2 (by decide) gk) (GL.cons (gb2 (by decide) (gb_dots _)) GL.nil)))) ?_) ?_) (GL.cons rfl GL.nil)
  ·split
   ·exact GL.nil
   ·exact GL.cons (gb2 (gb2 (gb2 (by decide) (gb_low gr)) (by decide)) (gb_enc _)) GL.nil
  ·split
   ·exact GL.nil
   ·rename_i hc
    exact GL.cons (gb2 (gb2 (gb2 (by decide) (gb_itoa _)) (by decide)) (hrt hc)) GL.nil
  ·split
   ·exact GL.cons (gb2 (by decide) gl) GL.nil
   ·exact GL.nil
 have key : ∀ t ∈ rtPre r, gb t = true := GL.app (GL.app (GL.app (GL.app (GL.app (GL.app k1 (kp _ (by decide))) k2) (kp _ (by decide))) k3) k4) (kp _ (by split <;> decide))
 intro t ht
 unfold rtLines at ht
 rw [List.mem_append, List.mem_append] at ht
 rcases ht with (ht | ht) | ht
 ·exact gb_plain (key t ht)
 ·exact back_plain h.ok t ht
 ·rw [List.mem_singleton] at ht
  rw [ht]
  refine gb_plain ?_
  rw [gb_app, gb_app, gbd]; decide
theorem loc_len (l : Txt) : (P.locL l).length ≤ 2 * l.length + 2 := by
 have hq : ∀ m : Txt, (P.quoL m).length ≤ 2 * m.length := by
  intro m
  induction m with
  | nil => exact Nat.le_refl _
  | cons b t ih =>
   unfold P.quoL at ih ⊢
   rw [List.flatMap_cons, List.length_append, List.length_cons]
   have : (P.quoB b).length ≤ 2 := by unfold P.quoB; split <;> simp
   omega
 unfold P.locL
 split
 ·omega
 ·have := hq l
  simp only [List.length_append, List.length_cons, List.length_nil]
  omega
theorem txt_len {p : P.Pth} (h : P.rightE p = 0) : (P.textL p).length ≤ 388 := by
 have h1 := (P.right_ok h).1
 unfold P.longB at h1
 simp at h1
 have := loc_len p.1
 unfold P.textL
 split <;> simp only [List.length_append, List.length_cons, List.length_nil] <;> omega
noncomputable def mk (r : RT) (id : Int) : EM := ⟨id, r.now, r.now, ([], []), zeroM, [⟨r.x.fr, zeroR⟩], fitL 4093 (rtLines r)⟩
theorem pr_null : prE (cmdM ⟨0, 0, 0, ([], []), zeroM, [], []⟩) = 0 := by
 unfold prE
 rw [show kindV (cmdM ⟨0, 0, 0, ([], []), zeroM, [], []⟩).verb = 2 from rfl, if_neg (by decide)]
 have hb : bE 2 (cmdM ⟨0, 0, 0, ([], []), zeroM, [], []⟩) = 0 := by
  unfold bE
  rw [if_neg (by decide), if_pos rfl, if_pos ⟨rfl, by decide⟩, if_pos (by decide)]
  decide
 rw [if_pos hb, if_neg]
 have hp : printM zeroM = [] := by
  unfold printM
  rw [if_pos (by decide)]
  rfl
 unfold bV
 rw [if_neg (by decide), if_pos rfl]
 show ¬ 510 < vMAIL.length + (wdsV hFROM ([], []) (printM zeroM)).length
 rw [hp]
 decide
theorem pr_to {p : P.Pth} (h : P.rightE p = 0) (hn : P.nullB p = false) : prE (cmdR ⟨p, zeroR⟩) = 0 := by
 unfold prE
 rw [show kindV (cmdR ⟨p, zeroR⟩).verb = 3 from rfl, if_neg (by decide)]
 have hb : bE 3 (cmdR ⟨p, zeroR⟩) = 0 := by
  unfold bE
  rw [if_neg (by decide), if_neg (by decide), if_pos rfl, if_pos ⟨rfl, hn⟩]
  show (if P.rightE p = 0 then rightR zeroR else P.rightE p) = 0
  rw [if_pos h]
  decide
 rw [if_pos hb, if_neg]
 have hl := txt_len h
 unfold bV
 rw [if_neg (by decide), if_neg (by decide), if_pos rfl]
 show ¬ 510 < vRCPT.length + (wdsV hTO p (printR zeroR)).length
 rw [show printR zeroR = [] by decide]
 unfold wdsV
 rw [if_pos rfl, List.append_nil, List.length_append, show vRCPT.length = 4 from rfl, show hTO.length = 4 from rfl]
 omega
theorem mk_ok (h : OkR r) {id : Int} (h1 : 1 ≤ id ∧ id ≤ 2147483647) : OkE (mk r id) := by
 obtain ⟨f1, f2⟩ := fit_ok (lines_plain h)
 refine ⟨h1, h.now, ⟨Int.le_refl _, by show r.now ≤ r.now + 1048576; omega⟩, fun c hc => ?_, ⟨Nat.le_refl _, by show 1 ≤ 8; decide⟩, f1, f2⟩
 unfold cmds at hc
 rcases List.mem_cons.1 hc with rfl | hc
 ·exact pr_null
 ·have hc' : c ∈ [cmdR ⟨r.x.fr, zeroR⟩] := hc
  rw [List.mem_singleton] at hc'
  rw [hc']
  exact pr_to (mail_ok h.ok) h.nn
theorem mk_front (h : OkR r) (hl : (rtBack r).length ≤ 1000000) : ∃ q, fitL 4093 (rtLines r) = sec1 r (bnd (rtBack r)) ++ q := by
 have e : rtLines r = sec1 r (bnd (rtBack r)) ++ (part (bnd (rtBack r)) tyT ++ (sec2 r ++ (part (bnd (rtBack r)) tyS ++ (sec3 r ++ (sec4 r ++ (part (bnd (rtBack r)) (if rtFull r then tyM else tyH) ++ (rtBack r ++ [[45, 45] ++ bnd (rtBack r) ++ [45, 45]]))))))) := by
  unfold rtLines rtPre
  simp only [List.append_assoc]
 rw [e]
 have gp := pm_text h
 have l1 := txt_len gp.1
 have l2 := txt_len (mail_ok h.ok)
 have l3 : (tmL r.now).length = 20 := (back_x (t := min r.now 253402300799) (by unfold timB; have := h.now; simp; omega)).2.2.2
 have l4 : r.kind.length ≤ 9 := by rcases cls_kind h.kind with e | e | e | e <;> rw [e] <;> decide
 have l5 : (bnd (rtBack r)).length ≤ 17 := by
  have := (least_ok (rtBack r) (by omega)).2.2.1
  unfold bnd
  rw [itoa_n, List.length_append]
  have := (dd_of (n := leastB (rtBack r)) (by omega)).2.1
  simp
  omega
 have hp := lines_plain h
 refine fit_front _ _ _ (fun t ht => ⟨hp t (by rw [e]; exact List.mem_append_left _ ht), ?_⟩) ?_
 ·unfold sec1 at ht
  simp only [List.mem_cons, List.not_mem_nil, or_false] at ht
  rcases ht with rfl | rfl | rfl | rfl | rfl | rfl | rfl <;> simp only [List.length_append, List.length_cons, List.length_nil] <;> omega
 ·unfold sec1
  simp only [List.map_cons, List.map_nil, List.sum_cons, List.sum_nil, List.length_append, List.length_cons, List.length_nil]
  omega
end
end Go.Proofs.YtojpkbonioglbaaGreatDoor.E.T
