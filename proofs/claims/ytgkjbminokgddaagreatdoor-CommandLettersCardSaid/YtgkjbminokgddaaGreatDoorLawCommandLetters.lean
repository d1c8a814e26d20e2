/-
  The walk of the law CommandLetters.
-/
import Derived.Test.YtgkjbminokgddaaGreatDoorCmArg
import Derived.Test.YtgkjbminokgddaaGreatDoorCmLet
import Derived.Deep.Cut
namespace Go.Proofs.YtgkjbminokgddaaGreatDoor
set_option maxRecDepth 100000
open Go.RowKit Go.Shelf
theorem let_any {c : CL} (h : prE c = 0) : ∃ rest : Txt, prV c = c.verb ++ rest ∧
    (((c.verb = vMAIL ∨ c.verb = vRCPT) ∧ ∃ mid tail : Txt, rest = 32 :: (mid ++ 58 :: tail) ∧ letV c = (lowL c.verb ++ [32]) ++ lowL mid ++ (58 :: tail) ∧ 58 ∉ mid ∧ mid.length ≤ 4) ∨
    (c.verb ≠ vMAIL ∧ c.verb ≠ vRCPT ∧ letV c = lowL c.verb ++ rest)) := by
  by_cases hv : c.verb = vMAIL ∨ c.verb = vRCPT
  · obtain ⟨mid, tail, h1, h2, h3, h4⟩ := let_two h hv
    exact ⟨_, h1, .inl ⟨hv, mid, tail, rfl, by rw [h2]; simp, h3, h4⟩⟩
  · obtain ⟨h5, h6⟩ := not_or.1 hv
    obtain ⟨rest, h1, h2⟩ := let_else h h5 h6
    exact ⟨rest, h1, .inr ⟨h5, h6, h2⟩⟩
theorem si_next {W w w' : World} {l m : List UInt8} (h : P.SI W w l m) (hb : Below w.heap.size w w') : P.SI W w' l m := by
  obtain ⟨cs, fz, h1, h2, h3⟩ := h.blk
  exact ⟨below_next h.below hb, cs, fz, (hb.block _ (ltOf h1)).trans h1, h2, h3⟩
theorem si_sto {W w w' : World} {l m : List UInt8} {o : Obj} (h : P.SI W w l m) (hA : Apart w.heap.size (w.alloc o).heap.size (w.alloc o) w') : P.SI W w' l m := by
  obtain ⟨cs, fz, h1, h2, h3⟩ := h.blk
  exact ⟨below_sto h.below hA, cs, fz, (hA.block _ (by have := ltOf h1; simp; omega) (by have := ltOf h1; omega)).trans (old_alloc h1), h2, h3⟩
/-- The command in its box, what is parsed in another one, and the bytes. -/
structure LT (w : World) (g b8 : Nat) (V : World) (s L : Txt) (c : CL) (y : World) : Prop where
  k : KB w g c y
  x : KB w b8 c y
  si : P.SI V y s L
theorem LT.next {w V y y' : World} {g b8 : Nat} {s L : Txt} {c : CL} (h : LT w g b8 V s L c y) (hb : Below y.heap.size y y') : LT w g b8 V s L c y' := ⟨h.k.next hb, h.x.next hb, si_next h.si hb⟩
theorem LT.quiet {w V : World} {g b8 : Nat} {s L : Txt} {c : CL} {Y : Type} {F : Y → World} {y : Y} (h : (∀ y, LT w g b8 V s L c (F y)) ∧ (∀ w', LT w g b8 V s L c w' → ∃ y, w' = F y)) {f : FuncId} {args : Array Value} {v : Value} (H : Calls Tryz.prog f args (F y) fun e w' => e = .returned v ∧ Below (F y).heap.size (F y) w') :
    Calls Tryz.prog f args (F y) fun e w' => e = .returned v ∧ ∃ y, w' = F y := H.mono fun _ _ ⟨he, hb⟩ => ⟨he, h.2 _ ((h.1 y).next hb)⟩
theorem kb_si {w V y : World} {g : Nat} {s m : Txt} {c : CL} (h : KB w g c V) (hi : P.SI V y s m) : KB w g c y := h.next hi.below
theorem low_wrap (x : UInt8) : IntKind.u8.wrap ((x.toNat : Int) + 32) = ((lowB x).toNat : Int) := by
  rw [low_sum]; simp [IntKind.wrap, IntKind.bits, IntKind.signed]
set_option maxHeartbeats 16000000 in
theorem commandLetters_x (c : CL) (w : World) (hR : Ready w) (hN : NotR w) (hc : ShortC c) :
    Calls Tryz.prog 3 #[.agg #[.string (mkS c.verb), .string (mkS c.arg), .string (mkS c.p.1), .string (mkS c.p.2), .bool c.m.hs, .bool c.m.hf, .bool c.m.hu, .bool c.m.hb, .bool c.m.hp, .int .i64 c.m.sz, .int .i64 c.m.fo, .int .i64 c.m.un, .int .i64 c.m.by_, .int .i64 c.m.pr, .string (mkS c.m.body), .string (mkS c.m.ret), .string (mkS c.m.env), .string (mkS c.m.mode), .string (mkS c.r.no), .string (mkS c.r.kind), .string (mkS c.r.oc)]] w fun e w' => e = .returned (.bool true) ∧ Below w.heap.size w w' := by
  have K0 := Lib.hid (show KB w w.heap.size c (w.alloc (.cells #[.string (mkS c.verb), .string (mkS c.arg), .string (mkS c.p.1), .string (mkS c.p.2), .bool c.m.hs, .bool c.m.hf, .bool c.m.hu, .bool c.m.hb, .bool c.m.hp, .int .i64 c.m.sz, .int .i64 c.m.fo, .int .i64 c.m.un, .int .i64 c.m.by_, .int .i64 c.m.pr, .string (mkS c.m.body), .string (mkS c.m.ret), .string (mkS c.m.env), .string (mkS c.m.mode), .string (mkS c.r.no), .string (mkS c.r.kind), .string (mkS c.r.oc)] 31)) from ⟨newOf w _, P.below_box w _⟩)
  have HA := Lib.hid (fun w' (h : Below w.heap.size w w') => awake_x w' (hR.below h) (hN.below h))
  have HR := Lib.hid (fun w' (h : Below w.heap.size w w') => hR.below h)
  have HN := Lib.hid (fun w' (h : Below w.heap.size w w') => hN.below h)
  have HS := Lib.hid (fun w => csmall_x c w hc)
  have HF := Lib.hid (csm_fit (c := c))
  generalize csmB c = q at HS HF
  clear hR hN hc
  go_enter Tryz.func3, Tryz.ntmps3
  go_wp2_with fail
  generalize w.alloc (.cells #[.string (mkS c.verb), .string (mkS c.arg), .string (mkS c.p.1), .string (mkS c.p.2), .bool c.m.hs, .bool c.m.hf, .bool c.m.hu, .bool c.m.hb, .bool c.m.hp, .int .i64 c.m.sz, .int .i64 c.m.fo, .int .i64 c.m.un, .int .i64 c.m.by_, .int .i64 c.m.pr, .string (mkS c.m.body), .string (mkS c.m.ret), .string (mkS c.m.env), .string (mkS c.m.mode), .string (mkS c.r.no), .string (mkS c.r.kind), .string (mkS c.r.oc)] 31) = W0 at K0 ⊢
  generalize hg : w.heap.size = g at K0 ⊢
  have HG := Lib.hid hg
  clear hg
  refine (HA.out _ (by have := K0.out.below; exact this)).mono ?_
  rintro e w1 ⟨rfl, hb⟩
  have K1 := Lib.hid (K0.out.next hb)
  clear hb K0 HA
  go_wp2_with (refine wpList_load_want (by first | rfl | go_simp) 31 _ rfl g 0 31 (CC c) (CC c) _ rfl K1.out.box Tryz.underlying31 rfl size_cmd (fun j _ => by rw [Nat.zero_add]) ?_)
  refine (HS.out _).mono ?_
  rintro e w2 ⟨rfl, hb⟩
  have K2 := Lib.hid (K1.out.next hb)
  clear hb K1 HS
  cases q
  · have HB := Lib.hid K2.out.below
    go_wp2_with fail
    go_ret
    exact ⟨rfl, by have := HB.out; exact this⟩
  have HFc := Lib.hid (HF.out rfl)
  have HPC := Lib.hid (fun w hR hN => cprint_x c w HFc.out hR hN)
  unfold CrPost at HPC
  have hlen := prV_len (c := c)
  have HNO := Lib.hid (fun h => prV_no (c := c) h)
  have HLT := Lib.hid (fun (h : prE c = 0) => let_any h)
  have HCL := Lib.hid (fun (h : prE c = 0) => cp_letters h)
  have HV4 := Lib.hid (fun (h : prE c = 0) => kind_len (prE_zero h).1)
  clear HF
  generalize prE c = pe at HPC HNO HLT HCL HV4
  generalize prV c = s at HPC HNO HLT hlen
  go_wp2_with (refine wpList_load_blk rfl 31 _ rfl g 0 31 (CC c) (CC c) _ rfl K2.out.box Tryz.underlying31 rfl size_cmd (fun j _ => by rw [Nat.zero_add]) ?_)
  refine (HPC.out _ (HR.out _ K2.out.below) (HN.out _ K2.out.below)).mono ?_
  rintro e w4 ⟨rfl, hb⟩
  have K4 := Lib.hid (K2.out.next hb)
  clear hb HPC K2
  by_cases hpe : pe = 0
  rotate_left
  · have d9 : (pe != 0) = true := bne_iff_ne.2 hpe
    obtain rfl := HNO.out hpe
    have e0 : (mkS ([] : Txt)).toList = [] := mkS_toList []
    have HB := Lib.hid K4.out.below
    clear hpe
    go_wp2_with fail
    go_ret
    exact ⟨rfl, HB.out⟩
  subst hpe
  obtain ⟨rest, hs, hways⟩ := HLT.out rfl
  obtain ⟨c1, c2, c3⟩ := HCL.out rfl
  have hv4 := HV4.out rfl
  have HWays := Lib.hid hways
  have HPP := Lib.hid (show (letV c).length ≤ 100000 → ∀ w, Ready w → NotR w → Calls Tryz.prog 8 #[.string (mkS (letV c))] w fun e w' => e = .returned (.tuple #[.agg (CC c), .int .i64 0]) ∧ Below w.heap.size w w' from fun hl w hR hN => (cparse_x (letV c) w hl hR hN).mono fun e w' ⟨he, hb⟩ => ⟨by rw [he, c1, c2], hb⟩)
  have HVB := Lib.hid (show (letV c).length ≤ 100000 → ∀ w, Calls Tryz.prog 9 #[.string (mkS (letV c))] w fun e w' => e = .returned (.string (mkS c.verb)) ∧ Below w.heap.size w w' from fun hl w => (verb_x (letV c) w (by omega)).mono fun e w' ⟨he, hb⟩ => ⟨by rw [he, c3], hb⟩)
  clear c1 c2 c3 hways HNO HLT HCL HV4
  have hms := mkS_size s
  have hmv := mkS_size c.verb
  have hcv := Lib.run_convert_string_bytes (P := Tryz.prog) w4 9 37 5 (mkS s) Tryz.underlying9 Tryz.underlying37 Tryz.underlying5
  have HS0 := Lib.hid (P.SI.new w4 s)
  rw [hms] at hcv
  generalize Lib.bytesWorld w4 5 (mkS s) = w5 at hcv HS0
  generalize grownCap w4 s.length 0 5 = cap at hcv
  have hsl1 : s.length ≤ 4 + rest.length := by rw [hs, List.length_append, hv4]; omega
  have hsl2 : 4 + rest.length ≤ s.length := by rw [hs, List.length_append, hv4]; omega
  have HSS := Lib.hid hs
  clear hs
  go_wp2_with fail
  clear hcv
  go_loopw [6] (fun i wr => ∃ j : Nat, j ≤ 4 ∧ i = .int .i64 j ∧ Hid (P.SI w4 wr s (loF [] c.verb rest j))) (fun i _ => 4 - (intOf i).toNat)
  case atStart => exact ⟨0, Nat.zero_le _, rfl, Lib.hid (by rw [loF_zero, List.nil_append, ← HSS.out]; exact HS0.out)⟩
  case round =>
    obtain ⟨j, hj, rfl, HI⟩ := hrel
    have K5 := Lib.hid (kb_si K4.out HI.out)
    have v0 : wr.cell? ⟨g, 0, none⟩ = some (.string (mkS c.verb)) := cellOf K5.out.box 0
    by_cases hlt : j < 4
    · obtain ⟨x, hx⟩ : ∃ x, c.verb[j]? = some x := ⟨_, List.getElem?_eq_getElem (by omega)⟩
      have g0 := HI.out.cell (i := j) (by have := loF_get (pre := []) (post := rest) hx; simpa using this)
      have g1 := HI.out.free (i := j) (by omega)
      have HI2 := Lib.hid (show P.SI w4 (wr.setCell ⟨w4.heap.size, j, none⟩ (.int .u8 ((lowB x).toNat : Int))) s (loF [] c.verb rest (j + 1)) by
        have h := HI.out.set (i := j) (lowB x)
        rw [show (loF [] c.verb rest j).set j (lowB x) = loF [] c.verb rest (j + 1) by have := loF_set (pre := []) (post := rest) hx; simpa using this] at h
        exact h)
      have hw := low_wrap x
      have hw2 := (low_sum x).symm
      have dj1 : decide (j < s.length) = true := decide_eq_true (by omega)
      have dj2 : decide ((j : Int) < 4) = true := decide_eq_true (by omega)
      rw [hv4] at hmv
      clear hx
      go_wp2_with fail
      go_roundw
      case rel => exact ⟨j + 1, by omega, by go_num, HI2⟩
      case measure => simp [intOf]; omega
    · obtain rfl : j = 4 := by omega
      have HI1 := Lib.hid (show P.SI w4 wr s (lowL c.verb ++ rest) by have h := HI.out; rwa [loF_all (by omega), List.nil_append] at h)
      rw [hv4] at hmv
      have hTv := mkS_toList c.verb
      clear HI hj hlt
      rcases HWays.out with ⟨hv, mid, tail, hrest, hlet, h58, hmid⟩ | ⟨hv1, hv2, hlet⟩
      · have hrl1 : rest.length ≤ mid.length + tail.length + 2 := by rw [hrest]; simp; omega
        have hrl2 : mid.length + tail.length + 2 ≤ rest.length := by rw [hrest]; simp; omega
        have HM0 := Lib.hid (show lowL c.verb ++ rest = loF (lowL c.verb ++ [32]) mid (58 :: tail) 0 by rw [loF_zero, hrest]; simp)
        have HME := Lib.hid (show loF (lowL c.verb ++ [32]) mid (58 :: tail) mid.length = letV c by rw [loF_all (Nat.le_refl _), hlet])
        have HPl := Lib.hid (show (lowL c.verb ++ [32]).length = 5 by rw [List.length_append, lowL_len, hv4]; rfl)
        have HM58 := Lib.hid h58
        have HHL := Lib.hid (show (letV c).length = s.length by rw [hlet]; simp [lowL_len]; omega)
        have ds4 : decide (4 < s.length) = true := decide_eq_true (by omega)
        have ds4' : decide ((4 : Int) < (s.length : Int)) = true := decide_eq_true (by omega)
        have HVV := Lib.hid hv
        clear hrest hlet h58 hv HWays
        rcases HVV.out with hv | hv
        · have w1 : (c.verb == [77, 65, 73, 76]) = true := by rw [hv]; decide
          clear hv HVV
          go_wp2_with fail
          clear w1 hTv
          go_loopw [7] (fun i wr2 => ∃ t : Nat, 5 ≤ t ∧ t ≤ 5 + mid.length ∧ i = .int .i64 t ∧ Hid (P.SI w4 wr2 s (loF (lowL c.verb ++ [32]) mid (58 :: tail) (t - 5)))) (fun i _ => 20 - (intOf i).toNat)
          case atStart => exact ⟨5, Nat.le_refl _, by omega, rfl, Lib.hid (by rw [← HM0.out]; exact HI1.out)⟩
          case round =>
            clear HI1 HM0 v0 K5 ds4 ds4'
            obtain ⟨t, ht5, htm, rfl, HI⟩ := hrel
            have dt : decide (t < s.length) = true := decide_eq_true (by omega)
            by_cases hlt : t < 5 + mid.length
            · obtain ⟨x, hx⟩ : ∃ x, mid[t - 5]? = some x := ⟨_, List.getElem?_eq_getElem (by omega)⟩
              have hx58 : x ≠ 58 := fun e => HM58.out (by rw [← e]; exact List.mem_of_getElem? hx)
              have g0 := HI.out.cell (i := t) (by have := loF_get (pre := lowL c.verb ++ [32]) (post := 58 :: tail) hx; rw [HPl.out, show 5 + (t - 5) = t by omega] at this; exact this)
              have g1 := HI.out.free (i := t) (by omega)
              have HI2 := Lib.hid (show P.SI w4 (wr.setCell ⟨w4.heap.size, t, none⟩ (.int .u8 ((lowB x).toNat : Int))) s (loF (lowL c.verb ++ [32]) mid (58 :: tail) (t + 1 - 5)) by
                have h := HI.out.set (i := t) (lowB x)
                have e := loF_set (pre := lowL c.verb ++ [32]) (post := 58 :: tail) hx
                rw [HPl.out, show 5 + (t - 5) = t by omega, show t - 5 + 1 = t + 1 - 5 by omega] at e
                rw [e] at h
                exact h)
              have hw := low_wrap x
              have hw2 := (low_sum x).symm
              have dx : ((x.toNat : Int) != 58) = true := bne_iff_ne.2 (fun e => hx58 (UInt8.toNat_inj.1 (show x.toNat = 58 by omega)))
              clear hx hx58
              go_wp2_with fail
              go_roundw
              case rel => exact ⟨t + 1, by omega, by omega, by go_num, HI2⟩
              case measure => simp [intOf]; omega
            · have ht : t = 5 + mid.length := by omega
              have g0 : wr.cell? ⟨w4.heap.size, t, none⟩ = some (.int .u8 58) := HI.out.cell (i := t) (x := 58) (by have := loF_post (pre := lowL c.verb ++ [32]) (m := mid) (post := 58 :: tail); rw [HPl.out] at this; rw [ht, show 5 + mid.length - 5 = mid.length by omega]; exact this)
              have HIL := Lib.hid (show P.SI w4 wr s (letV c) by have h := HI.out; rw [ht, show 5 + mid.length - 5 = mid.length by omega, HME.out] at h; exact h)
              clear HI ht hlt
              have K5 := Lib.hid (kb_si K4.out HIL.out)
              have HLn := Lib.hid (show (letV c).length = s.length by exact HHL.out)
              have HLe := Lib.hid (show (letV c).length ≤ 100000 by have := HLn.out; omega)
              have hcv2 := HIL.out.text s.length cap HLn.out
              go_wp2_with fail
              clear hcv2
              refine (HPP.out HLe.out _ (HR.out _ K5.out.below) (HN.out _ K5.out.below)).mono ?_
              rintro e w8 ⟨rfl, hb⟩
              have K8 := Lib.hid (K5.out.next hb)
              have S8 := Lib.hid (si_next HIL.out hb)
              clear hb K5 HIL HPP
              go_wp2_with (first | (refine wpList_store_blk rfl 31 _ _ rfl w8.heap.size 0 31 (CC zeroC) (CC c) (CC c) rfl rfl (newOf w8 _) size_cmd (one_CC _) (Nat.le_of_eq rfl) (whole_CC zeroC _) ?_; intro w9 hB2 hA2; have K9 := Lib.hid (K8.out.sto hA2); have X9 := Lib.hid (KB.new K8.out.below hB2 hA2); have S9 := Lib.hid (si_sto S8.out hA2); clear hB2 hA2 K8 S8) | fail)
              generalize w8.heap.size = b8 at X9 ⊢
              obtain ⟨Y, F, y0, hy0, hF, hS⟩ : ∃ (Y : Type) (F : Y → World) (y0 : Y), F y0 = w9.drew ∧ (∀ y, LT w g b8 w4 s (letV c) c (F y)) ∧ (∀ w', LT w g b8 w4 s (letV c) c w' → ∃ y, w' = F y) :=
                ⟨{ w' // LT w g b8 w4 s (letV c) c w' }, Subtype.val, ⟨_, LT.next ⟨K9.out, X9.out, S9.out⟩ (below_drewN (Below.refl _ _) 1)⟩, rfl, fun y => y.2, fun w' h => ⟨⟨w', h⟩, rfl⟩⟩
              have hne : Nonempty Y := ⟨y0⟩
              have hF0 : ∀ y, (F y).cell? ⟨g, 0, none⟩ = some (.string (mkS c.verb)) := fun y => cellOf (hF y).k.box 0
              have hcF := fun y => (hF y).si.text s.length cap HLn.out
              have HL8 := Lib.hid (fun w' (h : ∃ y, w' = F y) => h.elim fun y e => e ▸ (hF y).x.lC)
              have HL1 := Lib.hid (fun w' (h : ∃ y, w' = F y) => h.elim fun y e => e ▸ (hF y).k.lC)
              have hec : ∀ w, (Op.equalIn 10000 31 (.agg (CC c)) (.agg (CC c))).run Tryz.prog w = .ok true w := fun w => (eqCmd c c w).trans (by rw [eqCL_iff.2 rfl])
              have HFS := Lib.hid (And.intro hF hS)
              have HVq := Lib.hid (show ∀ y, Calls Tryz.prog 9 #[.string (mkS (letV c))] (F y) (fun e w' => e = .returned (.string (mkS c.verb)) ∧ ∃ y, w' = F y) from fun y => LT.quiet HFS.out (HVB.out HLe.out (F y)))
              clear hF hS K9 X9 S9
              go_wp2_with fail
              refine region_in (by kernel_rfl) (by kernel_rfl) F y0 hy0 ?_
              repeat (first
                | (refine wpQuiet_load_blk rfl 31 _ rfl b8 0 (CC c) rfl HL8.out ?_; simp only [Act.put, List.setIfInBounds_toArray, List.set_cons_succ, List.set_cons_zero])
                | (refine wpQuiet_load_blk rfl 31 _ rfl g 0 (CC c) rfl HL1.out ?_; simp only [Act.put, List.setIfInBounds_toArray, List.set_cons_succ, List.set_cons_zero])
                | go_big_quiet_step ((go_at_call 9; exact HVq.out _)))
              refine wpQuiet_nil ?_
              rintro _ ⟨y, rfl⟩
              have HZ := Lib.hid (HFS.out.1 y).k.below
              clear hF0 hcF hy0
              go_wp2_with fail
              go_ret
              exact ⟨rfl, HZ.out⟩
        · have w1 : (c.verb == [77, 65, 73, 76]) = false := by rw [hv]; decide
          have w2 : (c.verb == [82, 67, 80, 84]) = true := by rw [hv]; decide
          clear hv HVV
          go_wp2_with fail
          clear w1 hTv w2
          go_loopw [7] (fun i wr2 => ∃ t : Nat, 5 ≤ t ∧ t ≤ 5 + mid.length ∧ i = .int .i64 t ∧ Hid (P.SI w4 wr2 s (loF (lowL c.verb ++ [32]) mid (58 :: tail) (t - 5)))) (fun i _ => 20 - (intOf i).toNat)
          case atStart => exact ⟨5, Nat.le_refl _, by omega, rfl, Lib.hid (by rw [← HM0.out]; exact HI1.out)⟩
          case round =>
            clear HI1 HM0 v0 K5 ds4 ds4'
            obtain ⟨t, ht5, htm, rfl, HI⟩ := hrel
            have dt : decide (t < s.length) = true := decide_eq_true (by omega)
            by_cases hlt : t < 5 + mid.length
            · obtain ⟨x, hx⟩ : ∃ x, mid[t - 5]? = some x := ⟨_, List.getElem?_eq_getElem (by omega)⟩
              have hx58 : x ≠ 58 := fun e => HM58.out (by rw [← e]; exact List.mem_of_getElem? hx)
              have g0 := HI.out.cell (i := t) (by have := loF_get (pre := lowL c.verb ++ [32]) (post := 58 :: tail) hx; rw [HPl.out, show 5 + (t - 5) = t by omega] at this; exact this)
              have g1 := HI.out.free (i := t) (by omega)
              have HI2 := Lib.hid (show P.SI w4 (wr.setCell ⟨w4.heap.size, t, none⟩ (.int .u8 ((lowB x).toNat : Int))) s (loF (lowL c.verb ++ [32]) mid (58 :: tail) (t + 1 - 5)) by
                have h := HI.out.set (i := t) (lowB x)
                have e := loF_set (pre := lowL c.verb ++ [32]) (post := 58 :: tail) hx
                rw [HPl.out, show 5 + (t - 5) = t by omega, show t - 5 + 1 = t + 1 - 5 by omega] at e
                rw [e] at h
                exact h)
              have hw := low_wrap x
              have hw2 := (low_sum x).symm
              have dx : ((x.toNat : Int) != 58) = true := bne_iff_ne.2 (fun e => hx58 (UInt8.toNat_inj.1 (show x.toNat = 58 by omega)))
              clear hx hx58
              go_wp2_with fail
              go_roundw
              case rel => exact ⟨t + 1, by omega, by omega, by go_num, HI2⟩
              case measure => simp [intOf]; omega
            · have ht : t = 5 + mid.length := by omega
              have g0 : wr.cell? ⟨w4.heap.size, t, none⟩ = some (.int .u8 58) := HI.out.cell (i := t) (x := 58) (by have := loF_post (pre := lowL c.verb ++ [32]) (m := mid) (post := 58 :: tail); rw [HPl.out] at this; rw [ht, show 5 + mid.length - 5 = mid.length by omega]; exact this)
              have HIL := Lib.hid (show P.SI w4 wr s (letV c) by have h := HI.out; rw [ht, show 5 + mid.length - 5 = mid.length by omega, HME.out] at h; exact h)
              clear HI ht hlt
              have K5 := Lib.hid (kb_si K4.out HIL.out)
              have HLn := Lib.hid (show (letV c).length = s.length by exact HHL.out)
              have HLe := Lib.hid (show (letV c).length ≤ 100000 by have := HLn.out; omega)
              have hcv2 := HIL.out.text s.length cap HLn.out
              go_wp2_with fail
              clear hcv2
              refine (HPP.out HLe.out _ (HR.out _ K5.out.below) (HN.out _ K5.out.below)).mono ?_
              rintro e w8 ⟨rfl, hb⟩
              have K8 := Lib.hid (K5.out.next hb)
              have S8 := Lib.hid (si_next HIL.out hb)
              clear hb K5 HIL HPP
              go_wp2_with (first | (refine wpList_store_blk rfl 31 _ _ rfl w8.heap.size 0 31 (CC zeroC) (CC c) (CC c) rfl rfl (newOf w8 _) size_cmd (one_CC _) (Nat.le_of_eq rfl) (whole_CC zeroC _) ?_; intro w9 hB2 hA2; have K9 := Lib.hid (K8.out.sto hA2); have X9 := Lib.hid (KB.new K8.out.below hB2 hA2); have S9 := Lib.hid (si_sto S8.out hA2); clear hB2 hA2 K8 S8) | fail)
              generalize w8.heap.size = b8 at X9 ⊢
              obtain ⟨Y, F, y0, hy0, hF, hS⟩ : ∃ (Y : Type) (F : Y → World) (y0 : Y), F y0 = w9.drew ∧ (∀ y, LT w g b8 w4 s (letV c) c (F y)) ∧ (∀ w', LT w g b8 w4 s (letV c) c w' → ∃ y, w' = F y) :=
                ⟨{ w' // LT w g b8 w4 s (letV c) c w' }, Subtype.val, ⟨_, LT.next ⟨K9.out, X9.out, S9.out⟩ (below_drewN (Below.refl _ _) 1)⟩, rfl, fun y => y.2, fun w' h => ⟨⟨w', h⟩, rfl⟩⟩
              have hne : Nonempty Y := ⟨y0⟩
              have hF0 : ∀ y, (F y).cell? ⟨g, 0, none⟩ = some (.string (mkS c.verb)) := fun y => cellOf (hF y).k.box 0
              have hcF := fun y => (hF y).si.text s.length cap HLn.out
              have HL8 := Lib.hid (fun w' (h : ∃ y, w' = F y) => h.elim fun y e => e ▸ (hF y).x.lC)
              have HL1 := Lib.hid (fun w' (h : ∃ y, w' = F y) => h.elim fun y e => e ▸ (hF y).k.lC)
              have hec : ∀ w, (Op.equalIn 10000 31 (.agg (CC c)) (.agg (CC c))).run Tryz.prog w = .ok true w := fun w => (eqCmd c c w).trans (by rw [eqCL_iff.2 rfl])
              have HFS := Lib.hid (And.intro hF hS)
              have HVq := Lib.hid (show ∀ y, Calls Tryz.prog 9 #[.string (mkS (letV c))] (F y) (fun e w' => e = .returned (.string (mkS c.verb)) ∧ ∃ y, w' = F y) from fun y => LT.quiet HFS.out (HVB.out HLe.out (F y)))
              clear hF hS K9 X9 S9
              go_wp2_with fail
              refine region_in (by kernel_rfl) (by kernel_rfl) F y0 hy0 ?_
              repeat (first
                | (refine wpQuiet_load_blk rfl 31 _ rfl b8 0 (CC c) rfl HL8.out ?_; simp only [Act.put, List.setIfInBounds_toArray, List.set_cons_succ, List.set_cons_zero])
                | (refine wpQuiet_load_blk rfl 31 _ rfl g 0 (CC c) rfl HL1.out ?_; simp only [Act.put, List.setIfInBounds_toArray, List.set_cons_succ, List.set_cons_zero])
                | go_big_quiet_step ((go_at_call 9; exact HVq.out _)))
              refine wpQuiet_nil ?_
              rintro _ ⟨y, rfl⟩
              have HZ := Lib.hid (HFS.out.1 y).k.below
              clear hF0 hcF hy0
              go_wp2_with fail
              go_ret
              exact ⟨rfl, HZ.out⟩
      · by_cases hr0 : rest.length = 0
        · have HIL := Lib.hid (show P.SI w4 wr s (letV c) by rw [hlet]; exact HI1.out)
          have w1 : (c.verb == [77, 65, 73, 76]) = false := beq_eq_false_iff_ne.2 hv1
          have w2 : (c.verb == [82, 67, 80, 84]) = false := beq_eq_false_iff_ne.2 hv2
          have HHL := Lib.hid (show (letV c).length = s.length by rw [hlet, List.length_append, lowL_len]; omega)
          have ds4 : decide (4 < s.length) = false := decide_eq_false (by omega)
          have ds4' : decide ((4 : Int) < (s.length : Int)) = false := decide_eq_false (by omega)
          clear hv1 hv2 hlet HI1 HWays K5
          have K5 := Lib.hid (kb_si K4.out HIL.out)
          have HLn := Lib.hid (show (letV c).length = s.length by exact HHL.out)
          have HLe := Lib.hid (show (letV c).length ≤ 100000 by have := HLn.out; omega)
          have hcv2 := HIL.out.text s.length cap HLn.out
          go_wp2_with fail
          clear hcv2
          refine (HPP.out HLe.out _ (HR.out _ K5.out.below) (HN.out _ K5.out.below)).mono ?_
          rintro e w8 ⟨rfl, hb⟩
          have K8 := Lib.hid (K5.out.next hb)
          have S8 := Lib.hid (si_next HIL.out hb)
          clear hb K5 HIL HPP
          go_wp2_with (first | (refine wpList_store_blk rfl 31 _ _ rfl w8.heap.size 0 31 (CC zeroC) (CC c) (CC c) rfl rfl (newOf w8 _) size_cmd (one_CC _) (Nat.le_of_eq rfl) (whole_CC zeroC _) ?_; intro w9 hB2 hA2; have K9 := Lib.hid (K8.out.sto hA2); have X9 := Lib.hid (KB.new K8.out.below hB2 hA2); have S9 := Lib.hid (si_sto S8.out hA2); clear hB2 hA2 K8 S8) | fail)
          generalize w8.heap.size = b8 at X9 ⊢
          obtain ⟨Y, F, y0, hy0, hF, hS⟩ : ∃ (Y : Type) (F : Y → World) (y0 : Y), F y0 = w9.drew ∧ (∀ y, LT w g b8 w4 s (letV c) c (F y)) ∧ (∀ w', LT w g b8 w4 s (letV c) c w' → ∃ y, w' = F y) :=
            ⟨{ w' // LT w g b8 w4 s (letV c) c w' }, Subtype.val, ⟨_, LT.next ⟨K9.out, X9.out, S9.out⟩ (below_drewN (Below.refl _ _) 1)⟩, rfl, fun y => y.2, fun w' h => ⟨⟨w', h⟩, rfl⟩⟩
          have hne : Nonempty Y := ⟨y0⟩
          have hF0 : ∀ y, (F y).cell? ⟨g, 0, none⟩ = some (.string (mkS c.verb)) := fun y => cellOf (hF y).k.box 0
          have hcF := fun y => (hF y).si.text s.length cap HLn.out
          have HL8 := Lib.hid (fun w' (h : ∃ y, w' = F y) => h.elim fun y e => e ▸ (hF y).x.lC)
          have HL1 := Lib.hid (fun w' (h : ∃ y, w' = F y) => h.elim fun y e => e ▸ (hF y).k.lC)
          have hec : ∀ w, (Op.equalIn 10000 31 (.agg (CC c)) (.agg (CC c))).run Tryz.prog w = .ok true w := fun w => (eqCmd c c w).trans (by rw [eqCL_iff.2 rfl])
          have HFS := Lib.hid (And.intro hF hS)
          have HVq := Lib.hid (show ∀ y, Calls Tryz.prog 9 #[.string (mkS (letV c))] (F y) (fun e w' => e = .returned (.string (mkS c.verb)) ∧ ∃ y, w' = F y) from fun y => LT.quiet HFS.out (HVB.out HLe.out (F y)))
          clear hF hS K9 X9 S9
          go_wp2_with fail
          refine region_in (by kernel_rfl) (by kernel_rfl) F y0 hy0 ?_
          repeat (first
            | (refine wpQuiet_load_blk rfl 31 _ rfl b8 0 (CC c) rfl HL8.out ?_; simp only [Act.put, List.setIfInBounds_toArray, List.set_cons_succ, List.set_cons_zero])
            | (refine wpQuiet_load_blk rfl 31 _ rfl g 0 (CC c) rfl HL1.out ?_; simp only [Act.put, List.setIfInBounds_toArray, List.set_cons_succ, List.set_cons_zero])
            | go_big_quiet_step ((go_at_call 9; exact HVq.out _)))
          refine wpQuiet_nil ?_
          rintro _ ⟨y, rfl⟩
          have HZ := Lib.hid (HFS.out.1 y).k.below
          clear hF0 hcF hy0
          go_wp2_with fail
          go_ret
          exact ⟨rfl, HZ.out⟩
        · have HIL := Lib.hid (show P.SI w4 wr s (letV c) by rw [hlet]; exact HI1.out)
          have w1 : (c.verb == [77, 65, 73, 76]) = false := beq_eq_false_iff_ne.2 hv1
          have w2 : (c.verb == [82, 67, 80, 84]) = false := beq_eq_false_iff_ne.2 hv2
          have HHL := Lib.hid (show (letV c).length = s.length by rw [hlet, List.length_append, lowL_len]; omega)
          have ds4 : decide (4 < s.length) = true := decide_eq_true (by omega)
          have ds4' : decide ((4 : Int) < (s.length : Int)) = true := decide_eq_true (by omega)
          clear hv1 hv2 hlet HI1 HWays K5
          have K5 := Lib.hid (kb_si K4.out HIL.out)
          have HLn := Lib.hid (show (letV c).length = s.length by exact HHL.out)
          have HLe := Lib.hid (show (letV c).length ≤ 100000 by have := HLn.out; omega)
          have hcv2 := HIL.out.text s.length cap HLn.out
          go_wp2_with fail
          clear hcv2
          refine (HPP.out HLe.out _ (HR.out _ K5.out.below) (HN.out _ K5.out.below)).mono ?_
          rintro e w8 ⟨rfl, hb⟩
          have K8 := Lib.hid (K5.out.next hb)
          have S8 := Lib.hid (si_next HIL.out hb)
          clear hb K5 HIL HPP
          go_wp2_with (first | (refine wpList_store_blk rfl 31 _ _ rfl w8.heap.size 0 31 (CC zeroC) (CC c) (CC c) rfl rfl (newOf w8 _) size_cmd (one_CC _) (Nat.le_of_eq rfl) (whole_CC zeroC _) ?_; intro w9 hB2 hA2; have K9 := Lib.hid (K8.out.sto hA2); have X9 := Lib.hid (KB.new K8.out.below hB2 hA2); have S9 := Lib.hid (si_sto S8.out hA2); clear hB2 hA2 K8 S8) | fail)
          generalize w8.heap.size = b8 at X9 ⊢
          obtain ⟨Y, F, y0, hy0, hF, hS⟩ : ∃ (Y : Type) (F : Y → World) (y0 : Y), F y0 = w9.drew ∧ (∀ y, LT w g b8 w4 s (letV c) c (F y)) ∧ (∀ w', LT w g b8 w4 s (letV c) c w' → ∃ y, w' = F y) :=
            ⟨{ w' // LT w g b8 w4 s (letV c) c w' }, Subtype.val, ⟨_, LT.next ⟨K9.out, X9.out, S9.out⟩ (below_drewN (Below.refl _ _) 1)⟩, rfl, fun y => y.2, fun w' h => ⟨⟨w', h⟩, rfl⟩⟩
          have hne : Nonempty Y := ⟨y0⟩
          have hF0 : ∀ y, (F y).cell? ⟨g, 0, none⟩ = some (.string (mkS c.verb)) := fun y => cellOf (hF y).k.box 0
          have hcF := fun y => (hF y).si.text s.length cap HLn.out
          have HL8 := Lib.hid (fun w' (h : ∃ y, w' = F y) => h.elim fun y e => e ▸ (hF y).x.lC)
          have HL1 := Lib.hid (fun w' (h : ∃ y, w' = F y) => h.elim fun y e => e ▸ (hF y).k.lC)
          have hec : ∀ w, (Op.equalIn 10000 31 (.agg (CC c)) (.agg (CC c))).run Tryz.prog w = .ok true w := fun w => (eqCmd c c w).trans (by rw [eqCL_iff.2 rfl])
          have HFS := Lib.hid (And.intro hF hS)
          have HVq := Lib.hid (show ∀ y, Calls Tryz.prog 9 #[.string (mkS (letV c))] (F y) (fun e w' => e = .returned (.string (mkS c.verb)) ∧ ∃ y, w' = F y) from fun y => LT.quiet HFS.out (HVB.out HLe.out (F y)))
          clear hF hS K9 X9 S9
          go_wp2_with fail
          refine region_in (by kernel_rfl) (by kernel_rfl) F y0 hy0 ?_
          repeat (first
            | (refine wpQuiet_load_blk rfl 31 _ rfl b8 0 (CC c) rfl HL8.out ?_; simp only [Act.put, List.setIfInBounds_toArray, List.set_cons_succ, List.set_cons_zero])
            | (refine wpQuiet_load_blk rfl 31 _ rfl g 0 (CC c) rfl HL1.out ?_; simp only [Act.put, List.setIfInBounds_toArray, List.set_cons_succ, List.set_cons_zero])
            | go_big_quiet_step ((go_at_call 9; exact HVq.out _)))
          refine wpQuiet_nil ?_
          rintro _ ⟨y, rfl⟩
          have HZ := Lib.hid (HFS.out.1 y).k.below
          clear hF0 hcF hy0
          go_wp2_with fail
          go_ret
          exact ⟨rfl, HZ.out⟩
end Go.Proofs.YtgkjbminokgddaaGreatDoor
