/-
  The walk of param's ofMail: the map of what a message's keys do.
-/
import Derived.Test.YtbecdncnidcmdaaGreatDoorPaOfD
import Derived.Laws.EntriesVeiled
namespace Go.Proofs.YtbecdncnidcmdaaGreatDoor
set_option maxRecDepth 100000
open Go.RowKit
theorem subst_ops {Q : Exit → Act → World → Prop} {ops : Array Oper} {a : Act} {w : World} (h : ops = opsM) (hk : wpAny Tryz.prog .any opsM Q 51 (Array.replicate 51 false) a w) : wpAny Tryz.prog .any ops Q ops.size (Array.replicate ops.size false) a w := by
  subst h
  rw [size_M]
  exact hk
def X0M (mb B B3 : Nat) : Nat → Value
  | 0 => .pointer (some ⟨mb, 0, none⟩)
  | 1 => .pointer (some ⟨B, 0, none⟩)
  | 2 => .map none
  | 3 => .pointer (some ⟨B3, 0, none⟩)
  | 4 => .func (.func 315) #[] #[]
  | _ => undef
theorem region_M {Q : Exit → Act → World → Prop} {w0 : World} {mb B B3 : Nat} (hB : w0.cell? ⟨B, 0, none⟩ = some (.pointer (some ⟨mb, 0, none⟩))) (hB3 : w0.cell? ⟨B3, 0, none⟩ = some (.func (.func 312) #[] #[]))
    (hend : ∀ f L X w, OM w0 mb B B3 f L X w → (∀ i, i < 51 → L i = true) → Q .normal (actX 47 X) w) : wpAny Tryz.prog .any opsM Q 51 (Array.replicate 51 false) (actX 47 (X0M mb B B3)) w0.drew := by
  have hz : ∀ j, toL (Array.replicate 51 false) j = false := by
    intro j
    unfold toL
    by_cases hj : j < 51
    · simp [hj]
    · simp [hj]
  refine wpAny_inv (n := 47) (fun f L X w => OM w0 mb B B3 f L X w) (fun f L X w i o h hc ho hL hall K hK => ?_) (fun i o h => ?_) back_M (fun f L X w h hall => hend f L X w h (fun i hi => hall i (by rw [size_M]; exact hi))) 51 _ _ _ (by rw [size_M]; rfl) (by decide +kernel) ?_ ?_
  · have hi : i < 51 := by have := (Array.getElem?_eq_some_iff.1 ho).1; rw [size_M] at this; exact this
    exact st_all hB hB3 i hi f L X w o h hc ho hL hall K hK
  · have := all_M guard_M h
    simpa using this
  · intro j o _ hj
    rw [hz j] at hj
    cases hj
  · have hno : ∀ {p : Prop} (j : Nat), toL (Array.replicate 51 false) j = true → p := fun j hj => by rw [hz j] at hj; cases hj
    exact ⟨⟨rfl, rfl, rfl, Nat.le_refl _, fun _ _ => rfl⟩, by decide, rfl, rfl, rfl, fun _ _ _ _ h => hno _ h, hno _, hno _, hno _, hno _, hno _, hno _, hno _, hno _⟩
theorem subst_act {Q : Exit → Act → World → Prop} {ops : Array Oper} {a a' : Act} {w : World} (h : a' = a) (hk : wpAny Tryz.prog .any ops Q 51 (Array.replicate 51 false) a w) : wpAny Tryz.prog .any ops Q 51 (Array.replicate 51 false) a' w := h ▸ hk
theorem fmap_full (L : Nat → Bool) (X : Nat → Value) : ∀ (l : List (Nat × Txt × Nat)), (∀ q ∈ l, L q.1 = true) → ∀ k, fmap L X l k = fmap (fun _ => true) X l k
  | [], _, _ => rfl
  | (e, K, t) :: r, h, k => by
    rw [fmap, fmap, fmap_full L X r (fun q hq => h q (List.mem_cons_of_mem _ hq)) k, h (e, K, t) (by simp)]
/-- What the map of a message's keys holds. -/
structure MailMap (mb B B3 N0 : Nat) (X : Nat → Value) (w : World) : Prop where
  b1 : w.cell? ⟨B, 0, none⟩ = some (.pointer (some ⟨mb, 0, none⟩))
  b3 : w.cell? ⟨B3, 0, none⟩ = some (.func (.func 312) #[] #[])
  size : NumV 317 mb 5 0 0 999999999 N0 (X 14) w
  body : NamV 318 mb 10 N0 (X 19) w
  ret : NamV 319 mb 11 N0 (X 24) w
  hf : NumV 317 mb 6 1 1 1048576 N0 (X 34) w
  pr : NumV 322 mb 9 4 (-9) 9 N0 (X 43) w
  env : X 25 = .func (.func 320) #[] #[.pointer (some ⟨B, 0, none⟩)]
  hu : X 44 = .func (.func 323) #[] #[.pointer (some ⟨B, 0, none⟩)]
  by_ : X 45 = .func (.func 325) #[] #[.pointer (some ⟨B, 0, none⟩), .pointer (some ⟨B3, 0, none⟩)]
set_option maxHeartbeats 4000000 in
theorem ofMail_x (mb : Nat) (w : World) (hm : mb < w.heap.size) : Calls Tryz.prog 277 #[.pointer (some ⟨mb, 0, none⟩)] w fun e w' => ∃ M n X, e = .returned (.map (some M)) ∧ mb < M ∧ Below w.heap.size w w' ∧ n ≤ 100 ∧ MapIs w' M n (fmap (fun _ => true) X entsM) ∧ MailMap mb w.heap.size (w.heap.size + 1) (w.heap.size + 2) X w' := by
  have k0 := old_alloc (o := .cells #[.func (.func 312) #[] #[]] 331) (newOf w (.cells #[.pointer (some ⟨mb, 0, none⟩)] 303))
  have k1 := new_alloc (w := w.alloc (.cells #[.pointer (some ⟨mb, 0, none⟩)] 303)) (n := w.heap.size + 1) (.cells #[.func (.func 312) #[] #[]] 331) (by simp)
  have kB : Below w.heap.size w ((w.alloc (.cells #[.pointer (some ⟨mb, 0, none⟩)] 303)).alloc (.cells #[.func (.func 312) #[] #[]] 331)) := ((Below.refl _ w).alloc (Nat.le_refl _) _).alloc (by simp) _
  have kS : ((w.alloc (.cells #[.pointer (some ⟨mb, 0, none⟩)] 303)).alloc (.cells #[.func (.func 312) #[] #[]] 331)).heap.size = w.heap.size + 2 := by simp
  have H := Lib.hid (And.intro k0 (And.intro k1 (And.intro kB kS)))
  clear k0 k1 kB kS
  go_enter Tryz.func277, Tryz.ntmps277
  go_wp2_with fail
  obtain ⟨k0, k1, kB, kS⟩ := H.out
  clear H
  generalize (w.alloc (.cells #[.pointer (some ⟨mb, 0, none⟩)] 303)).alloc (.cells #[.func (.func 312) #[] #[]] 331) = W0 at k0 k1 kB kS ⊢
  refine wp_region_any (by kernel_rfl) (subst_ops (by kernel_rfl) ?_)
  refine subst_act (a := actX 47 (X0M mb w.heap.size (w.heap.size + 1))) rfl ?_
  refine region_M (w0 := W0) (cellOf k0 0) (cellOf k1 0) ?_
  intro f L X w' h hall
  have HH := Lib.hid h
  have HA := Lib.hid hall
  have HK := Lib.hid (And.intro (cellOf k0 0) (And.intro (cellOf k1 0) (And.intro kB kS)))
  clear h hall k0 k1 kB kS
  go_wp2_with fail
  have hI := HH.out
  have hl := HA.out
  obtain ⟨k0, k1, kB, kS⟩ := HK.out
  obtain ⟨M, n, m1, m2, m3, m4⟩ := hI.mp (hl 0 (by decide))
  have hr : (actX 47 X).tmps[2]?.getD undef = .map (some M) := (get_X X (by decide)).trans ((hI.e2 (hl 50 (by decide))).trans m1)
  refine bodyPost_ret (v := .map (some M)) (by simp [results, Tryz.results277, go_sem, hr]) rfl ?_
  refine ⟨M, n, X, rfl, by omega, kB.trans (hI.bel.mono (by omega)), by omega, m4.congr fun k => fmap_full L X entsM (fun q hq => hl q.1 (ents_ok q hq).2.1) k, ?_⟩
  rw [← kS]
  exact ⟨(hI.bel.cell (p := ⟨_, 0, none⟩) (cell_lt k0)).trans k0, (hI.bel.cell (p := ⟨_, 0, none⟩) (cell_lt k1)).trans k1, hI.c1 (hl 9 (by decide)), hI.c2 (hl 15 (by decide)), hI.c3 (hl 21 (by decide)), hI.c4 (hl 33 (by decide)), hI.c5 (hl 43 (by decide)),
    hI.pure 23 _ (by decide) rfl (hl 23 (by decide)), hI.pure 45 _ (by decide) rfl (hl 45 (by decide)), hI.pure 47 _ (by decide) rfl (hl 47 (by decide))⟩
def mCells (m : ML) : Array Value := #[.bool m.hs, .bool m.hf, .bool m.hu, .bool m.hb, .bool m.hp, .int .i64 m.sz, .int .i64 m.fo, .int .i64 m.un, .int .i64 m.by_, .int .i64 m.pr, .string (mkS m.body), .string (mkS m.ret), .string (mkS m.env), .string (mkS m.mode)]
theorem NumV.does {k mb i j N0 : Nat} {a b : Int} {v : Value} {W1 : World} {V E : Txt → Int} (h : NumV k mb i j a b N0 v W1) (hm : mb < N0) (hk : ParseK k V E) (ek : ∀ args w, (callFunc k args).run Tryz.prog w = .ok (.enter k args) w) (K : Txt)
    (hij : i ≠ j) (hi : ∀ st, ∃ o, (mCells st)[i]? = some o) (hj : ∀ st, ∃ o, (mCells st)[j]? = some o) (he : ∀ x, errM K x = numE (V x) (E x) a b) (hs : ∀ x st, ((mCells st).setIfInBounds i (.int .i64 (V x))).setIfInBounds j (.bool true) = mCells (setM K x st)) :
    DoesP mCells 49 mb errM setM W1 K v := by
  obtain ⟨N, rfl, hN, hB⟩ := h
  have hl := cell_lt hB.most
  refine ⟨_, _, rfl, enters_of Tryz.func313 (by kernel_rfl) rfl, fun w st x hx hA hb => ?_⟩
  obtain ⟨o1, h1⟩ := hi st
  obtain ⟨o2, h2⟩ := hj st
  refine (num1_x k V E hk ek mb i j N (mCells st) 49 a b x o1 o2 w (by omega) (hB.apart hA (by omega) (.inl (by omega))) hb h1 h2 hij (.inl (by omega))).mono ?_
  rintro e w' ⟨rfl, hT⟩
  refine ⟨by rw [he], hT.1, fun h0 => ?_⟩
  rw [he] at h0
  rw [hT.2, numC, if_pos h0, hs]
theorem NamV.does {k mb i N0 : Nat} {v : Value} {W1 : World} {is : Txt → Bool} (h : NamV k mb i N0 v W1) (hm : mb < N0) (hk : IsK k is) (ek : ∀ args w, (callFunc k args).run Tryz.prog w = .ok (.enter k args) w) (K : Txt)
    (hi : ∀ st, ∃ o, (mCells st)[i]? = some o) (he : ∀ x, errM K x = if is (upL x) then 0 else 2) (hs : ∀ x st, (mCells st).setIfInBounds i (.string (mkS (upL x))) = mCells (setM K x st)) :
    DoesP mCells 49 mb errM setM W1 K v := by
  obtain ⟨N, rfl, hN, hB, hB2⟩ := h
  have hl := cell_lt hB2
  refine ⟨_, _, rfl, enters_of Tryz.func316 (by kernel_rfl) rfl, fun w st x hx hA hb => ?_⟩
  obtain ⟨o1, h1⟩ := hi st
  refine (name1_x k is hk ek mb i N (mCells st) 49 x o1 w (by omega) ((hA.cell (by omega) (by omega) 0 none).trans hB) ((hA.cell hl (by omega) 0 none).trans hB2) hb h1 (by omega) (by omega)).mono ?_
  rintro e w' ⟨rfl, hT⟩
  refine ⟨by rw [he], hT.1, fun _ => ?_⟩
  rw [hT.2, hs]
theorem does_M {mb B B3 N0 : Nat} {X : Nat → Value} {W1 : World} (h : MailMap mb B B3 N0 X W1) (hN : mb < N0) (hB : mb ≠ B) (hB3 : mb ≠ B3) (hR : ∀ w', Apart mb W1.heap.size W1 w' → Ready w') :
    ∀ k v, fmap (fun _ => true) X entsM k = some v → DoesP mCells 49 mb errM setM W1 k v := by
  intro k v hv
  have hb1 := cell_lt h.b1
  have hb3 := cell_lt h.b3
  simp only [entsM, fmap, if_true] at hv
  split at hv
  · rename_i hk; subst hk; injection hv with hv; subst hv
    exact h.size.does hN whole_p (enters_of Tryz.func317 (by kernel_rfl) rfl) kSIZE (by decide) (fun _ => ⟨_, rfl⟩) (fun _ => ⟨_, rfl⟩) (fun _ => rfl) (fun _ _ => rfl)
  split at hv
  · rename_i hk; subst hk; injection hv with hv; subst hv
    exact h.body.does hN isBody_p (enters_of Tryz.func318 (by kernel_rfl) rfl) kBODY (fun _ => ⟨_, rfl⟩) (fun _ => rfl) (fun _ _ => rfl)
  split at hv
  · rename_i hk; subst hk; injection hv with hv; subst hv
    exact h.ret.does hN isRet_p (enters_of Tryz.func319 (by kernel_rfl) rfl) kRET (fun _ => ⟨_, rfl⟩) (fun _ => rfl) (fun _ _ => rfl)
  split at hv
  · rename_i hk; subst hk; injection hv with hv; subst hv
    refine ⟨_, _, h.env, enters_of Tryz.func320 (by kernel_rfl) rfl, fun w st x hx hA hb => ?_⟩
    refine (env_x mb B (mCells st) x _ w hx ((hA.cell hb1 (Ne.symm hB) 0 none).trans h.b1) hb rfl).mono ?_
    rintro e w' ⟨rfl, hT⟩
    refine ⟨rfl, hT.1, fun h0 => ?_⟩
    have h0' : decdE x 100 = 0 := h0
    rw [hT.2, decC, if_pos h0']
    rfl
  split at hv
  · rename_i hk; subst hk; injection hv with hv; subst hv
    exact h.hf.does hN whole_p (enters_of Tryz.func317 (by kernel_rfl) rfl) kHF (by decide) (fun _ => ⟨_, rfl⟩) (fun _ => ⟨_, rfl⟩) (fun _ => rfl) (fun _ _ => rfl)
  split at hv
  · rename_i hk; subst hk; injection hv with hv; subst hv
    exact h.pr.does hN signed_p (enters_of Tryz.func322 (by kernel_rfl) rfl) kPR (by decide) (fun _ => ⟨_, rfl⟩) (fun _ => ⟨_, rfl⟩) (fun _ => rfl) (fun _ _ => rfl)
  split at hv
  · rename_i hk; subst hk; injection hv with hv; subst hv
    refine ⟨_, _, h.hu, enters_of Tryz.func323 (by kernel_rfl) rfl, fun w st x hx hA hb => ?_⟩
    refine (hu_x mb B (mCells st) x _ _ w hx (fun w' hw => hR w' (hA.next hw.blk.1)) ((hA.cell hb1 (Ne.symm hB) 0 none).trans h.b1) hb rfl rfl hB).mono ?_
    rintro e w' ⟨rfl, hT⟩
    exact ⟨rfl, hT.1, fun _ => hT.2⟩
  split at hv
  · rename_i hk; subst hk; injection hv with hv; subst hv
    refine ⟨_, _, h.by_, enters_of Tryz.func325 (by kernel_rfl) rfl, fun w st x hx hA hb => ?_⟩
    refine (by_x mb B B3 (mCells st) x _ _ _ w hx ((hA.cell hb1 (Ne.symm hB) 0 none).trans h.b1) ((hA.cell hb3 (Ne.symm hB3) 0 none).trans h.b3) hb rfl rfl rfl hB hB3).mono ?_
    rintro e w' ⟨rfl, hT⟩
    refine ⟨rfl, hT.1, fun h0 => ?_⟩
    have h0' : byE x = 0 := h0
    have hmo : isMode (upL (postC 59 x)) = true := by
      cases hmo : isMode (upL (postC 59 x))
      · unfold byE at h0'; rw [hmo] at h0'; cases h0'
      · rfl
    rw [hT.2, byC, if_pos hmo, numC, if_pos h0']
    rfl
  · cases hv
theorem fM_is (X : Nat → Value) (k : Txt) : (fmap (fun _ => true) X entsM k).isSome = isKM k := by
  simp only [entsM, fmap, if_true]
  unfold isKM
  by_cases h1 : k = kSIZE
  · subst h1; rfl
  by_cases h2 : k = kBODY
  · subst h2; rfl
  by_cases h3 : k = kRET
  · subst h3; rfl
  by_cases h4 : k = kENV
  · subst h4; rfl
  by_cases h5 : k = kHF
  · subst h5; rfl
  by_cases h6 : k = kPR
  · subst h6; rfl
  by_cases h7 : k = kHU
  · subst h7; rfl
  by_cases h8 : k = kBY
  · subst h8; rfl
  simp [h1, h2, h3, h4, h5, h6, h7, h8]
end Go.Proofs.YtbecdncnidcmdaaGreatDoor
