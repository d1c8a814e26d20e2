/-
  What holds while ofMail's map is made, whichever operation comes up.
-/
import Derived.Test.YtbecdncnidcmdaaGreatDoorPaOfA
namespace Go.Proofs.YtbecdncnidcmdaaGreatDoor
set_option maxRecDepth 100000
open Go.RowKit
/-- The operations: where each writes, what it is. -/
def tblM : List (Option Tmp × Op) := [
  (some 5, Op.makeMap 301 none),
    (some 6, Op.load 331 (Operand.tmp 3)),
    (some 7, Op.load 303 (Operand.tmp 1)),
    (some 8, Op.nilCheck (Operand.tmp 7)),
    (some 9, Op.fieldAddr 49 (Operand.tmp 8) 1),
    (some 10, Op.load 303 (Operand.tmp 1)),
    (some 11, Op.nilCheck (Operand.tmp 10)),
    (some 12, Op.fieldAddr 49 (Operand.tmp 11) 0),
    (some 13, Op.fieldAddr 47 (Operand.tmp 12) 0),
    (some 14, Op.call { callee := Callee.value (Operand.tmp 6), args := #[Operand.tmp 9, Operand.tmp 13, Operand.func 317, Operand.const (Value.int IntKind.i64 0), Operand.const (Value.int IntKind.i64 999999999)], argTypes := #[237, 328, 329, 3, 3] }),
    (none, Op.insert 301 (Operand.tmp 5) (Operand.const (Value.string { data := #[83, 73, 90, 69] })) (Operand.tmp 14)),
    (some 15, Op.move (Operand.tmp 4)),
    (some 16, Op.load 303 (Operand.tmp 1)),
    (some 17, Op.nilCheck (Operand.tmp 16)),
    (some 18, Op.fieldAddr 49 (Operand.tmp 17) 6),
    (some 19, Op.call { callee := Callee.value (Operand.tmp 15), args := #[Operand.tmp 18, Operand.func 318], argTypes := #[94, 87] }),
    (none, Op.insert 301 (Operand.tmp 5) (Operand.const (Value.string { data := #[66, 79, 68, 89] })) (Operand.tmp 19)),
    (some 20, Op.move (Operand.tmp 4)),
    (some 21, Op.load 303 (Operand.tmp 1)),
    (some 22, Op.nilCheck (Operand.tmp 21)),
    (some 23, Op.fieldAddr 49 (Operand.tmp 22) 7),
    (some 24, Op.call { callee := Callee.value (Operand.tmp 20), args := #[Operand.tmp 23, Operand.func 319], argTypes := #[94, 87] }),
    (none, Op.insert 301 (Operand.tmp 5) (Operand.const (Value.string { data := #[82, 69, 84] })) (Operand.tmp 24)),
    (some 25, Op.makeFunc (Fn.func 320) #[] #[Operand.tmp 1]),
    (none, Op.insert 301 (Operand.tmp 5) (Operand.const (Value.string { data := #[69, 78, 86, 73, 68] })) (Operand.tmp 25)),
    (some 26, Op.load 331 (Operand.tmp 3)),
    (some 27, Op.load 303 (Operand.tmp 1)),
    (some 28, Op.nilCheck (Operand.tmp 27)),
    (some 29, Op.fieldAddr 49 (Operand.tmp 28) 2),
    (some 30, Op.load 303 (Operand.tmp 1)),
    (some 31, Op.nilCheck (Operand.tmp 30)),
    (some 32, Op.fieldAddr 49 (Operand.tmp 31) 0),
    (some 33, Op.fieldAddr 47 (Operand.tmp 32) 1),
    (some 34, Op.call { callee := Callee.value (Operand.tmp 26), args := #[Operand.tmp 29, Operand.tmp 33, Operand.func 317, Operand.const (Value.int IntKind.i64 1), Operand.const (Value.int IntKind.i64 1048576)], argTypes := #[237, 328, 329, 3, 3] }),
    (none, Op.insert 301 (Operand.tmp 5) (Operand.const (Value.string { data := #[72, 79, 76, 68, 70, 79, 82] })) (Operand.tmp 34)),
    (some 35, Op.load 331 (Operand.tmp 3)),
    (some 36, Op.load 303 (Operand.tmp 1)),
    (some 37, Op.nilCheck (Operand.tmp 36)),
    (some 38, Op.fieldAddr 49 (Operand.tmp 37) 5),
    (some 39, Op.load 303 (Operand.tmp 1)),
    (some 40, Op.nilCheck (Operand.tmp 39)),
    (some 41, Op.fieldAddr 49 (Operand.tmp 40) 0),
    (some 42, Op.fieldAddr 47 (Operand.tmp 41) 4),
    (some 43, Op.call { callee := Callee.value (Operand.tmp 35), args := #[Operand.tmp 38, Operand.tmp 42, Operand.func 322, Operand.const (Value.int IntKind.i64 (-9)), Operand.const (Value.int IntKind.i64 9)], argTypes := #[237, 328, 329, 3, 3] }),
    (none, Op.insert 301 (Operand.tmp 5) (Operand.const (Value.string { data := #[77, 84, 45, 80, 82, 73, 79, 82, 73, 84, 89] })) (Operand.tmp 43)),
    (some 44, Op.makeFunc (Fn.func 323) #[] #[Operand.tmp 1]),
    (none, Op.insert 301 (Operand.tmp 5) (Operand.const (Value.string { data := #[72, 79, 76, 68, 85, 78, 84, 73, 76] })) (Operand.tmp 44)),
    (some 45, Op.makeFunc (Fn.func 325) #[] #[Operand.tmp 1, Operand.tmp 3]),
    (none, Op.insert 301 (Operand.tmp 5) (Operand.const (Value.string { data := #[66, 89] })) (Operand.tmp 45)),
    (some 46, Op.move (Operand.tmp 5)),
    (some 2, Op.assign (Operand.tmp 46))]
theorem tbl_M : opsM.toList.map (fun o => (o.dst, o.op)) = tblM := by kernel_rfl
def depM : List (List Nat) := [
[], [], [], [2], [3], [], [5], [6], [7], [1, 4, 8], [0, 9], [], [], [12], [13], [11, 14, 9], [0, 15], [], [], [18], [19], [17, 20, 15], [0, 21], [], [0, 23], [], [], [26], [27], [], [29], [30], [31], [25, 28, 32, 21], [0, 33], [], [], [36], [37], [], [39], [40], [41], [35, 38, 42, 33], [0, 43], [], [0, 45], [], [0, 47], [0, 1, 2, 3, 4, 5, 6, 7, 8, 9, 10, 11, 12, 13, 14, 15, 16, 17, 18, 19, 20, 21, 22, 23, 24, 25, 26, 27, 28, 29, 30, 31, 32, 33, 34, 35, 36, 37, 38, 39, 40, 41, 42, 43, 44, 45, 46, 47, 48], [49, 43, 0, 1, 2, 3, 4, 5, 6, 7, 8, 9, 10, 11, 12, 13, 14, 15, 16, 17, 18, 19, 20, 21, 22, 23, 24, 25, 26, 27, 28, 29, 30, 31, 32, 33, 34, 35, 36, 37, 38, 39, 40, 41, 42, 43, 44, 45, 46, 47, 48, 49]]
theorem dep_M : opsM.toList.map (fun o => o.after.toList.map (·.on)) = depM := by kernel_rfl
theorem at_M {i : Nat} {o : Oper} (h : opsM[i]? = some o) : tblM[i]? = some (o.dst, o.op) ∧ depM[i]? = some (o.after.toList.map (·.on)) := by
  have h' : opsM.toList[i]? = some o := by simpa using h
  rw [← tbl_M, ← dep_M, List.getElem?_map, List.getElem?_map, h']
  exact ⟨rfl, rfl⟩
theorem all_M {p : Oper → Bool} (hp : opsM.all p = true) {i : Nat} {o : Oper} (h : opsM[i]? = some o) : p o = true := by
  rw [Array.all_eq_true_iff_forall_mem] at hp
  exact hp o (Array.mem_of_getElem? h)
theorem back_M : ∀ (i : Nat) (o : Oper), opsM[i]? = some o → ∀ e ∈ o.after, e.on < i := by
  intro i o h e he
  have h1 := (at_M h).2
  have hmem : e.on ∈ o.after.toList.map (·.on) := List.mem_map.2 ⟨e, by simpa using he, rfl⟩
  have hall : ∀ i, i < 51 → ∀ j ∈ (depM[i]?).getD [], j < i := by decide +kernel
  have hi : i < 51 := by have := (Array.getElem?_eq_some_iff.1 h).1; rw [size_M] at this; exact this
  exact hall i hi e.on (by rw [h1]; exact hmem)
/-- What an operation waits for has come up. -/
theorem dep_up {L : Nat → Bool} {i j : Nat} {o : Oper} (h : opsM[i]? = some o) (hall : ∀ e ∈ o.after, Region.binds .any e = true → L e.on = true) (hj : j ∈ (depM[i]?).getD []) : L j = true := by
  rw [(at_M h).2] at hj
  obtain ⟨e, he, rfl⟩ := List.mem_map.1 (show j ∈ o.after.toList.map (·.on) from hj)
  have he' : e ∈ o.after := by simpa using he
  refine hall e he' ?_
  have := all_M binds_M h
  rw [Array.all_eq_true_iff_forall_mem] at this
  exact this e he'
theorem closed_up {L : Nat → Bool} (hc : ClosedL opsM L) {i j : Nat} (hi : i < 51) (hL : L i = true) (hj : j ∈ (depM[i]?).getD []) : L j = true := by
  have h : opsM[i]? = some (opsM[i]'(by rw [size_M]; exact hi)) := Array.getElem?_eq_getElem _
  exact dep_up h (hc i _ h hL) hj

def slotM (i : Nat) : Nat := ([5, 6, 7, 8, 9, 10, 11, 12, 13, 14, 110, 15, 16, 17, 18, 19, 116, 20, 21, 22, 23, 24, 122, 25, 124, 26, 27, 28, 29, 30, 31, 32, 33, 34, 134, 35, 36, 37, 38, 39, 40, 41, 42, 43, 144, 44, 146, 45, 148, 46, 2] : List Nat).getD i 200
theorem slot_inj : ∀ i, i < 51 → ∀ j, j < 51 → i ≠ j → slotM i ≠ slotM j := by decide +kernel
theorem slot_old : ∀ i, i < 51 → slotM i ≠ 1 ∧ slotM i ≠ 3 ∧ slotM i ≠ 4 := by decide +kernel
def cstM (mb B B3 : Nat) : Nat → Option Value
  | 1 => some (.func (.func 312) #[] #[])
  | 2 => some (.pointer (some ⟨mb, 0, none⟩))
  | 3 => some (.pointer (some ⟨mb, 0, none⟩))
  | 4 => some (.pointer (some ⟨mb, 5, none⟩))
  | 5 => some (.pointer (some ⟨mb, 0, none⟩))
  | 6 => some (.pointer (some ⟨mb, 0, none⟩))
  | 7 => some (.pointer (some ⟨mb, 0, none⟩))
  | 8 => some (.pointer (some ⟨mb, 0, none⟩))
  | 11 => some (.func (.func 315) #[] #[])
  | 12 => some (.pointer (some ⟨mb, 0, none⟩))
  | 13 => some (.pointer (some ⟨mb, 0, none⟩))
  | 14 => some (.pointer (some ⟨mb, 10, none⟩))
  | 17 => some (.func (.func 315) #[] #[])
  | 18 => some (.pointer (some ⟨mb, 0, none⟩))
  | 19 => some (.pointer (some ⟨mb, 0, none⟩))
  | 20 => some (.pointer (some ⟨mb, 11, none⟩))
  | 23 => some (.func (.func 320) #[] #[.pointer (some ⟨B, 0, none⟩)])
  | 25 => some (.func (.func 312) #[] #[])
  | 26 => some (.pointer (some ⟨mb, 0, none⟩))
  | 27 => some (.pointer (some ⟨mb, 0, none⟩))
  | 28 => some (.pointer (some ⟨mb, 6, none⟩))
  | 29 => some (.pointer (some ⟨mb, 0, none⟩))
  | 30 => some (.pointer (some ⟨mb, 0, none⟩))
  | 31 => some (.pointer (some ⟨mb, 0, none⟩))
  | 32 => some (.pointer (some ⟨mb, 1, none⟩))
  | 35 => some (.func (.func 312) #[] #[])
  | 36 => some (.pointer (some ⟨mb, 0, none⟩))
  | 37 => some (.pointer (some ⟨mb, 0, none⟩))
  | 38 => some (.pointer (some ⟨mb, 9, none⟩))
  | 39 => some (.pointer (some ⟨mb, 0, none⟩))
  | 40 => some (.pointer (some ⟨mb, 0, none⟩))
  | 41 => some (.pointer (some ⟨mb, 0, none⟩))
  | 42 => some (.pointer (some ⟨mb, 4, none⟩))
  | 45 => some (.func (.func 323) #[] #[.pointer (some ⟨B, 0, none⟩)])
  | 47 => some (.func (.func 325) #[] #[.pointer (some ⟨B, 0, none⟩), .pointer (some ⟨B3, 0, none⟩)])
  | _ => none
def entsM : List (Nat × Txt × Nat) := [(10, kSIZE, 14), (16, kBODY, 19), (22, kRET, 24), (24, kENV, 25), (34, kHF, 34), (44, kPR, 43), (46, kHU, 44), (48, kBY, 45)]
/-- What the map holds, by what has come up. -/
def fmap (L : Nat → Bool) (X : Nat → Value) : List (Nat × Txt × Nat) → Txt → Option Value
  | [], _ => none
  | (e, K, t) :: r, k => if k = K then (if L e then some (X t) else none) else fmap L X r k
theorem fmap_frame (L : Nat → Bool) (X : Nat → Value) (i s : Nat) (v : Value) : ∀ (l : List (Nat × Txt × Nat)), (∀ q ∈ l, q.1 ≠ i ∧ (q.2.2 = s → L q.1 = false)) → ∀ k, fmap (updL L i) (updX X s v) l k = fmap L X l k
  | [], _, _ => rfl
  | (e, K, t) :: r, h, k => by
    have h1 := h (e, K, t) (by simp)
    rw [fmap, fmap, fmap_frame L X i s v r (fun q hq => h q (List.mem_cons_of_mem _ hq)) k]
    have e1 : updL L i e = L e := updL_ne L h1.1
    rw [e1]
    cases hL : L e
    · rfl
    · have ht : t ≠ s := fun e' => by have := h1.2 e'; rw [hL] at this; cases this
      rw [upd_ne X v ht]
theorem fmap_L (L : Nat → Bool) (X : Nat → Value) (i : Nat) : ∀ (l : List (Nat × Txt × Nat)), i ∉ l.map (·.1) → ∀ k, fmap (updL L i) X l k = fmap L X l k
  | [], _, _ => rfl
  | (e, K, t) :: r, h, k => by
    rw [List.map_cons, List.mem_cons, not_or] at h
    have e1 : updL L i e = L e := updL_ne L (fun e' => h.1 e'.symm)
    rw [fmap, fmap, fmap_L L X i r h.2 k, e1]
theorem fmap_set (L : Nat → Bool) (X : Nat → Value) (i : Nat) (K : Txt) (t : Nat) : ∀ (l : List (Nat × Txt × Nat)), (i, K, t) ∈ l → (l.map (·.2.1)).Nodup → (l.map (·.1)).Nodup → ∀ k, fmap (updL L i) X l k = if k = K then some (X t) else fmap L X l k
  | [], h, _, _, _ => by simp at h
  | (e, K', t') :: r, h, hn, hm, k => by
    rw [List.map_cons, List.nodup_cons] at hn hm
    rw [fmap, fmap]
    rcases List.mem_cons.1 h with h | h
    · injection h with h1 h2
      injection h2 with h2 h3
      subst h1 h2 h3
      have hr := fmap_L L X i r hm.1
      by_cases hk : k = K
      · rw [if_pos hk, if_pos hk, updL_same, if_pos rfl]
      · rw [if_neg hk, if_neg hk, if_neg hk, hr k]
    · have hk' : K ≠ K' := fun e' => hn.1 (by rw [← e']; exact List.mem_map.2 ⟨_, h, rfl⟩)
      have hi' : e ≠ i := fun e' => hm.1 (by show e ∈ _; rw [e']; exact List.mem_map.2 ⟨_, h, rfl⟩)
      by_cases hk : k = K'
      · have e2 : updL L i e = L e := updL_ne L hi'
        have hkK : ¬ k = K := fun e' => hk' (e'.symm.trans hk)
        rw [if_pos hk, if_pos hk, if_neg hkK, e2]
      · rw [if_neg hk, if_neg hk, fmap_set L X i K t r h hn.2 hm.2 k]
theorem fmap_none (L : Nat → Bool) (X : Nat → Value) : ∀ (l : List (Nat × Txt × Nat)), (∀ q ∈ l, L q.1 = false) → ∀ k, fmap L X l k = none
  | [], _, _ => rfl
  | (e, K, t) :: r, h, k => by
    rw [fmap, fmap_none L X r (fun q hq => h q (List.mem_cons_of_mem _ hq)) k, h (e, K, t) (by simp)]
    split <;> rfl
end Go.Proofs.YtbecdncnidcmdaaGreatDoor
