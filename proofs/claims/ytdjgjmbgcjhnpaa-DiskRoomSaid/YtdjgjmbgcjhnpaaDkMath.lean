/-
  The disk in plain words: files, what a change does, what a failure leaves. No model.
-/
import Derived.Test.YtdjgjmbgcjhnpaaTxts
namespace Go.Proofs.Ytdjgjmbgcjhnpaa
set_option maxRecDepth 100000
structure Fl where
  name : Txt
  byt : Txt
  syn : Nat
deriving DecidableEq
structure Dk where
  room : Nat
  fs : List Fl
  off : Bool
  at_ : Int
  keep : Int
  chg : Nat
deriving DecidableEq
def usedF (l : List Fl) : Nat := (l.map (fun f => f.byt.length)).sum
def hasF (l : List Fl) (n : Txt) : Bool := l.any (fun f => f.name == n)
def bytF (l : List Fl) (n : Txt) : Txt := ((l.find? (fun f => f.name == n)).map (fun f => f.byt)).getD []
def waitF (l : List Fl) (n : Txt) : Nat := ((l.find? (fun f => f.name == n)).map (fun f => f.byt.length - f.syn)).getD 0
def okC (c : UInt8) : Bool := decide (33 ≤ c.toNat) && decide (c.toNat ≤ 126)
def okN (n : Txt) : Bool := decide (1 ≤ n.length) && decide (n.length ≤ 32) && n.all okC
def stayF (k : Int) (f : Fl) : Nat := f.syn + min k.toNat (f.byt.length - f.syn)
def cutF (k : Int) (f : Fl) : Fl := ⟨f.name, f.byt.take (stayF k f), stayF k f⟩
def failD (k : Int) (S : Dk) : Dk := ⟨S.room, S.fs.map (cutF k), true, 0, 0, S.chg⟩
def tickD (S : Dk) : Dk := ⟨S.room, S.fs, S.off, S.at_, S.keep, S.chg + 1⟩
def putD (S : Dk) (l : List Fl) : Dk := ⟨S.room, l, S.off, S.at_, S.keep, S.chg⟩
def readyE (S : Dk) (n : Txt) : Nat := if S.off then 7 else if okN n then 0 else 2
def findE (S : Dk) (n : Txt) : Nat := if readyE S n ≠ 0 then readyE S n else if hasF S.fs n then 0 else 4
def fullB (S : Dk) (n s : Txt) : Bool := decide (S.room < usedF S.fs + s.length) || (!hasF S.fs n && decide (S.fs.length = 128))
def addL (l : List Fl) (n s : Txt) : List Fl :=
  if hasF l n then l.map (fun f => if f.name == n then ⟨f.name, f.byt ++ s, f.syn⟩ else f) else ⟨n, s, 0⟩ :: l
def setL (l : List Fl) (n : Txt) : List Fl := l.map (fun f => if f.name == n then ⟨f.name, f.byt, f.byt.length⟩ else f)
def delL (l : List Fl) (n : Txt) : List Fl := l.filter (fun f => f.name != n)
def oneL (l : List Fl) (n t : Txt) : List Fl := (l.filter (fun f => f.name == n)).map (fun f => ⟨t, f.byt, f.syn⟩)
def movL (l : List Fl) (n t : Txt) : List Fl := oneL l n t ++ delL (delL l n) t
/-- What comes of a change: l1 ahead of where the power may fail, l2 behind it. -/
def chgD (S : Dk) (l1 l2 : List Fl) : Nat × Dk :=
  if ((S.chg + 1 : Nat) : Int) = S.at_ then (7, failD S.keep (putD (tickD S) l1)) else (0, putD (tickD S) l2)
def appD (S : Dk) (n s : Txt) : Nat × Dk := if readyE S n ≠ 0 then (readyE S n, S) else if fullB S n s then (6, S) else chgD S (addL S.fs n s) (addL S.fs n s)
def synD (S : Dk) (n : Txt) : Nat × Dk := if findE S n ≠ 0 then (findE S n, S) else chgD S S.fs (setL S.fs n)
def renD (S : Dk) (n t : Txt) : Nat × Dk := if readyE S t ≠ 0 then (readyE S t, S) else if findE S n ≠ 0 then (findE S n, S) else chgD S S.fs (movL S.fs n t)
def remD (S : Dk) (n : Txt) : Nat × Dk := if findE S n ≠ 0 then (findE S n, S) else chgD S S.fs (delL S.fs n)
def readD (S : Dk) (n : Txt) : Txt := if findE S n ≠ 0 then [] else bytF S.fs n
def armD (S : Dk) (a k : Int) : Dk := ⟨S.room, S.fs, S.off, a, k, 0⟩
def crashD (S : Dk) (k : Int) : Dk := if S.off then S else failD k S
def startD (S : Dk) : Dk := ⟨S.room, S.fs, false, S.at_, S.keep, S.chg⟩
def newD (r : Nat) : Dk := ⟨r, [], false, 0, 0, 0⟩

/-- What is alike whatever the order that files are told in. -/
def uniq (l : List Fl) : Prop := (l.map (fun f => f.name)).Nodup
theorem used_perm {l m : List Fl} (h : l.Perm m) : usedF l = usedF m := (h.map _).sum_nat
theorem has_perm {l m : List Fl} (h : l.Perm m) (n : Txt) : hasF l n = hasF m n := by
  rw [Bool.eq_iff_iff, hasF, hasF, List.any_eq_true, List.any_eq_true]
  exact ⟨fun ⟨x, hx, e⟩ => ⟨x, h.mem_iff.1 hx, e⟩, fun ⟨x, hx, e⟩ => ⟨x, h.mem_iff.2 hx, e⟩⟩
theorem used_cons (f : Fl) (l : List Fl) : usedF (f :: l) = f.byt.length + usedF l := by simp [usedF]
theorem used_append (l m : List Fl) : usedF (l ++ m) = usedF l + usedF m := by simp [usedF]
end Go.Proofs.Ytdjgjmbgcjhnpaa
