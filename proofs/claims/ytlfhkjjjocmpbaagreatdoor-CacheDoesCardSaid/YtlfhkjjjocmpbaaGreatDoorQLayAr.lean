import Derived.Test.YtlfhkjjjocmpbaaGreatDoorSx
import Derived.Test.YtlfhkjjjocmpbaaGreatDoorLayBase
import Derived.Deep.MidRow
import Derived.Deep.QuietTactic
import Derived.BigQuiet
import Derived.Laws.CopyOwn
import Derived.Laws.MakeOwn

namespace Go.Proofs.YtlfhkjjjocmpbaaGreatDoor.Ar
open Go Go.RowKit

structure Wy where
 st : Int
 ln : Int
 wd : Wd
 lk : Bool
def y0 : Wy := ⟨0, 0, d0, false⟩
abbrev ycells (x : Wy) : Array Value := #[.int .i64 x.st, .int .i64 x.ln, .int .i64 x.wd.w0, .int .i64 x.wd.w1, .int .i64 x.wd.w2, .int .i64 x.wd.w3, .int .i64 x.wd.w4, .int .i64 x.wd.w5, .int .i64 x.wd.w6, .int .i64 x.wd.w7, .bool x.lk]
def yc (x : Wy) : List Value := (ycells x).toList
theorem yc_len (x : Wy) : (yc x).length = 11 := rfl

def tk (x : Wy) : Bool := x.st != 0 || x.lk
def isL (line : Int) (x : Wy) : Bool := x.ln == line && tk x

def soN (c : Cfg) (line : Int) : Nat := (line % c.se).toNat * c.wa.toNat
def pt (c : Cfg) (L : List Wy) (line : Int) : List Wy := (L.drop (soN c line)).take c.wa.toNat

def plc (c : Cfg) (L : List Wy) (line : Int) : Option Nat := if lnOk c line = true then (pt c L line).findIdx? (isL line) else none

def fre (c : Cfg) (L : List Wy) (line : Int) : Option Nat := if lnOk c line = true then (pt c L line).findIdx? (fun x => !tk x) else none
def oi : Option Nat → Int
 | some k => k
 | none => -1

def stOk (s : Int) : Bool := decide (0 ≤ s) && decide (s ≤ 4)
def wOk (c : Cfg) (d : Wd) : Bool := (List.range 8).all fun k => decide ((k : Int) < c.wo) || d.at k == 0
def upd (L : List Wy) (i : Nat) (f : Wy → Wy) : List Wy := match L[i]? with
 | some x => L.set i (f x)
 | none => L
def newY (line : Int) : Wy := ⟨0, line, d0, true⟩
def setY (st : Int) (d : Wd) (x : Wy) : Wy := { x with st := st, wd := if st = 0 then d0 else d }
def lockY (b : Bool) (x : Wy) : Wy := { x with lk := b }
def tkAt (L : List Wy) (i : Nat) : Bool := match L[i]? with
 | some x => tk x
 | none => false

def layP (c : Cfg) (L : List Wy) (line way : Int) : Int × List Wy :=
 if lnOk c line = false ∨ way < 0 ∨ c.wa ≤ way then (1, L)
 else if (plc c L line).isSome = true then (6, L)
 else if tkAt L (soN c line + way.toNat) = true then (4, L)
 else (0, L.set (soN c line + way.toNat) (newY line))
def setP (c : Cfg) (L : List Wy) (line st : Int) (d : Wd) : Int × List Wy := match plc c L line with
 | none => (5, L)
 | some k => if stOk st = true ∧ wOk c d = true then (0, upd L (soN c line + k) (setY st d)) else (1, L)
def lockP (c : Cfg) (L : List Wy) (line : Int) (b : Bool) : Int × List Wy := match plc c L line with
 | none => (5, L)
 | some k => (0, upd L (soN c line + k) (lockY b))

structure Sized (c : Cfg) (L : List Wy) : Prop where
 ok : okC c = true
 len : L.length = c.se.toNat * c.wa.toNat

theorem ok_ways {c : Cfg} (h : okC c = true) : (1 ≤ c.wa ∧ c.wa ≤ 8) ∧ (1 ≤ c.se ∧ c.se ≤ 64) ∧ (1 ≤ c.wo ∧ c.wo ≤ 8) ∧ (1 ≤ c.li ∧ c.li ≤ 1024) := by
 have hp := ok_pows c h
 refine ⟨?_, hp.2.2.1.2, hp.1.2, hp.2.2.2.2⟩
 rw [okC_eq] at h
 simp [inB] at h
 omega
theorem soN_lt {c : Cfg} (h : okC c = true) (line : Int) : (line % c.se).toNat < c.se.toNat ∧ soN c line + c.wa.toNat ≤ c.se.toNat * c.wa.toNat := by
 have hw := ok_ways h
 have h1 := Int.emod_nonneg line (b := c.se) (by omega)
 have h2 := Int.emod_lt_of_pos line (b := c.se) (by omega)
 have h3 : (line % c.se).toNat < c.se.toNat := by omega
 refine ⟨h3, ?_⟩
 have := Nat.mul_le_mul_right c.wa.toNat (show (line % c.se).toNat + 1 ≤ c.se.toNat by omega)
 rw [Nat.add_mul, Nat.one_mul] at this
 exact this
theorem Sized.pt_len {c : Cfg} {L : List Wy} (h : Sized c L) (line : Int) : (pt c L line).length = c.wa.toNat := by
 have := (soN_lt h.ok line).2
 unfold pt
 rw [List.length_take, List.length_drop, h.len]
 omega
theorem Sized.pt_at {c : Cfg} {L : List Wy} (_ : Sized c L) (line : Int) (j : Nat) (hj : j < c.wa.toNat) : (pt c L line)[j]? = L[soN c line + j]? := by
 unfold pt
 rw [List.getElem?_take, if_pos hj, List.getElem?_drop]
theorem Sized.set {c : Cfg} {L : List Wy} (h : Sized c L) (i : Nat) (x : Wy) : Sized c (L.set i x) := ⟨h.ok, by simpa using h.len⟩
theorem Sized.upd {c : Cfg} {L : List Wy} (h : Sized c L) (i : Nat) (f : Wy → Wy) : Sized c (upd L i f) := by
 unfold Go.Proofs.YtlfhkjjjocmpbaaGreatDoor.Ar.upd
 split
 ·exact h.set i _
 ·exact h

theorem Sized.plc_some {c : Cfg} {L : List Wy} (h : Sized c L) {line : Int} {k : Nat} (hp : plc c L line = some k) :
  lnOk c line = true ∧ k < c.wa.toNat ∧ ∃ x, L[soN c line + k]? = some x ∧ isL line x = true := by
 unfold plc at hp
 split at hp
 ·rename_i hl
  obtain ⟨hk, hx, _⟩ := List.findIdx?_eq_some_iff_getElem.1 hp
  have hk' := hk
  rw [h.pt_len] at hk'
  refine ⟨hl, hk', _, ?_, hx⟩
  rw [← h.pt_at line k hk', List.getElem?_eq_getElem hk]
 ·cases hp
theorem Sized.at_some {c : Cfg} {L : List Wy} (h : Sized c L) {line : Int} {j : Nat} (hj : j < c.wa.toNat) : ∃ x, L[soN c line + j]? = some x := by
 have := (soN_lt h.ok line).2
 exact ⟨_, List.getElem?_eq_getElem (by rw [h.len]; omega)⟩
theorem upd_some {L : List Wy} {i : Nat} {x : Wy} (f : Wy → Wy) (h : L[i]? = some x) : upd L i f = L.set i (f x) := by unfold upd; rw [h]
theorem tkAt_some {L : List Wy} {i : Nat} {x : Wy} (h : L[i]? = some x) : tkAt L i = tk x := by unfold tkAt; rw [h]

end Go.Proofs.YtlfhkjjjocmpbaaGreatDoor.Ar

namespace Go.Proofs.YtlfhkjjjocmpbaaGreatDoor.Ar
open Go Go.RowKit

structure Good (c : Cfg) (L : List Wy) : Prop where
 ins : ∀ (i : Nat) (x : Wy), L[i]? = some x → tk x = true → lnOk c x.ln = true ∧ soN c x.ln ≤ i ∧ i < soN c x.ln + c.wa.toNat
 uq : ∀ (i j : Nat) (x y : Wy), L[i]? = some x → L[j]? = some y → tk x = true → tk y = true → x.ln = y.ln → i = j
theorem good_new (c : Cfg) (n : Nat) : Good c (List.replicate n y0) := by
 have h : ∀ (i : Nat) (x : Wy), (List.replicate n y0)[i]? = some x → tk x = true → False := by
  intro i x hx ht
  obtain ⟨hi, rfl⟩ := List.getElem?_eq_some_iff.1 hx
  simp [tk, y0] at ht
 exact ⟨fun i x hx ht => (h i x hx ht).elim, fun i j x y hx _ ht => (h i x hx ht).elim⟩
theorem set_at {L : List Wy} {i j : Nat} {x y : Wy} (h : (L.set i y)[j]? = some x) : (j = i ∧ x = y) ∨ (j ≠ i ∧ L[j]? = some x) := by
 rw [List.getElem?_set] at h
 by_cases e : i = j
 ·rw [if_pos e] at h
  split at h
  ·exact .inl ⟨e.symm, (Option.some.inj h).symm⟩
  ·cases h
 ·rw [if_neg e] at h
  exact .inr ⟨fun e' => e e'.symm, h⟩
theorem Good.same {c : Cfg} {L : List Wy} (h : Good c L) {i : Nat} {x y : Wy} (hx : L[i]? = some x) (ht : tk x = true) (hy : y.ln = x.ln) : Good c (L.set i y) := by
 refine ⟨fun j z hz hz' => ?_, fun j k z u hz hu hz' hu' e => ?_⟩
 ·rcases set_at hz with ⟨rfl, rfl⟩ | ⟨_, hz⟩
  ·rw [hy]
   exact h.ins j x hx ht
  ·exact h.ins j z hz hz'
 ·rcases set_at hz with ⟨rfl, rfl⟩ | ⟨_, hz⟩
  ·rcases set_at hu with ⟨rfl, rfl⟩ | ⟨_, hu⟩
   ·rfl
   ·exact h.uq _ _ x u hx hu ht hu' (hy.symm.trans e)
  ·rcases set_at hu with ⟨e1, e2⟩ | ⟨_, hu⟩
   ·rw [e1]
    exact h.uq _ _ z x hz hx hz' ht (by rw [e, e2, hy])
   ·exact h.uq _ _ z u hz hu hz' hu' e

theorem Sized.none_at {c : Cfg} {L : List Wy} (sz : Sized c L) {line : Int} (hl : lnOk c line = true) (hp : plc c L line = none) {j : Nat} {x : Wy} (h1 : soN c line ≤ j) (h2 : j < soN c line + c.wa.toNat) (hx : L[j]? = some x) : isL line x = false := by
 unfold plc at hp
 rw [if_pos hl, List.findIdx?_eq_none_iff] at hp
 refine hp x ?_
 have := sz.pt_at line (j - soN c line) (by omega)
 rw [show soN c line + (j - soN c line) = j by omega, hx] at this
 exact List.mem_of_getElem? this
theorem isL_iff {line : Int} {x : Wy} : isL line x = true ↔ x.ln = line ∧ tk x = true := by simp [isL]
theorem Good.lay {c : Cfg} {L : List Wy} (h : Good c L) (sz : Sized c L) {line : Int} {k : Nat} (hl : lnOk c line = true) (hk : k < c.wa.toNat) (hp : plc c L line = none) : Good c (L.set (soN c line + k) (newY line)) := by
 have no : ∀ (j : Nat) (z : Wy), L[j]? = some z → tk z = true → z.ln = line → False := by
  intro j z hz ht e
  have hi := h.ins j z hz ht
  rw [e] at hi
  have := sz.none_at hl hp hi.2.1 hi.2.2 hz
  rw [isL_iff.2 ⟨e, ht⟩] at this
  cases this
 refine ⟨fun j z hz hz' => ?_, fun j m z u hz hu hz' hu' e => ?_⟩
 ·rcases set_at hz with ⟨rfl, rfl⟩ | ⟨_, hz⟩
  ·exact ⟨hl, by show soN c line ≤ _; omega, by show _ < soN c line + _; omega⟩
  ·exact h.ins j z hz hz'
 ·rcases set_at hz with ⟨rfl, rfl⟩ | ⟨_, hz⟩
  ·rcases set_at hu with ⟨rfl, rfl⟩ | ⟨_, hu⟩
   ·rfl
   ·exact (no _ u hu hu' e.symm).elim
  ·rcases set_at hu with ⟨rfl, rfl⟩ | ⟨_, hu⟩
   ·exact (no _ z hz hz' e).elim
   ·exact h.uq _ _ z u hz hu hz' hu' e

theorem Good.plc_of {c : Cfg} {L : List Wy} (h : Good c L) (sz : Sized c L) {i : Nat} {x : Wy} (hx : L[i]? = some x) (ht : tk x = true) : plc c L x.ln = some (i - soN c x.ln) := by
 obtain ⟨hl, h1, h2⟩ := h.ins i x hx ht
 rcases hp : plc c L x.ln with _ | k
 ·have := sz.none_at hl hp h1 h2 hx
  rw [isL_iff.2 ⟨rfl, ht⟩] at this
  cases this
 ·obtain ⟨_, hk, y, hy, hy'⟩ := sz.plc_some hp
  obtain ⟨e1, e2⟩ := isL_iff.1 hy'
  have := h.uq _ _ y x hy hx e2 ht e1
  congr 1
  omega

theorem Good.layP {c : Cfg} {L : List Wy} (h : Good c L) (sz : Sized c L) (line way : Int) : Good c (layP c L line way).2 ∧ Sized c (Go.Proofs.YtlfhkjjjocmpbaaGreatDoor.Ar.layP c L line way).2 := by
 unfold Go.Proofs.YtlfhkjjjocmpbaaGreatDoor.Ar.layP
 split
 ·exact ⟨h, sz⟩
 ·rename_i h1
  split
  ·exact ⟨h, sz⟩
  ·rename_i h2
   split
   ·exact ⟨h, sz⟩
   ·have h3 : lnOk c line = true := by simpa using fun e => h1 (.inl e)
    have h4 : ¬ way < 0 := fun e => h1 (.inr (.inl e))
    have h5 : ¬ c.wa ≤ way := fun e => h1 (.inr (.inr e))
    exact ⟨h.lay sz h3 (by omega) (by simpa using h2), sz.set _ _⟩
theorem Good.setP {c : Cfg} {L : List Wy} (h : Good c L) (sz : Sized c L) (line st : Int) (d : Wd) : Good c (setP c L line st d).2 ∧ Sized c (Go.Proofs.YtlfhkjjjocmpbaaGreatDoor.Ar.setP c L line st d).2 := by
 unfold Go.Proofs.YtlfhkjjjocmpbaaGreatDoor.Ar.setP
 rcases hp : plc c L line with _ | k
 ·exact ⟨h, sz⟩
 ·obtain ⟨_, hk, y, hy, hy'⟩ := sz.plc_some hp
  show Good c (if _ then _ else _ : Int × List Wy).2 ∧ Sized c (if _ then _ else _ : Int × List Wy).2
  split
  ·exact ⟨by rw [show ((0 : Int), upd L (soN c line + k) (setY st d)).2 = upd L (soN c line + k) (setY st d) from rfl, upd_some _ hy]; exact h.same hy (isL_iff.1 hy').2 rfl, sz.upd _ _⟩
  ·exact ⟨h, sz⟩
theorem Good.lockP {c : Cfg} {L : List Wy} (h : Good c L) (sz : Sized c L) (line : Int) (b : Bool) : Good c (lockP c L line b).2 ∧ Sized c (Go.Proofs.YtlfhkjjjocmpbaaGreatDoor.Ar.lockP c L line b).2 := by
 unfold Go.Proofs.YtlfhkjjjocmpbaaGreatDoor.Ar.lockP
 rcases hp : plc c L line with _ | k
 ·exact ⟨h, sz⟩
 ·obtain ⟨_, hk, y, hy, hy'⟩ := sz.plc_some hp
  show Good c (upd L (soN c line + k) (lockY b)) ∧ Sized c (upd L (soN c line + k) (lockY b))
  exact ⟨by rw [upd_some _ hy]; exact h.same hy (isL_iff.1 hy').2 rfl, sz.upd _ _⟩

def fnd (c : Cfg) (L : List Wy) (line : Int) : Wy × Int × Bool := match plc c L line with
 | none => (y0, 0, false)
 | some k => match L[soN c line + k]? with
  | some x => (x, k, true)
  | none => (y0, 0, false)
theorem fnd_none {c : Cfg} {L : List Wy} {line : Int} (h : plc c L line = none) : fnd c L line = (y0, 0, false) := by unfold fnd; rw [h]
theorem fnd_some {c : Cfg} {L : List Wy} {line : Int} {k : Nat} {x : Wy} (h : plc c L line = some k) (hx : L[soN c line + k]? = some x) : fnd c L line = (x, (k : Int), true) := by unfold fnd; rw [h]; simp only [hx]

structure Ao where
 k : Int
 ln : Int
 n : Int
 wd : Wd
def doP (c : Cfg) (L : List Wy) (x : Ao) : Int × List Wy :=
 if x.k = 0 then layP c L x.ln x.n else if x.k = 1 then setP c L x.ln x.n x.wd else if x.k = 2 then lockP c L x.ln (x.n != 0) else (0, L)
theorem Good.doP {c : Cfg} {L : List Wy} (h : Good c L) (sz : Sized c L) (x : Ao) : Good c (doP c L x).2 ∧ Sized c (Go.Proofs.YtlfhkjjjocmpbaaGreatDoor.Ar.doP c L x).2 := by
 unfold Go.Proofs.YtlfhkjjjocmpbaaGreatDoor.Ar.doP
 split
 ·exact h.layP sz _ _
 ·split
  ·exact h.setP sz _ _ _
  ·split
   ·exact h.lockP sz _ _
   ·exact ⟨h, sz⟩
def plcR (L : List Wy) (line : Int) : Option Nat := L.findIdx? (isL line)
theorem Good.plcR {c : Cfg} {L : List Wy} (g : Good c L) (sz : Sized c L) (line : Int) : plcR L line = (plc c L line).map (soN c line + ·) := by
 unfold Go.Proofs.YtlfhkjjjocmpbaaGreatDoor.Ar.plcR
 rcases hp : plc c L line with _ | k
 ·show List.findIdx? (isL line) L = none
  rw [List.findIdx?_eq_none_iff]
  intro x hx
  obtain ⟨j, hj, rfl⟩ := List.getElem_of_mem hx
  rcases Bool.eq_false_or_eq_true (isL line L[j]) with h' | h'
  ·obtain ⟨e1, e2⟩ := isL_iff.1 h'
   have := g.plc_of sz (List.getElem?_eq_getElem hj) e2
   rw [e1, hp] at this
   cases this
  ·exact h'
 ·obtain ⟨_, hk, y, hy, hy'⟩ := sz.plc_some hp
  obtain ⟨e1, e2⟩ := isL_iff.1 hy'
  obtain ⟨hi, hy2⟩ := List.getElem?_eq_some_iff.1 hy
  show List.findIdx? (isL line) L = some (soN c line + k)
  rw [List.findIdx?_eq_some_iff_getElem]
  refine ⟨hi, by rw [hy2]; exact hy', fun j hj h' => ?_⟩
  obtain ⟨e3, e4⟩ := isL_iff.1 h'
  have := g.uq _ _ _ _ (List.getElem?_eq_getElem (by omega)) hy e4 e2 (e3.trans e1.symm)
  omega
end Go.Proofs.YtlfhkjjjocmpbaaGreatDoor.Ar

namespace Go.Proofs.YtlfhkjjjocmpbaaGreatDoor.Ar
open Go Go.RowKit

theorem below_setRow {B : Nat} {w w' : World} (h : Below B w w') {g : Nat} (hg : B ≤ g) (cs : Array Value) : Below B w (w'.setRow g cs) :=
 h.trans ⟨rfl, rfl, rfl, by simp, fun k hk => setRow_other w' g k cs (by omega)⟩

def cellsOf {α : Type} (f : α → List Value) (l : List α) : List Value := l.flatMap f
theorem cellsOf_len {α : Type} {f : α → List Value} {sz : Nat} (hf : ∀ x, (f x).length = sz) (l : List α) : (cellsOf f l).length = l.length * sz := by
 induction l with
 | nil => simp [cellsOf]
 | cons x l ih =>
  have e : cellsOf f (x :: l) = f x ++ cellsOf f l := rfl
  rw [e, List.length_append, ih, hf, List.length_cons, Nat.add_mul, Nat.one_mul, Nat.add_comm]
theorem cellsOf_append {α : Type} (f : α → List Value) (l m : List α) : cellsOf f (l ++ m) = cellsOf f l ++ cellsOf f m := by simp [cellsOf]
theorem cellsOf_take {α : Type} {f : α → List Value} {sz : Nat} (hf : ∀ x, (f x).length = sz) (l : List α) (i : Nat) (h : i ≤ l.length) : (cellsOf f l).take (i * sz) = cellsOf f (l.take i) := by
 have e : cellsOf f l = cellsOf f (l.take i) ++ cellsOf f (l.drop i) := by rw [← cellsOf_append, List.take_append_drop]
 have hl : (cellsOf f (l.take i)).length = i * sz := by rw [cellsOf_len hf, List.length_take, Nat.min_eq_left h]
 rw [e, ← hl, List.take_left']
 rfl
theorem cellsOf_drop {α : Type} {f : α → List Value} {sz : Nat} (hf : ∀ x, (f x).length = sz) (l : List α) (i : Nat) (h : i ≤ l.length) : (cellsOf f l).drop (i * sz) = cellsOf f (l.drop i) := by
 have e : cellsOf f l = cellsOf f (l.take i) ++ cellsOf f (l.drop i) := by rw [← cellsOf_append, List.take_append_drop]
 have hl : (cellsOf f (l.take i)).length = i * sz := by rw [cellsOf_len hf, List.length_take, Nat.min_eq_left h]
 rw [e, ← hl, List.drop_left']
 rfl
theorem cellsOf_at {α : Type} {f : α → List Value} {sz : Nat} (hf : ∀ x, (f x).length = sz) (l : List α) (i j : Nat) (h : i < l.length) (hj : j < sz) : (cellsOf f l)[i * sz + j]? = (f l[i])[j]? := by
 have e : (cellsOf f l).drop (i * sz) = f l[i] ++ cellsOf f (l.drop (i + 1)) := by
  rw [cellsOf_drop hf l i (by omega), List.drop_eq_getElem_cons h]
  rfl
 rw [← List.getElem?_drop, e, List.getElem?_append_left (by rw [hf]; exact hj)]

def WysIn (w : World) (g o : Nat) (l : List Wy) : Prop := ∀ i x, l[i]? = some x → w.rangeAt g (o + i * 11) (yc x)
theorem WysIn.below {w w' : World} {g o : Nat} {l : List Wy} (h : WysIn w g o l) (hg : g < w.heap.size) (hb : Below w.heap.size w w') : WysIn w' g o l :=
 fun i x hx j v hv => (hb.cell (p := ⟨g, o + i * 11 + j, none⟩) hg).trans (h i x hx j v hv)

abbrev acells (c : Cfg) (g n : Nat) : Array Value := #[.int .i64 c.co, .int .i64 c.ho, .int .i64 c.se, .int .i64 c.wa, .int .i64 c.wo, .int .i64 c.li, .int .i64 c.po, .int .i64 c.ms, .int .i64 c.bu, .int .i64 c.wb, .int .i64 c.r0, .int .i64 c.r1, .int .i64 c.r2, .slice (some ⟨g, 0, none⟩) n n]

structure Ar (w : World) (b g : Nat) (c : Cfg) (L : List Wy) : Prop where
 hd : ∀ o, w.cell? ⟨b, o, none⟩ = (acells c g L.length)[o]?
 bl : b < w.heap.size
 row : ∀ o, w.cell? ⟨g, o, none⟩ = (cellsOf yc L)[o]?
 fz : ∀ o, w.frozen? ⟨g, o, none⟩ = false
 gl : g < w.heap.size
 ne : b ≠ g
 sz : Sized c L
 fits : c.fits
theorem Ar.keep {w w' : World} {b g : Nat} {c : Cfg} {L : List Wy} (h : Ar w b g c L) (hs : w.heap.size ≤ w'.heap.size) (h1 : w'.heap[b]? = w.heap[b]?) (h2 : w'.heap[g]? = w.heap[g]?) : Ar w' b g c L :=
   ⟨fun o => (World.cell?_of_block (a := ⟨b, o, none⟩) h1).trans (h.hd o), Nat.lt_of_lt_of_le h.bl hs, fun o => (World.cell?_of_block (a := ⟨g, o, none⟩) h2).trans (h.row o), fun o => (World.frozen?_of_block (a := ⟨g, o, none⟩) h2).trans (h.fz o), Nat.lt_of_lt_of_le h.gl hs, h.ne, h.sz, h.fits⟩
theorem Ar.below {w w' : World} {b g : Nat} {c : Cfg} {L : List Wy} (h : Ar w b g c L) (hb : Below w.heap.size w w') : Ar w' b g c L := h.keep hb.size (hb.block b h.bl) (hb.block g h.gl)
theorem Ar.ways {w : World} {b g : Nat} {c : Cfg} {L : List Wy} (h : Ar w b g c L) : WysIn w g 0 L := by
 intro i x hx j v hv
 obtain ⟨hi, rfl⟩ := List.getElem?_eq_some_iff.1 hx
 have hj : j < 11 := by
  have := (List.getElem?_eq_some_iff.1 hv).1
  rwa [yc_len] at this
 rw [Nat.zero_add, h.row (i * 11 + j), cellsOf_at yc_len L i j hi hj]
 exact hv

theorem Ar.part {w : World} {b g : Nat} {c : Cfg} {L : List Wy} (h : Ar w b g c L) (line : Int) : WysIn w g (soN c line * 11) (pt c L line) := by
 intro i x hx
 have hi : i < c.wa.toNat := by
  have := (List.getElem?_eq_some_iff.1 hx).1
  rwa [h.sz.pt_len] at this
 rw [h.sz.pt_at line i hi] at hx
 have := h.ways _ x hx
 rwa [Nat.zero_add, Nat.add_mul] at this

structure TurnG (g : Nat) (w w' : World) : Prop where
 os : w'.os = w.os
 tape : w'.tape = w.tape
 output : w'.output = w.output
 size : w.heap.size ≤ w'.heap.size
 other : ∀ k, k < w.heap.size → k ≠ g → w'.heap[k]? = w.heap[k]?
theorem TurnG.of_below {g : Nat} {w w' : World} (h : Below w.heap.size w w') : TurnG g w w' := ⟨h.os, h.tape, h.output, h.size, fun k hk _ => h.block k hk⟩
theorem TurnG.trans {g : Nat} {w w1 w2 : World} (h : TurnG g w w1) (k : TurnG g w1 w2) : TurnG g w w2 :=
   ⟨k.os.trans h.os, k.tape.trans h.tape, k.output.trans h.output, Nat.le_trans h.size k.size, fun i hi h1 => (k.other i (Nat.lt_of_lt_of_le hi h.size) h1).trans (h.other i hi h1)⟩
theorem TurnG.below {g B : Nat} {w w' : World} (h : TurnG g w w') (hg : B ≤ g) (hB : B ≤ w.heap.size) : Below B w w' := ⟨h.os, h.tape, h.output, h.size, fun k hk => h.other k (by omega) (by omega)⟩
theorem Ar.turn {w w' : World} {b g g' : Nat} {c : Cfg} {L : List Wy} (h : Ar w b g c L) (ht : TurnG g' w w') (h1 : b ≠ g') (h2 : g ≠ g') : Ar w' b g c L :=
 h.keep ht.size (ht.other b h.bl h1) (ht.other g h.gl h2)

theorem taken_any (x : Wy) (w : World) :
  Calls Tryz.prog 119 #[.agg (ycells x)] w fun e w' => e = .returned (.bool (tk x)) ∧ Below w.heap.size w w' := by
 have hb : Below w.heap.size w (w.alloc (.cells (ycells x) 66)) := (Below.refl _ _).alloc (Nat.le_refl _) _
 rcases Bool.eq_false_or_eq_true (x.st != 0) with h | h
 ·have HT : Hid (tk x = true) := Lib.hid (by simp [tk, h])
  go_enter Tryz.func119, Tryz.ntmps119
  go_wp2
  go_ret
  exact ⟨ret_bool HT.out.symm, hb⟩
 ·have HT : Hid (tk x = x.lk) := Lib.hid (by simp [tk, h])
  go_enter Tryz.func119, Tryz.ntmps119
  go_wp2
  go_ret
  exact ⟨ret_bool HT.out.symm, hb⟩

theorem isState_any (s : Int) (w : World) :
  Calls Tryz.prog 100 #[.int .i64 s] w fun e w' => e = .returned (.bool (stOk s)) ∧ w = w' := by
 go_enter Tryz.func100, Tryz.ntmps100
 go_wp2
 all_goals
  go_ret
  refine ⟨ret_bool ?_, rfl⟩
  rw [Bool.eq_iff_iff]
  simp [stOk] at *
  omega

theorem isIt_any (x : Wy) (p : Addr) (line : Int) (w : World) (hp : w.cell? p = some (.int .i64 line)) :
  Calls Tryz.prog 132 #[.agg (ycells x), .pointer (some p)] w fun e w' => e = .returned (.bool (isL line x)) ∧ Below w.heap.size w w' := by
 have hp2 : ∀ o, (w.alloc o).cell? p = some (.int .i64 line) := fun o => Lib.cell?_alloc_some o hp
 rcases Bool.eq_false_or_eq_true (x.ln == line) with h | h
 ·have HT : Hid (isL line x = tk x) := Lib.hid (by simp [isL, h])
  go_enter Tryz.func132, Tryz.ntmps132
  go_wp2_with (go_at_call 119; refine (taken_any x _).mono ?_; rintro e w1 ⟨rfl, hb1⟩)
  go_ret
  exact ⟨ret_bool HT.out.symm, bbox hb1⟩
 ·have HT : Hid (isL line x = false) := Lib.hid (by simp [isL, h])
  go_enter Tryz.func132, Tryz.ntmps132
  go_wp2_with (go_at_call 119; refine (taken_any x _).mono ?_; rintro e w1 ⟨rfl, hb1⟩)
  go_ret
  exact ⟨ret_bool HT.out.symm, (Below.refl _ _).alloc (Nat.le_refl _) _⟩

end Go.Proofs.YtlfhkjjjocmpbaaGreatDoor.Ar

namespace Go.Proofs.YtlfhkjjjocmpbaaGreatDoor.Ar
open Go Go.RowKit

theorem find_none {p : Wy → Bool} {l : List Wy} (h : ∀ (j : Nat) (x : Wy), l[j]? = some x → p x = false) : l.findIdx? p = none := by
 rw [List.findIdx?_eq_none_iff]
 intro x hx
 obtain ⟨j, hj, rfl⟩ := List.getElem_of_mem hx
 exact h j _ (List.getElem?_eq_getElem hj)
theorem find_some {p : Wy → Bool} {l : List Wy} {k : Nat} {x : Wy} (hk : l[k]? = some x) (hx : p x = true) (h : ∀ (j : Nat) (y : Wy), j < k → l[j]? = some y → p y = false) : l.findIdx? p = some k := by
 obtain ⟨hl, rfl⟩ := List.getElem?_eq_some_iff.1 hk
 rw [List.findIdx?_eq_some_iff_getElem]
 refine ⟨hl, hx, fun j hj => ?_⟩
 have := h j _ hj (List.getElem?_eq_getElem (by omega))
 simpa using this

abbrev isF (p : Addr) : Value := .func (.func 132) #[] #[.pointer (some p)]

set_option maxHeartbeats 1000000 in

theorem indexFunc_any (g o : Nat) (l : List Wy) (cp : Nat) (p : Addr) (line : Int) (w : World) (hl : WysIn w g o l) (hg : g < w.heap.size) (hn : l.length ≤ 5000) (hp : w.cell? p = some (.int .i64 line)) (hpb : p.block < w.heap.size) :
  Calls Tryz.prog 131 #[.slice (some ⟨g, o, none⟩) l.length cp, isF p] w fun e w' => e = .returned (.int .i64 (oi (l.findIdx? (isL line)))) ∧ Below w.heap.size w w' := by
 have HL := Lib.hid hl
 have HP := Lib.hid hp
 clear hl hp
 go_enter Tryz.func131, Tryz.ntmps131
 go_wp2
 go_loopw [8] (fun i wr => ∃ k : Nat, k ≤ l.length ∧ i = .int .i64 k ∧ Hid (∀ (j : Nat) (x : Wy), j < k → l[j]? = some x → isL line x = false) ∧ Below w.heap.size w wr) (fun i _ => l.length - (intOf i).toNat)
 case atStart => exact ⟨0, by omega, rfl, Lib.hid (fun j x hj => by omega), Below.refl _ _⟩
 case round =>
  obtain ⟨k, hk, rfl, HJ, hb⟩ := hrel
  by_cases hlt : k < l.length
  ·obtain ⟨x, hx⟩ : ∃ x, l[k]? = some x := ⟨_, List.getElem?_eq_getElem hlt⟩
   have HR := Lib.hid (HL.out.below hg hb k x hx)
   have HC := Lib.hid ((hb.cell hpb).trans HP.out)
   have HX := Lib.hid hx
   clear hx
   go_wp2_with (first
    | ((with_reducible refine wpList_load_mid (op := ⟨some 15, _, _, _, _, _⟩) rfl 66 (.tmp 14) rfl g (o + k * 11) ?lx (yc x) _ ?lc Tryz.underlying66 ?ld ?li ?_); (case lx => rfl); (case lc => exact HR.out); (case ld => rfl); (case li => kernel_rfl))
    | (go_at_call 132; refine (isIt_any x p line _ HC.out).mono ?_; rintro e w1 ⟨rfl, hb1⟩))
   ·have h : isL line x = true := by assumption
    go_ret
    exact ⟨ret_int (by rw [find_some HX.out h HJ.out]; rfl), bstep hb hb1⟩
   ·have h : isL line x = false := by assumption
    have HK : Hid (∀ (j : Nat) (y : Wy), j < k + 1 → l[j]? = some y → isL line y = false) := Lib.hid (fun j y hj hy => by
     by_cases e : j = k
     ·subst e
      obtain rfl : x = y := Option.some.inj (HX.out.symm.trans hy)
      exact h
     ·exact HJ.out j y (by omega) hy)
    have hB := bstep hb hb1
    clear h
    go_roundw
    case rel => exact ⟨k + 1, by omega, by go_num, HK, hB⟩
    case measure => simp [intOf]; omega
  ·have HK : Hid (oi (l.findIdx? (isL line)) = -1) := Lib.hid (by rw [find_none (fun j x hx => HJ.out j x (by have := (List.getElem?_eq_some_iff.1 hx).1; omega) hx)]; rfl)
   go_wp2
   go_ret
   exact ⟨ret_int HK.out.symm, hb⟩
theorem indexFunc_nil (cp : Nat) (p : Addr) (w : World) :
  Calls Tryz.prog 131 #[.slice none 0 cp, isF p] w fun e w' => e = .returned (.int .i64 (-1)) ∧ w = w' := by
 go_enter Tryz.func131, Tryz.ntmps131
 go_wp2
 go_loopw [8] (fun i wr => i = .int .i64 0 ∧ w = wr) (fun i _ => 0)
 case atStart => exact ⟨rfl, rfl⟩
 case round =>
  obtain ⟨rfl, rfl⟩ := hrel
  go_wp2
  go_ret
  exact ⟨rfl, rfl⟩

theorem placeOf_any (g o : Nat) (l : List Wy) (cp : Nat) (line : Int) (w : World) (hl : WysIn w g o l) (hg : g < w.heap.size) (hn : l.length ≤ 5000) :
  Calls Tryz.prog 92 #[.slice (some ⟨g, o, none⟩) l.length cp, .int .i64 line] w fun e w' => e = .returned (.int .i64 (oi (l.findIdx? (isL line)))) ∧ Below w.heap.size w w' := by
 have hmf : ∀ (fn : Fn) (first cap : Array Value) (w : World), (Instr.makeFunc fn first cap).run Tryz.prog w = .ok (.func fn first cap) w := fun _ _ _ _ => rfl
 have hb0 : Below w.heap.size w (w.alloc (.cells #[.int .i64 line] 3)) := (Below.refl _ _).alloc (Nat.le_refl _) _
 have HC := Lib.hid (indexFunc_any g o l cp ⟨w.heap.size, 0, none⟩ line (w.alloc (.cells #[.int .i64 line] 3)) (hl.below hg hb0) (by simp; omega) hn (by simp) (by simp))
 clear hl hb0
 go_enter Tryz.func92, Tryz.ntmps92
 go_wp2_with (go_at_call 131; refine HC.out.mono ?_; rintro e w1 ⟨rfl, hb1⟩)
 go_ret
 exact ⟨rfl, bbox hb1⟩
theorem placeOf_nil (cp : Nat) (line : Int) (w : World) :
  Calls Tryz.prog 92 #[.slice none 0 cp, .int .i64 line] w fun e w' => e = .returned (.int .i64 (-1)) ∧ Below w.heap.size w w' := by
 have hmf : ∀ (fn : Fn) (first cap : Array Value) (w : World), (Instr.makeFunc fn first cap).run Tryz.prog w = .ok (.func fn first cap) w := fun _ _ _ _ => rfl
 go_enter Tryz.func92, Tryz.ntmps92
 go_wp2_with (go_at_call 131; refine (indexFunc_nil cp _ _).mono ?_; rintro e w1 ⟨rfl, rfl⟩)
 go_ret
 exact ⟨rfl, (Below.refl _ _).alloc (Nat.le_refl _) _⟩

abbrev sset (c : Cfg) (g s : Nat) : Value := .slice (some ⟨g, s * c.wa.toNat * 11, none⟩) c.wa.toNat c.wa.toNat
theorem wrap_small (x : Int) (h0 : 0 ≤ x) (h1 : x ≤ 1000000) : wrap64 x = x := by unfold wrap64; omega
theorem part_math (m W n : Nat) (hm : m + W ≤ n) (hn : n ≤ 512) (hW : 1 ≤ W) : wrap64 (m : Int) = m ∧ wrap64 ((m : Int) + W) = (m : Int) + W ∧ ((m : Int) + W).toNat = m + W ∧ (0 : Int) ≤ (m : Int) + W ∧ (m : Int) + W ≤ n ∧ ¬ m + W = m ∧ m + W - m = W := by
 refine ⟨wrap_small _ (by omega) (by omega), wrap_small _ (by omega) (by omega), ?_, ?_, ?_, ?_, ?_⟩ <;> omega
theorem part_yes {w : World} {b g : Nat} {c : Cfg} {L : List Wy} (h : Ar w b g c L) (s : Nat) (hs : (s : Int) < c.se) :
  Calls Tryz.prog 102 #[.pointer (some ⟨b, 0, none⟩), .int .i64 s] w fun e w' => e = .returned (sset c g s) ∧ w = w' := by
 have hw := ok_ways h.sz.ok
 have h2 := h.hd 2
 have h3 := h.hd 3
 have h13 := h.hd 13
 simp at h2 h3 h13
 have hlen := h.sz.len
 have hm := Nat.mul_le_mul_right c.wa.toNat (show s + 1 ≤ c.se.toNat by omega)
 rw [Nat.add_mul, Nat.one_mul, ← hlen] at hm
 obtain ⟨W, hW⟩ : ∃ W : Nat, c.wa = W := ⟨c.wa.toNat, by omega⟩
 have hL : L.length ≤ 512 := by
  have := Nat.mul_le_mul (show c.se.toNat ≤ 64 by omega) (show c.wa.toNat ≤ 8 by omega)
  rw [hlen]
  omega
 unfold sset
 rw [hW] at h3 hm hw ⊢
 simp only [Int.toNat_natCast] at hm ⊢
 obtain ⟨m, hsm⟩ : ∃ m, m = s * W := ⟨_, rfl⟩
 rw [← hsm] at hm ⊢
 have e1 : (s : Int) * (W : Int) = (m : Int) := by rw [hsm]; simp
 obtain ⟨e2, e3, e4, k3, k4, k5, k6⟩ := part_math m W L.length hm hL (by omega)
 have k1 : ¬ (s : Int) < 0 := by omega
 have k2 : ¬ c.se ≤ (s : Int) := by omega
 clear hsm hlen hW hw h hL hm
 go_enter Tryz.func102, Tryz.ntmps102
 go_wp2
 go_ret
 exact ⟨rfl, rfl⟩
theorem part_no {w : World} {b g : Nat} {c : Cfg} {L : List Wy} (h : Ar w b g c L) (s : Int) (hs : s < 0 ∨ c.se ≤ s) :
  Calls Tryz.prog 102 #[.pointer (some ⟨b, 0, none⟩), .int .i64 s] w fun e w' => e = .returned (.slice none 0 0) ∧ w = w' := by
 have h2 := h.hd 2
 simp at h2
 clear h
 rcases hs with hs | hs
 ·go_enter Tryz.func102, Tryz.ntmps102
  go_wp2
  go_ret
  exact ⟨rfl, rfl⟩
 ·go_enter Tryz.func102, Tryz.ntmps102
  go_wp2
  all_goals go_ret
  all_goals exact ⟨rfl, rfl⟩

abbrev lset (c : Cfg) (g : Nat) (line : Int) : Value := .slice (some ⟨g, soN c line * 11, none⟩) c.wa.toNat c.wa.toNat
set_option maxHeartbeats 1000000 in
theorem setOf_yes {w : World} {b g : Nat} {c : Cfg} {L : List Wy} (h : Ar w b g c L) (hT : Tb w) (line : Int) (hl : lnOk c line = true) :
  Calls Tryz.prog 91 #[.pointer (some ⟨b, 0, none⟩), .int .i64 line] w fun e w' => e = .returned (lset c g line) ∧ Below w.heap.size w w' := by
 have hw := ok_ways h.sz.ok
 have h1 := Int.emod_nonneg line (b := c.se) (by omega)
 have h2 := Int.emod_lt_of_pos line (b := c.se) (by omega)
 have e1 : lnS c line = ((line % c.se).toNat : Int) := by unfold lnS; rw [if_pos hl]; omega
 have e2 : lnE c line = 0 := by unfold lnE; rw [if_pos hl]
 have HC := Lib.hid (line_any c line w h.fits hT)
 rw [e1, e2] at HC
 have HP := Lib.hid (fun w1 (hb : Below w.heap.size w w1) => part_yes (h.below hb) (line % c.se).toNat (by omega))
 have hcl := h.hd
 unfold lset soN
 generalize (line % c.se).toNat = s at HC HP ⊢
 generalize lnH c line = xh at HC
 generalize lnT c line = xt at HC
 clear hw h1 h2 e1 e2 h hl hT
 go_enter Tryz.func91, Tryz.ntmps91
 go_wp2_with (first
  | (go_at_call 104; refine HC.out.mono ?_; rintro e w1 ⟨rfl, hb1⟩)
  | (go_at_call 102; refine (HP.out _ hb1).mono ?_; rintro e w2 ⟨rfl, rfl⟩))
 go_ret
 exact ⟨rfl, hb1⟩
theorem setOf_no {w : World} {b g : Nat} {c : Cfg} {L : List Wy} (h : Ar w b g c L) (hT : Tb w) (line : Int) (hl : lnOk c line = false) :
  Calls Tryz.prog 91 #[.pointer (some ⟨b, 0, none⟩), .int .i64 line] w fun e w' => e = .returned (.slice none 0 0) ∧ Below w.heap.size w w' := by
 have e2 : lnE c line = 1 := by unfold lnE; rw [if_neg (by simp [hl])]
 have HC := Lib.hid (line_any c line w h.fits hT)
 rw [e2] at HC
 have hcl := h.hd
 generalize lnH c line = xh at HC
 generalize lnT c line = xt at HC
 generalize lnS c line = xs at HC
 clear e2 h hl hT
 go_enter Tryz.func91, Tryz.ntmps91
 go_wp2_with (go_at_call 104; refine HC.out.mono ?_; rintro e w1 ⟨rfl, hb1⟩)
 go_ret
 exact ⟨rfl, hb1⟩
theorem placeOf_at {w : World} {b g : Nat} {c : Cfg} {L : List Wy} (h : Ar w b g c L) (line : Int) (hl : lnOk c line = true) :
  Calls Tryz.prog 92 #[lset c g line, .int .i64 line] w fun e w' => e = .returned (.int .i64 (oi (plc c L line))) ∧ Below w.heap.size w w' := by
 have hp : plc c L line = (pt c L line).findIdx? (isL line) := by unfold plc; rw [if_pos hl]
 have hw := ok_ways h.sz.ok
 rw [hp]
 have hlen := h.sz.pt_len line
 have := placeOf_any g (soN c line * 11) (pt c L line) c.wa.toNat line w (h.part line) h.gl (by omega)
 rw [hlen] at this
 exact this

end Go.Proofs.YtlfhkjjjocmpbaaGreatDoor.Ar

namespace Go.Proofs.YtlfhkjjjocmpbaaGreatDoor.Ar
open Go Go.RowKit

theorem nat_neq (k : Nat) : ((k : Int) == -1) = false := by simp
theorem nat_neq2 (k : Nat) : ((k : Int) != -1) = true := by simp

set_option maxHeartbeats 1000000 in
theorem wayOf_yes {w : World} {b g : Nat} {c : Cfg} {L : List Wy} (h : Ar w b g c L) (hT : Tb w) (line : Int) (k : Nat) (hp : plc c L line = some k) :
  Calls Tryz.prog 99 #[.pointer (some ⟨b, 0, none⟩), .int .i64 line] w fun e w' => e = .returned (.tuple #[.pointer (some ⟨g, soN c line * 11 + k * 11, none⟩), .bool true]) ∧ Below w.heap.size w w' := by
 obtain ⟨hl, hk, -⟩ := h.sz.plc_some hp
 have HS := Lib.hid (setOf_yes h hT line hl)
 have HP := Lib.hid (fun w1 (hb : Below w.heap.size w w1) => placeOf_at (h.below hb) line hl)
 rw [hp] at HP
 have hn := nat_neq k
 unfold lset at HS HP
 generalize soN c line = so at *
 generalize c.wa.toNat = W at *
 clear h hT hl hp
 go_enter Tryz.func99, Tryz.ntmps99
 go_wp2_with (first
  | (go_at_call 91; refine HS.out.mono ?_; rintro e w1 ⟨rfl, hb1⟩)
  | (go_at_call 92; refine (HP.out _ hb1).mono ?_; rintro e w2 ⟨rfl, hb2⟩; simp only [oi]))
 go_ret2
 exact ⟨rfl, bstep hb1 hb2⟩
theorem wayOf_no {w : World} {b g : Nat} {c : Cfg} {L : List Wy} (h : Ar w b g c L) (hT : Tb w) (line : Int) (hp : plc c L line = none) :
  Calls Tryz.prog 99 #[.pointer (some ⟨b, 0, none⟩), .int .i64 line] w fun e w' => e = .returned (.tuple #[.pointer none, .bool false]) ∧ Below w.heap.size w w' := by
 rcases Bool.eq_false_or_eq_true (lnOk c line) with hl | hl
 ·have HS := Lib.hid (setOf_yes h hT line hl)
  have HP := Lib.hid (fun w1 (hb : Below w.heap.size w w1) => placeOf_at (h.below hb) line hl)
  rw [hp] at HP
  unfold lset at HS HP
  generalize soN c line = so at *
  generalize c.wa.toNat = W at *
  clear h hT hl hp
  go_enter Tryz.func99, Tryz.ntmps99
  go_wp2_with (first
   | (go_at_call 91; refine HS.out.mono ?_; rintro e w1 ⟨rfl, hb1⟩)
   | (go_at_call 92; refine (HP.out _ hb1).mono ?_; rintro e w2 ⟨rfl, hb2⟩; simp only [oi]))
  go_ret2
  exact ⟨rfl, bstep hb1 hb2⟩
 ·have HS := Lib.hid (setOf_no h hT line hl)
  clear h hT hl hp
  go_enter Tryz.func99, Tryz.ntmps99
  go_wp2_with (first
   | (go_at_call 91; refine HS.out.mono ?_; rintro e w1 ⟨rfl, hb1⟩)
   | (go_at_call 92; refine (placeOf_nil _ _ _).mono ?_; rintro e w2 ⟨rfl, hb2⟩))
  go_ret2
  exact ⟨rfl, bstep hb1 hb2⟩

theorem results_cell_three {P : Program} {fn : Func} {p q r : Tmp} {ty : TypeId} (h : fn.results = #[.cell p ty, .tmp q, .tmp r]) (tmps : Array Value) (w : World) (g : Nat) (t : TypeId) (cs : Array Value) (fr : Nat × Nat) (d : TypeDesc)
  (hp : tmps.getD p undef = .pointer (some ⟨g, 0, none⟩)) (hg : w.heap[g]? = some (.cells cs t fr))
  (hu : P.underlying ty = some d) (hd : (match d with | .struct _ | .array _ _ => true | _ => false) = true) (hi : (P.info? ty).map (·.size) = some cs.size) :
  (results fn tmps).run P w = .ok (.tuple #[.agg cs, tmps.getD q undef, tmps.getD r undef]) w := by
 have hp' : tmps[p]?.getD undef = .pointer (some ⟨g, 0, none⟩) := by simpa using hp
 simp [results, h, hp', asAddr, run_loadVar_row w g t ty cs fr d hg hu hd hi]
theorem results_cell_two {P : Program} {fn : Func} {p q : Tmp} {ty : TypeId} (h : fn.results = #[.cell p ty, .tmp q]) (tmps : Array Value) (w : World) (g : Nat) (t : TypeId) (cs : Array Value) (fr : Nat × Nat) (d : TypeDesc)
  (hp : tmps.getD p undef = .pointer (some ⟨g, 0, none⟩)) (hg : w.heap[g]? = some (.cells cs t fr))
  (hu : P.underlying ty = some d) (hd : (match d with | .struct _ | .array _ _ => true | _ => false) = true) (hi : (P.info? ty).map (·.size) = some cs.size) :
  (results fn tmps).run P w = .ok (.tuple #[.agg cs, tmps.getD q undef]) w := by
 have hp' : tmps[p]?.getD undef = .pointer (some ⟨g, 0, none⟩) := by simpa using hp
 simp [results, h, hp', asAddr, run_loadVar_row w g t ty cs fr d hg hu hd hi]

def RetF (w : World) (x : Wy) (k : Int) (q : Bool) (e : Ending) (w' : World) : Prop := e = .returned (.tuple #[.agg (ycells x), .int .i64 k, .bool q]) ∧ Below w.heap.size w w'
def RetA (w : World) (x : Wy) (q : Bool) (e : Ending) (w' : World) : Prop := e = .returned (.tuple #[.agg (ycells x), .bool q]) ∧ Below w.heap.size w w'
theorem find_ret {w wr : World} {x : Wy} {k : Int} {q : Bool} {a : Act} {g : Nat} (hp : a.tmps.getD 4 undef = .pointer (some ⟨g, 0, none⟩)) (hk : a.tmps.getD 5 undef = .int .i64 k) (hq : a.tmps.getD 6 undef = .bool q) (hd : a.defers = []) (hg : wr.heap[g]? = some (.cells (ycells x) 66 (0, 0))) (hb : Below w.heap.size w wr) :
  bodyPost Tryz.prog Tryz.f41 (RetF w x k q) Exit.ret a wr :=
 bodyPost_ret (v := .tuple #[.agg (ycells x), a.tmps.getD 5 undef, a.tmps.getD 6 undef]) (results_cell_three Tryz.results41 _ _ g 66 _ (0, 0) _ hp hg Tryz.underlying66 rfl (by kernel_rfl)) hd ⟨by rw [hk, hq], hb⟩
theorem at_ret {w wr : World} {x : Wy} {q : Bool} {a : Act} {g : Nat} (hp : a.tmps.getD 6 undef = .pointer (some ⟨g, 0, none⟩)) (hq : a.tmps.getD 7 undef = .bool q) (hd : a.defers = []) (hg : wr.heap[g]? = some (.cells (ycells x) 66 (0, 0))) (hb : Below w.heap.size w wr) :
  bodyPost Tryz.prog Tryz.f51 (RetA w x q) Exit.ret a wr :=
 bodyPost_ret (v := .tuple #[.agg (ycells x), a.tmps.getD 7 undef]) (results_cell_two Tryz.results51 _ _ g 66 _ (0, 0) _ hp hg Tryz.underlying66 rfl (by kernel_rfl)) hd ⟨by rw [hq], hb⟩
theorem A43 : (Tryz.prog.info? 66).map (fun i => (i.zero, i.size, i.bytes)) = some (some (.agg (ycells y0)), 11, 88) := by kernel_rfl

theorem box_at {w w1 : World} {o : Obj} (h : Below (w.alloc o).heap.size (w.alloc o) w1) : w1.heap[w.heap.size]? = some o := (h.block w.heap.size (by simp)).trans (heap_alloc_new w o)
theorem Ar.way_at {w : World} {b g : Nat} {c : Cfg} {L : List Wy} (h : Ar w b g c L) {line : Int} {k : Nat} {x : Wy} (hx : L[soN c line + k]? = some x) : w.rangeAt g (soN c line * 11 + k * 11) (yc x) := by
 have := h.ways _ x hx
 rwa [Nat.zero_add, Nat.add_mul] at this

set_option maxHeartbeats 2000000 in
theorem find_yes {w : World} {b g : Nat} {c : Cfg} {L : List Wy} (h : Ar w b g c L) (hT : Tb w) (line : Int) (k : Nat) (x : Wy) (hp : plc c L line = some k) (hx : L[soN c line + k]? = some x) :
  Calls Tryz.prog 41 #[.pointer (some ⟨b, 0, none⟩), .int .i64 line] w (RetF w x k true) := by
 obtain ⟨hl, hk, -⟩ := h.sz.plc_some hp
 have hB0 : ∀ o, Below w.heap.size w (w.alloc o) := fun o => (Below.refl _ _).alloc (Nat.le_refl _) _
 have HS := Lib.hid (fun o => setOf_yes (h.below (hB0 o)) (hT.keeps (hB0 o)) line hl)
 have HP := Lib.hid (fun w1 (hb : Below w.heap.size w w1) => placeOf_at (h.below hb) line hl)
 rw [hp] at HP
 have HR := Lib.hid (fun w1 (hb : Below w.heap.size w w1) => (h.below hb).way_at hx)
 have hn := nat_neq k
 unfold lset at HS HP
 generalize soN c line = so at *
 generalize c.wa.toNat = W at *
 clear h hT hl hp hx hB0
 go_enter Tryz.func41, Tryz.ntmps41
 go_wp2_with (first
  | (go_at_call 91; refine (HS.out _).mono ?_; rintro e w1 ⟨rfl, hb1⟩)
  | (go_at_call 92; refine (HP.out _ (bbox hb1)).mono ?_; rintro e w2 ⟨rfl, hb2⟩; simp only [oi])
  | ((with_reducible refine wpList_load_mid (op := ⟨some 21, _, _, _, _, _⟩) rfl 66 (.tmp 20) rfl g (so * 11 + k * 11) ?lx (yc x) _ ?lc Tryz.underlying66 ?ld ?li ?_); (case lx => rfl); (case lc => exact HR.out _ (bstep (bbox hb1) hb2)); (case ld => rfl); (case li => kernel_rfl))
  | ((with_reducible refine wpList_store_row (o := ⟨none, _, _, _, _, _⟩) rfl 66 (.tmp 4) (.tmp 21) rfl w.heap.size (ycells x) ?sx ?sy 66 ?old ?sg ?si ?so ?s1 ?_); (case sx => rfl); (case sy => rfl); (case old => exact ycells y0); (case sg => exact (hb2.block w.heap.size (zbox hb1)).trans (box_at hb1)); (case si => kernel_rfl); (case so => rfl); (case s1 => kernel_rfl)))
 exact find_ret rfl rfl rfl rfl (setRow_heap _ _ _ _ _ _ ((hb2.block w.heap.size (zbox hb1)).trans (box_at hb1))) (below_setRow (bstep (bbox hb1) hb2) (Nat.le_refl _) _)

set_option maxHeartbeats 2000000 in
theorem find_no {w : World} {b g : Nat} {c : Cfg} {L : List Wy} (h : Ar w b g c L) (hT : Tb w) (line : Int) (hp : plc c L line = none) :
  Calls Tryz.prog 41 #[.pointer (some ⟨b, 0, none⟩), .int .i64 line] w (RetF w y0 0 false) := by
 have hB0 : ∀ o, Below w.heap.size w (w.alloc o) := fun o => (Below.refl _ _).alloc (Nat.le_refl _) _
 rcases Bool.eq_false_or_eq_true (lnOk c line) with hl | hl
 ·have HS := Lib.hid (fun o => setOf_yes (h.below (hB0 o)) (hT.keeps (hB0 o)) line hl)
  have HP := Lib.hid (fun w1 (hb : Below w.heap.size w w1) => placeOf_at (h.below hb) line hl)
  rw [hp] at HP
  unfold lset at HS HP
  generalize soN c line = so at *
  generalize c.wa.toNat = W at *
  clear h hT hl hp hB0
  go_enter Tryz.func41, Tryz.ntmps41
  go_wp2_with (first
   | (go_at_call 91; refine (HS.out _).mono ?_; rintro e w1 ⟨rfl, hb1⟩)
   | (go_at_call 92; refine (HP.out _ (bbox hb1)).mono ?_; rintro e w2 ⟨rfl, hb2⟩; simp only [oi])
   | ((with_reducible refine wpList_store_row (o := ⟨none, _, _, _, _, _⟩) rfl 66 (.tmp 4) (.tmp 17) rfl w.heap.size (ycells y0) ?sx ?sy 66 ?old ?sg ?si ?so ?s1 ?_); (case sx => rfl); (case sy => rfl); (case old => exact ycells y0); (case sg => exact (hb2.block w.heap.size (zbox hb1)).trans (box_at hb1)); (case si => kernel_rfl); (case so => rfl); (case s1 => kernel_rfl)))
  exact find_ret rfl rfl rfl rfl (setRow_heap _ _ _ _ _ _ ((hb2.block w.heap.size (zbox hb1)).trans (box_at hb1))) (below_setRow (bstep (bbox hb1) hb2) (Nat.le_refl _) _)
 ·have HS := Lib.hid (fun o => setOf_no (h.below (hB0 o)) (hT.keeps (hB0 o)) line hl)
  clear h hT hl hp hB0
  go_enter Tryz.func41, Tryz.ntmps41
  go_wp2_with (first
   | (go_at_call 91; refine (HS.out _).mono ?_; rintro e w1 ⟨rfl, hb1⟩)
   | (go_at_call 92; refine (placeOf_nil _ _ _).mono ?_; rintro e w2 ⟨rfl, hb2⟩)
   | ((with_reducible refine wpList_store_row (o := ⟨none, _, _, _, _, _⟩) rfl 66 (.tmp 4) (.tmp 17) rfl w.heap.size (ycells y0) ?sx ?sy 66 ?old ?sg ?si ?so ?s1 ?_); (case sx => rfl); (case sy => rfl); (case old => exact ycells y0); (case sg => exact (hb2.block w.heap.size (zbox hb1)).trans (box_at hb1)); (case si => kernel_rfl); (case so => rfl); (case s1 => kernel_rfl)))
  exact find_ret rfl rfl rfl rfl (setRow_heap _ _ _ _ _ _ ((hb2.block w.heap.size (zbox hb1)).trans (box_at hb1))) (below_setRow (bstep (bbox hb1) hb2) (Nat.le_refl _) _)

theorem Ar.way_in {w : World} {b g : Nat} {c : Cfg} {L : List Wy} (h : Ar w b g c L) {s k : Nat} {x : Wy} (hx : L[s * c.wa.toNat + k]? = some x) : w.rangeAt g (s * c.wa.toNat * 11 + k * 11) (yc x) := by
 have := h.ways _ x hx
 rwa [Nat.zero_add, Nat.add_mul] at this
set_option maxHeartbeats 2000000 in
theorem at_yes {w : World} {b g : Nat} {c : Cfg} {L : List Wy} (h : Ar w b g c L) (s k : Nat) (x : Wy) (hs : (s : Int) < c.se) (hk : (k : Int) < c.wa) (hx : L[s * c.wa.toNat + k]? = some x) :
  Calls Tryz.prog 51 #[.pointer (some ⟨b, 0, none⟩), .int .i64 s, .int .i64 k] w (RetA w x true) := by
 have hB0 : ∀ o, Below w.heap.size w (w.alloc o) := fun o => (Below.refl _ _).alloc (Nat.le_refl _) _
 have HS := Lib.hid (fun o => part_yes (h.below (hB0 o)) s hs)
 have HR := Lib.hid (fun w1 (hb : Below w.heap.size w w1) => (h.below hb).way_in hx)
 have hk2 : k < c.wa.toNat := by omega
 unfold sset at HS
 generalize c.wa.toNat = W at *
 clear h hx
 go_enter Tryz.func51, Tryz.ntmps51
 go_wp2_with (first
  | (go_at_call 102; refine (HS.out _).mono ?_; rintro e w1 ⟨rfl, rfl⟩)
  | ((with_reducible refine wpList_load_mid (op := ⟨some 24, _, _, _, _, _⟩) rfl 66 (.tmp 23) rfl g (s * W * 11 + k * 11) ?lx (yc x) _ ?lc Tryz.underlying66 ?ld ?li ?_); (case lx => rfl); (case lc => exact HR.out _ (hB0 _)); (case ld => rfl); (case li => kernel_rfl))
  | ((with_reducible refine wpList_store_row (o := ⟨none, _, _, _, _, _⟩) rfl 66 (.tmp 6) (.tmp 24) rfl w.heap.size (ycells x) ?sx ?sy 66 ?old ?sg ?si ?so ?s1 ?_); (case sx => rfl); (case sy => rfl); (case old => exact ycells y0); (case sg => exact heap_alloc_new w _); (case si => kernel_rfl); (case so => rfl); (case s1 => kernel_rfl)))
 exact at_ret rfl rfl rfl (setRow_heap _ _ _ _ _ _ (heap_alloc_new w _)) (below_setRow (hB0 _) (Nat.le_refl _) _)
set_option maxHeartbeats 2000000 in
theorem at_no {w : World} {b g : Nat} {c : Cfg} {L : List Wy} (h : Ar w b g c L) (s k : Int) (hs : s < 0 ∨ c.se ≤ s ∨ k < 0 ∨ c.wa ≤ k) :
  Calls Tryz.prog 51 #[.pointer (some ⟨b, 0, none⟩), .int .i64 s, .int .i64 k] w (RetA w y0 false) := by
 have hB0 : ∀ o, Below w.heap.size w (w.alloc o) := fun o => (Below.refl _ _).alloc (Nat.le_refl _) _
 have hw := ok_ways h.sz.ok
 by_cases hn : s < 0 ∨ c.se ≤ s
 ·have HS := Lib.hid (fun o => part_no (h.below (hB0 o)) s hn)
  clear h hn hs hw
  rcases Int.lt_or_le k 0 with hk | hk
  all_goals
   go_enter Tryz.func51, Tryz.ntmps51
   go_wp2_with (first
    | (go_at_call 102; refine (HS.out _).mono ?_; rintro e w1 ⟨rfl, rfl⟩)
    | ((with_reducible refine wpList_store_row (o := ⟨none, _, _, _, _, _⟩) rfl 66 (.tmp 6) (.tmp 20) rfl w.heap.size (ycells y0) ?sx ?sy 66 ?old ?sg ?si ?so ?s1 ?_); (case sx => rfl); (case sy => rfl); (case old => exact ycells y0); (case sg => exact heap_alloc_new w _); (case si => kernel_rfl); (case so => rfl); (case s1 => kernel_rfl)))
   exact at_ret rfl rfl rfl (setRow_heap _ _ _ _ _ _ (heap_alloc_new w _)) (below_setRow (hB0 _) (Nat.le_refl _) _)
 ·obtain ⟨t, rfl⟩ : ∃ t : Nat, s = t := ⟨s.toNat, by omega⟩
  have HS := Lib.hid (fun o => part_yes (h.below (hB0 o)) t (by omega))
  have hk2 : k < 0 ∨ (0 ≤ k ∧ (c.wa.toNat : Int) ≤ k) := by omega
  unfold sset at HS
  generalize c.wa.toNat = W at *
  clear h hn hs hw
  rcases hk2 with hk | ⟨hk0, hk⟩
  all_goals
   go_enter Tryz.func51, Tryz.ntmps51
   go_wp2_with (first
    | (go_at_call 102; refine (HS.out _).mono ?_; rintro e w1 ⟨rfl, rfl⟩)
    | ((with_reducible refine wpList_store_row (o := ⟨none, _, _, _, _, _⟩) rfl 66 (.tmp 6) (.tmp 20) rfl w.heap.size (ycells y0) ?sx ?sy 66 ?old ?sg ?si ?so ?s1 ?_); (case sx => rfl); (case sy => rfl); (case old => exact ycells y0); (case sg => exact heap_alloc_new w _); (case si => kernel_rfl); (case so => rfl); (case s1 => kernel_rfl)))
   exact at_ret rfl rfl rfl (setRow_heap _ _ _ _ _ _ (heap_alloc_new w _)) (below_setRow (hB0 _) (Nat.le_refl _) _)

end Go.Proofs.YtlfhkjjjocmpbaaGreatDoor.Ar

namespace Go.Proofs.YtlfhkjjjocmpbaaGreatDoor.Ar
open Go Go.RowKit

set_option maxHeartbeats 2000000 in
theorem free_yes {w : World} {b g : Nat} {c : Cfg} {L : List Wy} (h : Ar w b g c L) (hT : Tb w) (line : Int) (hl : lnOk c line = true) :
  Calls Tryz.prog 60 #[.pointer (some ⟨b, 0, none⟩), .int .i64 line] w fun e w' => e = .returned (.int .i64 (oi (fre c L line))) ∧ Below w.heap.size w w' := by
 have HS := Lib.hid (setOf_yes h hT line hl)
 have hg := h.gl
 have HL := Lib.hid (h.part line)
 have hlen := h.sz.pt_len line
 have hw := ok_ways h.sz.ok
 have hf : fre c L line = (pt c L line).findIdx? (fun x => !tk x) := by unfold fre; rw [if_pos hl]
 rw [hf]
 unfold lset at HS
 rw [← hlen] at HS
 have hn : (pt c L line).length ≤ 5000 := by omega
 generalize soN c line = so at *
 generalize pt c L line = l at *
 clear h hT hl hf hlen hw
 go_enter Tryz.func60, Tryz.ntmps60
 go_wp2_with (go_at_call 91; refine HS.out.mono ?_; rintro e w0 ⟨rfl, hb0⟩)
 go_loopw [11] (fun i wr => ∃ k : Nat, k ≤ l.length ∧ i = .int .i64 k ∧ Hid (∀ (j : Nat) (x : Wy), j < k → l[j]? = some x → (!tk x) = false) ∧ Below w.heap.size w wr) (fun i _ => l.length - (intOf i).toNat)
 case atStart => exact ⟨0, by omega, rfl, Lib.hid (fun j x hj => by omega), hb0⟩
 case round =>
  obtain ⟨k, hk, rfl, HJ, hb⟩ := hrel
  by_cases hlt : k < l.length
  ·obtain ⟨x, hx⟩ : ∃ x, l[k]? = some x := ⟨_, List.getElem?_eq_getElem hlt⟩
   have HR := Lib.hid (HL.out.below hg hb k x hx)
   have HX := Lib.hid hx
   have hb1 : ∀ o, Below w.heap.size w (wr.alloc o) := fun o => hb.alloc hb.size _
   clear hx
   go_wp2_with (first
    | ((with_reducible refine wpList_load_mid (op := ⟨some 15, _, _, _, _, _⟩) rfl 66 (.tmp 14) rfl g (so * 11 + k * 11) ?lx (yc x) _ ?lc Tryz.underlying66 ?ld ?li ?_); (case lx => rfl); (case lc => exact HR.out); (case ld => rfl); (case li => kernel_rfl))
    | ((with_reducible refine wpList_store_row (o := ⟨none, _, _, _, _, _⟩) rfl 66 (.tmp 6) (.tmp 15) rfl wr.heap.size (ycells x) ?sx ?sy 66 ?old ?sg ?si ?so ?s1 ?_); (case sx => rfl); (case sy => rfl); (case old => exact ycells y0); (case sg => exact heap_alloc_new wr _); (case si => kernel_rfl); (case so => rfl); (case s1 => kernel_rfl))
    | ((with_reducible refine wpList_load_row (o := ⟨some 16, _, _, _, _, _⟩) rfl 66 (.tmp 6) rfl wr.heap.size ?lx 66 (ycells x) (0, 0) _ ?lg Tryz.underlying66 ?ld ?li ?_); (case lx => rfl); (case lg => exact setRow_heap _ _ _ _ _ _ (heap_alloc_new wr _)); (case ld => rfl); (case li => kernel_rfl))
    | (go_at_call 119; refine (taken_any x _).mono ?_; rintro e w1 ⟨rfl, hbt⟩))
   ·have h : (!tk x) = true := by assumption
    go_ret
    exact ⟨ret_int (by rw [find_some HX.out h HJ.out]; rfl), bstep (below_setRow (hb1 _) hb.size _) hbt⟩
   ·have h : (!tk x) = false := by assumption
    have HK : Hid (∀ (j : Nat) (y : Wy), j < k + 1 → l[j]? = some y → (!tk y) = false) := Lib.hid (fun j y hj hy => by
     by_cases e : j = k
     ·subst e
      obtain rfl : x = y := Option.some.inj (HX.out.symm.trans hy)
      exact h
     ·exact HJ.out j y (by omega) hy)
    have hB := bstep (below_setRow (hb1 _) hb.size _) hbt
    clear h
    go_roundw
    case rel => exact ⟨k + 1, by omega, by go_num, HK, hB⟩
    case measure => simp [intOf]; omega
  ·have HK : Hid (oi (l.findIdx? (fun x => !tk x)) = -1) := Lib.hid (by rw [find_none (fun j x hx => HJ.out j x (by have := (List.getElem?_eq_some_iff.1 hx).1; omega) hx)]; rfl)
   go_wp2
   go_ret
   exact ⟨ret_int HK.out.symm, hb⟩
theorem free_no {w : World} {b g : Nat} {c : Cfg} {L : List Wy} (h : Ar w b g c L) (hT : Tb w) (line : Int) (hl : lnOk c line = false) :
  Calls Tryz.prog 60 #[.pointer (some ⟨b, 0, none⟩), .int .i64 line] w fun e w' => e = .returned (.int .i64 (-1)) ∧ Below w.heap.size w w' := by
 have HS := Lib.hid (setOf_no h hT line hl)
 clear h hT hl
 go_enter Tryz.func60, Tryz.ntmps60
 go_wp2_with (go_at_call 91; refine HS.out.mono ?_; rintro e w0 ⟨rfl, hb0⟩)
 go_loopw [11] (fun i wr => i = .int .i64 0 ∧ w0 = wr) (fun i _ => 0)
 case atStart => exact ⟨rfl, rfl⟩
 case round =>
  obtain ⟨rfl, rfl⟩ := hrel
  go_wp2
  go_ret
  exact ⟨rfl, hb0⟩

theorem slice_from (b N : Nat) (h1 : 1 ≤ N) (h8 : N ≤ 8) (w : World) : (Instr.sliceAt 36 (.pointer (some ⟨b, 0, none⟩)) (some (.int .i64 (N : Int))) none none).run Tryz.prog w = .ok (.slice (some ⟨b, if N = 8 then 0 else N, none⟩) (8 - N) (8 - N)) w := by
 rcases (show N = 1 ∨ N = 2 ∨ N = 3 ∨ N = 4 ∨ N = 5 ∨ N = 6 ∨ N = 7 ∨ N = 8 by omega) with rfl | rfl | rfl | rfl | rfl | rfl | rfl | rfl
 all_goals kernel_rfl
theorem word_cell (d : Wd) (k : Nat) (hk : k < 8) : (dcells d)[k]? = some (.int .i64 (d.at k)) := by
 rcases (show k = 0 ∨ k = 1 ∨ k = 2 ∨ k = 3 ∨ k = 4 ∨ k = 5 ∨ k = 6 ∨ k = 7 by omega) with rfl | rfl | rfl | rfl | rfl | rfl | rfl | rfl
 all_goals rfl
theorem wOk_yes {c : Cfg} {d : Wd} (N : Nat) (hN : c.wo = N) (h : ∀ j, N ≤ j → j < 8 → (d.at j != 0) = false) : wOk c d = true := by
 unfold wOk
 rw [List.all_eq_true]
 intro k hk
 have hk8 := List.mem_range.1 hk
 by_cases hlt : k < N
 ·simp; omega
 ·have := h k (by omega) hk8
  simp at this ⊢
  exact .inr this
theorem wOk_no {c : Cfg} {d : Wd} (N k : Nat) (hN : c.wo = N) (hk : N ≤ k) (h8 : k < 8) (h : (d.at k != 0) = true) : wOk c d = false := by
 rcases Bool.eq_false_or_eq_true (wOk c d) with h' | h'
 ·unfold wOk at h'
  rw [List.all_eq_true] at h'
  have := h' k (List.mem_range.2 h8)
  simp at this h
  omega
 ·exact h'

set_option maxHeartbeats 1000000 in
theorem fits_any {w : World} {b g : Nat} {c : Cfg} {L : List Wy} (h : Ar w b g c L) (d : Wd) :
  Calls Tryz.prog 101 #[.pointer (some ⟨b, 0, none⟩), .agg (dcells d)] w fun e w' => e = .returned (.bool (wOk c d)) ∧ Below w.heap.size w w' := by
 have hw := (ok_ways h.sz.ok).2.2.1
 obtain ⟨N, hN⟩ : ∃ N : Nat, c.wo = N := ⟨c.wo.toNat, by omega⟩
 have h4 := h.hd 4
 simp at h4
 rw [hN] at h4
 have h4' : ∀ o, (w.alloc o).cell? ⟨b, 4, none⟩ = some (.int .i64 (N : Int)) := fun o => Lib.cell?_alloc_some o h4
 have hn1 : 1 ≤ N := by omega
 have hn8 : N ≤ 8 := by omega
 have hsl := slice_from w.heap.size N hn1 hn8
 have HCELL : Hid (∀ k, k < 8 - N → (w.alloc (.cells (dcells d) 36)).cell? ⟨w.heap.size, (if N = 8 then 0 else N) + k, none⟩ = some (.int .i64 (d.at (N + k)))) := Lib.hid (fun k hk => by
  rw [if_neg (by omega), World.cell?_alloc_mark w _ 36 (0, 0) (N + k)]
  exact word_cell d (N + k) (by omega))
 have HB : Hid (Below w.heap.size w (w.alloc (.cells (dcells d) 36))) := Lib.hid ((Below.refl _ _).alloc (Nat.le_refl _) _)
 have HN := Lib.hid hN
 generalize (if N = 8 then 0 else N) = o at *
 clear h h4 hw hN
 go_enter Tryz.func101, Tryz.ntmps101
 go_wp2
 go_loopw [14] (fun i wr => ∃ k : Nat, k ≤ 8 - N ∧ i = .int .i64 k ∧ Hid (∀ j, N ≤ j → j < N + k → (d.at j != 0) = false) ∧ w.alloc (.cells (dcells d) 36) = wr) (fun i _ => (8 - N) - (intOf i).toNat)
 case atStart => exact ⟨0, by omega, rfl, Lib.hid (fun j h1 h2 => by omega), rfl⟩
 case round =>
  obtain ⟨k, hk, rfl, HJ, rfl⟩ := hrel
  by_cases hlt : k < 8 - N
  ·have hcell := HCELL.out k hlt
   rcases Bool.eq_false_or_eq_true (d.at (N + k) != 0) with h | h
   ·have HW : Hid (wOk c d = false) := Lib.hid (wOk_no N (N + k) HN.out (by omega) (by omega) h)
    generalize d.at (N + k) = v at hcell h
    go_wp2
    go_ret
    exact ⟨ret_bool HW.out.symm, HB.out⟩
   ·have HK : Hid (∀ j, N ≤ j → j < N + (k + 1) → (d.at j != 0) = false) := Lib.hid (fun j h1 h2 => by
     by_cases e : j = N + k
     ·rw [e]
      exact h
     ·exact HJ.out j h1 (by omega))
    generalize d.at (N + k) = v at hcell h
    go_wp2
    go_roundw
    case rel => exact ⟨k + 1, by omega, by go_num, HK, trivial⟩
    case measure => simp [intOf]; omega
  ·have HW : Hid (wOk c d = true) := Lib.hid (wOk_yes N HN.out fun j h1 h2 => HJ.out j h1 (by omega))
   go_wp2
   go_ret
   exact ⟨ret_bool HW.out.symm, HB.out⟩

end Go.Proofs.YtlfhkjjjocmpbaaGreatDoor.Ar

namespace Go.Proofs.YtlfhkjjjocmpbaaGreatDoor.Ar
open Go Go.RowKit

theorem cellsOf_set {L : List Wy} {i : Nat} (y : Wy) (hi : i < L.length) (o : Nat) : (cellsOf yc (L.set i y))[o]? = if i * 11 ≤ o ∧ o < i * 11 + 11 then (yc y)[o - i * 11]? else (cellsOf yc L)[o]? := by
 have key : ∀ (M : List Wy) (o : Nat), (cellsOf yc M)[o]? = (M[o / 11]?).bind fun x => (yc x)[o % 11]? := by
  intro M o
  by_cases h : o / 11 < M.length
  ·have := cellsOf_at yc_len M (o / 11) (o % 11) h (by omega)
   rw [show o / 11 * 11 + o % 11 = o by omega] at this
   rw [this, List.getElem?_eq_getElem h]
   rfl
  ·rw [List.getElem?_eq_none (by rw [cellsOf_len yc_len]; omega), List.getElem?_eq_none (by omega)]
   rfl
 rw [key, key, List.getElem?_set]
 by_cases e : i = o / 11
 ·subst e
  rw [if_pos rfl, if_pos hi, if_pos (by omega), show o - o / 11 * 11 = o % 11 by omega]
  rfl
 ·rw [if_neg e, if_neg (by omega)]

theorem heap_setCells_other (b : Nat) : ∀ (vs : List Value) (o : Nat) (w : World) (k : Nat), k ≠ b → (w.setCells b o vs).heap[k]? = w.heap[k]?
 | [], _, _, _, _ => rfl
 | v :: r, o, w, k, h => by rw [World.setCells, heap_setCells_other b r (o + 1) _ k h, heap_setCell_other _ _ _ _ h]
theorem setCells_rest (b : Nat) : ∀ (vs : List Value) (o : Nat) (w : World), (w.setCells b o vs).os = w.os ∧ (w.setCells b o vs).tape = w.tape ∧ (w.setCells b o vs).output = w.output ∧ (w.setCells b o vs).heap.size = w.heap.size
 | [], _, _ => ⟨rfl, rfl, rfl, rfl⟩
 | v :: r, o, w => by
  obtain ⟨h1, h2, h3, h4⟩ := setCells_rest b r (o + 1) (w.setCell ⟨b, o, none⟩ v)
  rw [World.setCells]
  exact ⟨h1, h2, h3, by rw [h4]; simp⟩
theorem turn_setCells (g o : Nat) (vs : List Value) (w : World) : TurnG g w (w.setCells g o vs) := by
 obtain ⟨h1, h2, h3, h4⟩ := setCells_rest g vs o w
 exact ⟨h1, h2, h3, by omega, fun k _ hne => heap_setCells_other g vs o w k hne⟩

theorem Ar.there {w : World} {b g : Nat} {c : Cfg} {L : List Wy} (h : Ar w b g c L) {i : Nat} {x : Wy} (hx : L[i]? = some x) (j n : Nat) (hj : j + n ≤ 11) : w.there g (i * 11 + j) n := by
 intro m hm
 refine ⟨?_, h.fz _⟩
 have := h.ways i x hx (j + m) ((yc x)[j + m]'(by rw [yc_len]; omega)) (List.getElem?_eq_getElem _)
 rw [Nat.zero_add, ← Nat.add_assoc] at this
 rw [this]
 rfl

theorem Ar.store {w : World} {b g : Nat} {c : Cfg} {L : List Wy} (h : Ar w b g c L) {i : Nat} {x : Wy} (hx : L[i]? = some x) (y : Wy) (j : Nat) (vs : List Value) (hj : j + vs.length ≤ 11)
  (hin : ∀ m, m < vs.length → (yc y)[j + m]? = vs[m]?) (hout : ∀ m, m < 11 → m < j ∨ j + vs.length ≤ m → (yc y)[m]? = (yc x)[m]?) : Ar (w.setCells g (i * 11 + j) vs) b g c (L.set i y) := by
 have hi := (List.getElem?_eq_some_iff.1 hx).1
 have hs := (setCells_rest g vs (i * 11 + j) w).2.2.2
 refine ⟨fun o => ?_, by rw [hs]; exact h.bl, fun o => ?_, fun o => (World.frozen?_setCells g vs _ w _).trans (h.fz o), by rw [hs]; exact h.gl, h.ne, h.sz.set _ _, h.fits⟩
 ·rw [List.length_set]
  exact (World.cell?_of_block (a := ⟨b, o, none⟩) (heap_setCells_other g vs _ w b h.ne)).trans (h.hd o)
 ·rw [cellsOf_set y hi]
  by_cases hm : i * 11 + j ≤ o ∧ o < i * 11 + j + vs.length
  ·obtain ⟨m, rfl⟩ : ∃ m, o = i * 11 + j + m := ⟨o - (i * 11 + j), by omega⟩
   rw [World.cell?_setCells_in g vs _ w (fun m hm => (h.there hx j vs.length hj m hm).1) m (by omega), if_pos (by omega), show i * 11 + j + m - i * 11 = j + m by omega, hin m (by omega), List.getElem?_eq_getElem]
  ·rw [World.cell?_setCells_out g vs _ w ⟨g, o, none⟩ (fun _ _ => by show o < _ ∨ _ ≤ o; omega), h.row o]
   split
   ·rename_i hr
    rw [hout (o - i * 11) (by omega) (by omega)]
    have := cellsOf_at yc_len L i (o - i * 11) hi (by omega)
    rw [show i * 11 + (o - i * 11) = o by omega] at this
    rw [this]
    obtain ⟨_, rfl⟩ := List.getElem?_eq_some_iff.1 hx
    rfl
   ·rfl

theorem lockP_no {c : Cfg} {L : List Wy} {line : Int} (q : Bool) (hp : plc c L line = none) : lockP c L line q = (5, L) := by unfold lockP; rw [hp]
theorem lockP_yes {c : Cfg} {L : List Wy} {line : Int} (q : Bool) {k : Nat} {x : Wy} (hp : plc c L line = some k) (hx : L[soN c line + k]? = some x) : lockP c L line q = (0, L.set (soN c line + k) (lockY q x)) := by unfold lockP; rw [hp, ← upd_some _ hx]
theorem setP_no {c : Cfg} {L : List Wy} {line : Int} (st : Int) (d : Wd) (hp : plc c L line = none) : setP c L line st d = (5, L) := by unfold setP; rw [hp]
theorem setP_bad {c : Cfg} {L : List Wy} {line : Int} (st : Int) (d : Wd) {k : Nat} (hp : plc c L line = some k) (hs : ¬ (stOk st = true ∧ wOk c d = true)) : setP c L line st d = (1, L) := by
 unfold setP
 rw [hp]
 exact if_neg hs
theorem setP_yes {c : Cfg} {L : List Wy} {line : Int} (st : Int) (d : Wd) {k : Nat} {x : Wy} (hp : plc c L line = some k) (hs : stOk st = true ∧ wOk c d = true) (hx : L[soN c line + k]? = some x) : setP c L line st d = (0, L.set (soN c line + k) (setY st d x)) := by
 unfold setP
 rw [hp, ← upd_some _ hx]
 exact if_pos hs
theorem layP_bad {c : Cfg} {L : List Wy} {line way : Int} (h : lnOk c line = false ∨ way < 0 ∨ c.wa ≤ way) : layP c L line way = (1, L) := by unfold layP; rw [if_pos h]
theorem layP_twice {c : Cfg} {L : List Wy} {line way : Int} (h : ¬ (lnOk c line = false ∨ way < 0 ∨ c.wa ≤ way)) {k : Nat} (hp : plc c L line = some k) : layP c L line way = (6, L) := by unfold layP; rw [if_neg h, if_pos (by rw [hp]; rfl)]
theorem layP_full {c : Cfg} {L : List Wy} {line way : Int} (h : ¬ (lnOk c line = false ∨ way < 0 ∨ c.wa ≤ way)) (hp : plc c L line = none) (ht : tkAt L (soN c line + way.toNat) = true) : layP c L line way = (4, L) := by unfold layP; rw [if_neg h, if_neg (by rw [hp]; simp), if_pos ht]
theorem layP_yes {c : Cfg} {L : List Wy} {line way : Int} (h : ¬ (lnOk c line = false ∨ way < 0 ∨ c.wa ≤ way)) (hp : plc c L line = none) (ht : tkAt L (soN c line + way.toNat) = false) : layP c L line way = (0, L.set (soN c line + way.toNat) (newY line)) := by unfold layP; rw [if_neg h, if_neg (by rw [hp]; simp), if_neg (by rw [ht]; simp)]

structure GaveA (w : World) (b g : Nat) (c : Cfg) (r : Int × List Wy) (e : Ending) (w' : World) : Prop where
 res : e = .returned (.int .i64 r.1)
 ar : Ar w' b g c r.2
 turn : TurnG g w w'

set_option maxHeartbeats 1000000 in
theorem lock_any {w : World} {b g : Nat} {c : Cfg} {L : List Wy} (h : Ar w b g c L) (hT : Tb w) (line : Int) (q : Bool) :
  Calls Tryz.prog 61 #[.pointer (some ⟨b, 0, none⟩), .int .i64 line, .bool q] w (GaveA w b g c (lockP c L line q)) := by
 rcases hp : plc c L line with _ | k
 ·have HW := Lib.hid (wayOf_no h hT line hp)
  have HE : Hid (∀ w', Below w.heap.size w w' → GaveA w b g c (lockP c L line q) (.returned (.int .i64 5)) w') := Lib.hid (fun w' hb => by
   rw [lockP_no q hp]
   exact ⟨rfl, h.below hb, .of_below hb⟩)
  clear h hT hp
  go_enter Tryz.func61, Tryz.ntmps61
  go_wp2_with (go_at_call 99; refine HW.out.mono ?_; rintro e w1 ⟨rfl, hb1⟩)
  go_ret
  exact HE.out _ hb1
 ·obtain ⟨hl, hk, x, hx, hx'⟩ := h.sz.plc_some hp
  have HW := Lib.hid (wayOf_yes h hT line k hp)
  have HE : Hid (∀ w1, Below w.heap.size w w1 → GaveA w b g c (lockP c L line q) (.returned (.int .i64 0)) (w1.setCell ⟨g, soN c line * 11 + k * 11 + 10, none⟩ (.bool q))) := Lib.hid (fun w1 hb => by
   rw [lockP_yes q hp hx]
   have hs := (h.below hb).store hx (lockY q x) 10 [.bool q] (by simp) (fun m hm => by simp at hm; subst hm; rfl) (fun m hm hm2 => by
    simp at hm2
    have : m < 10 := by omega
    rcases (show m = 0 ∨ m = 1 ∨ m = 2 ∨ m = 3 ∨ m = 4 ∨ m = 5 ∨ m = 6 ∨ m = 7 ∨ m = 8 ∨ m = 9 by omega) with rfl | rfl | rfl | rfl | rfl | rfl | rfl | rfl | rfl | rfl
    all_goals rfl)
   have ht := turn_setCells g ((soN c line + k) * 11 + 10) [.bool q] w1
   rw [Nat.add_mul] at hs ht
   exact ⟨rfl, hs, (TurnG.of_below hb).trans ht⟩)
  have HC : Hid (∀ w1, Below w.heap.size w w1 → w1.cell? ⟨g, soN c line * 11 + k * 11 + 10, none⟩ = some (.bool x.lk) ∧ w1.frozen? ⟨g, soN c line * 11 + k * 11 + 10, none⟩ = false) := Lib.hid (fun w1 hb => ⟨(h.below hb).way_at hx 10 _ rfl, (h.below hb).fz _⟩)
  generalize soN c line = so at *
  clear h hT hp hl hk hx hx'
  go_enter Tryz.func61, Tryz.ntmps61
  go_wp2_with (go_at_call 99; refine HW.out.mono ?_; rintro e w1 ⟨rfl, hb1⟩; obtain ⟨hc1, hf1⟩ := HC.out _ hb1)
  go_ret
  exact HE.out _ hb1

set_option maxHeartbeats 2000000 in

theorem lay_any {w : World} {b g : Nat} {c : Cfg} {L : List Wy} (h : Ar w b g c L) (hT : Tb w) (line way : Int) :
  Calls Tryz.prog 59 #[.pointer (some ⟨b, 0, none⟩), .int .i64 line, .int .i64 way] w (GaveA w b g c (layP c L line way)) := by
 have HEl : ∀ n, layP c L line way = (n, L) → Hid (∀ w', Below w.heap.size w w' → GaveA w b g c (layP c L line way) (.returned (.int .i64 n)) w') := fun n e => Lib.hid (fun w' hb => by
  rw [e]
  exact ⟨rfl, h.below hb, .of_below hb⟩)
 have hw := ok_ways h.sz.ok
 rcases Bool.eq_false_or_eq_true (lnOk c line) with hl | hl
 ·have HS := Lib.hid (setOf_yes h hT line hl)
  by_cases hn : way < 0 ∨ (c.wa.toNat : Int) ≤ way
  ·have HE := HEl 1 (layP_bad (by omega))
   unfold lset at HS
   generalize soN c line = so at *
   generalize c.wa.toNat = W at *
   clear h hT hl hw
   rcases (show way < 0 ∨ ¬ way < 0 ∧ (W : Int) ≤ way by omega) with hk | ⟨hk0, hk⟩
   all_goals
    go_enter Tryz.func59, Tryz.ntmps59
    go_wp2_with (go_at_call 91; refine HS.out.mono ?_; rintro e w1 ⟨rfl, hb1⟩)
    go_ret
    exact HE.out _ hb1
  ·obtain ⟨m, rfl⟩ : ∃ m : Nat, way = m := ⟨way.toNat, by omega⟩
   have hbad : ¬ (lnOk c line = false ∨ (m : Int) < 0 ∨ c.wa ≤ (m : Int)) := by
    rw [hl]
    rintro (e | e | e)
    ·cases e
    ·omega
    ·omega
   have HP := Lib.hid (fun w1 (hb : Below w.heap.size w w1) => placeOf_at (h.below hb) line hl)
   have hm : (m : Int) < (c.wa.toNat : Int) := by omega
   have hm0 : ¬ (m : Int) < 0 := by omega
   rcases hp : plc c L line with _ | k
   ·rw [hp] at HP
    obtain ⟨x, hx⟩ := h.sz.at_some (line := line) (j := m) (by omega)
    have HR := Lib.hid (fun w1 (hb : Below w.heap.size w w1) => (h.below hb).way_at hx)
    rcases Bool.eq_false_or_eq_true (tk x) with ht | ht
    ·have HE := HEl 4 (layP_full hbad hp (by rw [Int.toNat_natCast, tkAt_some hx, ht]))
     unfold lset at HS HP
     generalize soN c line = so at *
     generalize c.wa.toNat = W at *
     clear h hT hl hw hp hbad hx HEl
     go_enter Tryz.func59, Tryz.ntmps59
     go_wp2_with (first
      | (go_at_call 91; refine HS.out.mono ?_; rintro e w1 ⟨rfl, hb1⟩)
      | (go_at_call 92; refine (HP.out _ hb1).mono ?_; rintro e w2 ⟨rfl, hb2⟩; simp only [oi])
      | (go_at_call 119; refine (taken_any x _).mono ?_; rintro e w3 ⟨rfl, hb3⟩; rw [ht])
      | ((with_reducible refine wpList_load_mid (op := ⟨some 29, _, _, _, _, _⟩) rfl 66 (.tmp 28) rfl g (so * 11 + m * 11) ?lx (yc x) _ ?lc Tryz.underlying66 ?ld ?li ?_); (case lx => rfl); (case lc => exact HR.out _ (bstep hb1 hb2)); (case ld => rfl); (case li => kernel_rfl)))
     go_ret
     exact HE.out _ (bstep (bstep hb1 hb2) hb3)
    ·have HE : Hid (∀ w1, Below w.heap.size w w1 → w1.there g (soN c line * 11 + m * 11) 11 ∧ GaveA w b g c (layP c L line m) (.returned (.int .i64 0)) (w1.setCells g (soN c line * 11 + m * 11) (yc (newY line)))) := Lib.hid (fun w1 hb => by
      rw [layP_yes hbad hp (by rw [Int.toNat_natCast, tkAt_some hx, ht]), Int.toNat_natCast]
      have hs := (h.below hb).store hx (newY line) 0 (yc (newY line)) (by rw [yc_len]; omega) (fun j _ => by rw [Nat.zero_add]) (fun j h1 h2 => by rw [yc_len] at h2; omega)
      have ht := turn_setCells g ((soN c line + m) * 11 + 0) (yc (newY line)) w1
      have hth := (h.below hb).there hx 0 11 (by omega)
      rw [Nat.add_zero, Nat.add_mul] at hs ht hth
      exact ⟨hth, rfl, hs, (TurnG.of_below hb).trans ht⟩)
     unfold lset at HS HP
     generalize soN c line = so at *
     generalize c.wa.toNat = W at *
     clear h hT hl hw hp hbad hx HEl
     go_enter Tryz.func59, Tryz.ntmps59
     go_wp2_with (first
      | (go_at_call 91; refine HS.out.mono ?_; rintro e w1 ⟨rfl, hb1⟩)
      | (go_at_call 92; refine (HP.out _ hb1).mono ?_; rintro e w2 ⟨rfl, hb2⟩; simp only [oi])
      | (go_at_call 119; refine (taken_any x _).mono ?_; rintro e w3 ⟨rfl, hb3⟩; rw [ht]; have hE := HE.out _ (bstep (bstep hb1 hb2) hb3))
      | ((with_reducible refine wpList_load_mid (op := ⟨some 29, _, _, _, _, _⟩) rfl 66 (.tmp 28) rfl g (so * 11 + m * 11) ?lx (yc x) _ ?lc Tryz.underlying66 ?ld ?li ?_); (case lx => rfl); (case lc => exact HR.out _ (bstep hb1 hb2)); (case ld => rfl); (case li => kernel_rfl))
      | ((with_reducible refine wpList_store_mid (op := ⟨none, _, _, _, _, _⟩) rfl 66 (.tmp 35) (.tmp 34) rfl g (so * 11 + m * 11) (ycells (newY line)) ?sx ?sy ?st ?si ?s1 ?_); (case sx => rfl); (case sy => rfl); (case st => exact hE.1); (case si => kernel_rfl); (case s1 => kernel_rfl)))

     go_ret
     exact hE.2
   ·rw [hp] at HP
    have HE := HEl 6 (layP_twice hbad hp)
    have hn := nat_neq2 k
    unfold lset at HS HP
    generalize soN c line = so at *
    generalize c.wa.toNat = W at *
    clear h hT hl hw hp hbad HEl
    go_enter Tryz.func59, Tryz.ntmps59
    go_wp2_with (first
     | (go_at_call 91; refine HS.out.mono ?_; rintro e w1 ⟨rfl, hb1⟩)
     | (go_at_call 92; refine (HP.out _ hb1).mono ?_; rintro e w2 ⟨rfl, hb2⟩; simp only [oi]))
    go_ret
    exact HE.out _ (bstep hb1 hb2)
 ·have HS := Lib.hid (setOf_no h hT line hl)
  have HE := HEl 1 (layP_bad (.inl hl))
  clear h hT hl hw
  rcases Int.lt_or_le way 0 with hk | hk
  all_goals
   go_enter Tryz.func59, Tryz.ntmps59
   go_wp2_with (go_at_call 91; refine HS.out.mono ?_; rintro e w1 ⟨rfl, hb1⟩)
   go_ret
   exact HE.out _ hb1

end Go.Proofs.YtlfhkjjjocmpbaaGreatDoor.Ar

namespace Go.Proofs.YtlfhkjjjocmpbaaGreatDoor.Ar
open Go Go.RowKit

def wd2 (st : Int) (d : Wd) : Wd := if st = 0 then d0 else d

theorem TurnG.drew {g : Nat} {w w' : World} (h : TurnG g w w') : TurnG g w w'.drew := ⟨h.os, h.tape, h.output, h.size, h.other⟩
theorem GaveA.drew {w w' : World} {b g : Nat} {c : Cfg} {r : Int × List Wy} {e : Ending} (h : GaveA w b g c r e w') : GaveA w b g c r e w'.drew := ⟨h.res, h.ar.keep (Nat.le_refl _) rfl rfl, h.turn.drew⟩
theorem set_tell {w : World} {b g : Nat} {c : Cfg} {L : List Wy} (h : Ar w b g c L) {line st : Int} {d : Wd} {k : Nat} {x : Wy} (hp : plc c L line = some k) (hx : L[soN c line + k]? = some x) (hs : stOk st = true ∧ wOk c d = true) {w1 : World} (hb : Below w.heap.size w w1) :
  GaveA w b g c (setP c L line st d) (.returned (.int .i64 0)) ((w1.setCells g (soN c line * 11 + k * 11) [.int .i64 st]).setCells g (soN c line * 11 + k * 11 + 2) (dcells (wd2 st d)).toList) := by
 rw [setP_yes st d hp hs hx]
 have h1 := (h.below hb).store hx { x with st := st } 0 [.int .i64 st] (by simp) (fun m hm => by simp at hm; subst hm; rfl) (fun m hm hm2 => by
  simp at hm2
  rcases (show m = 1 ∨ m = 2 ∨ m = 3 ∨ m = 4 ∨ m = 5 ∨ m = 6 ∨ m = 7 ∨ m = 8 ∨ m = 9 ∨ m = 10 by omega) with rfl | rfl | rfl | rfl | rfl | rfl | rfl | rfl | rfl | rfl
  all_goals rfl)
 have hi := (List.getElem?_eq_some_iff.1 hx).1
 have h2 := h1.store (i := soN c line + k) (x := { x with st := st }) (by rw [List.getElem?_set, if_pos rfl, if_pos hi]) (setY st d x) 2 (dcells (wd2 st d)).toList (by simp) (fun m hm => by
  have hm8 : m < 8 := by simpa using hm
  unfold wd2
  rcases (show m = 0 ∨ m = 1 ∨ m = 2 ∨ m = 3 ∨ m = 4 ∨ m = 5 ∨ m = 6 ∨ m = 7 by omega) with rfl | rfl | rfl | rfl | rfl | rfl | rfl | rfl
  all_goals rfl) (fun m hm hm2 => by
  simp at hm2
  rcases (show m = 0 ∨ m = 1 ∨ m = 10 by omega) with rfl | rfl | rfl
  all_goals rfl)
 rw [List.set_set] at h2
 have t1 := turn_setCells g ((soN c line + k) * 11 + 0) [.int .i64 st] w1
 have t2 := turn_setCells g ((soN c line + k) * 11 + 2) (dcells (wd2 st d)).toList (w1.setCells g ((soN c line + k) * 11 + 0) [.int .i64 st])
 rw [Nat.add_mul, Nat.add_zero] at h2 t1 t2
 exact ⟨rfl, h2, ((TurnG.of_below hb).trans t1).trans t2⟩
theorem blk_cells {w : World} {g : Nat} {cs : Array Value} {t : TypeId} (h : w.heap[g]? = some (.cells cs t (0, 0))) (o : Nat) : w.cell? ⟨g, o, none⟩ = cs[o]? := by simp [World.cell?, h]
set_option maxHeartbeats 2000000 in
theorem set_any {w : World} {b g : Nat} {c : Cfg} {L : List Wy} (h : Ar w b g c L) (hT : Tb w) (line st : Int) (d : Wd) :
  Calls Tryz.prog 50 #[.pointer (some ⟨b, 0, none⟩), .int .i64 line, .int .i64 st, .agg (dcells d)] w (GaveA w b g c (setP c L line st d)) := by
 have hB0 : ∀ o, Below w.heap.size w (w.alloc o) := fun o => (Below.refl _ _).alloc (Nat.le_refl _) _
 have HEl : ∀ n, setP c L line st d = (n, L) → Hid (∀ w', Below w.heap.size w w' → GaveA w b g c (setP c L line st d) (.returned (.int .i64 n)) w') := fun n e => Lib.hid (fun w' hb => by
  rw [e]
  exact ⟨rfl, h.below hb, .of_below hb⟩)
 rcases hp : plc c L line with _ | k
 ·have HW := Lib.hid (fun o => wayOf_no (h.below (hB0 o)) (hT.keeps (hB0 o)) line hp)
  have HE := HEl 5 (setP_no st d hp)
  clear h hT hp HEl
  go_enter Tryz.func50, Tryz.ntmps50
  go_wp2_with (go_at_call 99; refine (HW.out _).mono ?_; rintro e w1 ⟨rfl, hb1⟩)
  go_ret
  exact HE.out _ (bbox hb1)
 ·obtain ⟨hl, hk, x, hx, hx'⟩ := h.sz.plc_some hp
  have HW := Lib.hid (fun o => wayOf_yes (h.below (hB0 o)) (hT.keeps (hB0 o)) line k hp)
  have HF := Lib.hid (fun w1 (hb : Below w.heap.size w w1) => fits_any (h.below hb) d)
  have hX : ∀ {w1 : World}, Below (w.alloc (.cells (dcells d) 36)).heap.size (w.alloc (.cells (dcells d) 36)) w1 → w1.heap[w.heap.size]? = some (.cells (dcells d) 36 (0, 0)) := fun hb => box_at hb
  rcases Bool.eq_false_or_eq_true (stOk st) with hs | hs
  ·rcases Bool.eq_false_or_eq_true (wOk c d) with hd | hd
   ·rw [hd] at HF
    rcases Bool.eq_false_or_eq_true (decide (st = 0)) with h0 | h0
    ·have h0' : st = 0 := by simpa using h0
     clear h0
     have HE : Hid (∀ w1, Below w.heap.size w w1 → GaveA w b g c (setP c L line st d) (.returned (.int .i64 0)) ((w1.setCells g (soN c line * 11 + k * 11) [.int .i64 st]).setCells g (soN c line * 11 + k * 11 + 2) (dcells (wd2 st d)).toList)) := Lib.hid (fun w1 hb => set_tell h hp hx ⟨hs, hd⟩ hb)
     rw [show wd2 st d = d0 by unfold wd2; rw [if_pos h0']] at HE
     have HC : Hid (∀ w1, Below w.heap.size w w1 → (∀ o, w1.frozen? ⟨g, o, none⟩ = false) ∧ w1.rangeAt g (soN c line * 11 + k * 11) (yc x)) := Lib.hid (fun w1 hb => ⟨(h.below hb).fz, (h.below hb).way_at hx⟩)
     have hne : ¬ g = w.heap.size := by have := h.gl; omega
     generalize soN c line * 11 + k * 11 = B at *
     clear h hT hp hl hk hx hx' HEl
     have h0 : (st == 0) = true := by simpa using h0'
     clear h0'
     go_enter Tryz.func50, Tryz.ntmps50
     go_wp2_with (first
      | (go_at_call 99; refine (HW.out _).mono ?_; rintro e w1 ⟨rfl, hb1⟩)
      | (go_at_call 100; refine (isState_any _ _).mono ?_; rintro e w2 ⟨rfl, rfl⟩; rw [hs]; have hcc := blk_cells (hX hb1))
      | (go_at_call 101; refine (HF.out _ (bbox hb1)).mono ?_; rintro e w3 ⟨rfl, hb3⟩)
      | ((with_reducible refine wpList_store_row (o := ⟨none, _, _, _, _, _⟩) rfl 36 (.tmp 7) (.tmp 30) rfl w.heap.size (dcells d0) ?sx ?sy 36 ?old ?sg ?si ?so ?s1 ?_); (case sx => rfl); (case sy => rfl); (case old => exact dcells d); (case sg => exact (hb3.block w.heap.size (zbox hb1)).trans (hX hb1)); (case si => kernel_rfl); (case so => rfl); (case s1 => kernel_rfl)))
     have hb4 := below_setRow (bstep (bbox hb1) hb3) (Nat.le_refl _) (dcells d0)
     obtain ⟨hfz, hrg⟩ := HC.out _ hb4
     have hE := HE.out _ hb4
     have hcd := blk_cells (setRow_heap _ _ _ _ _ _ ((hb3.block w.heap.size (zbox hb1)).trans (hX hb1)) : (w3.setRow w.heap.size (dcells d0)).heap[w.heap.size]? = _)
     generalize w3.setRow w.heap.size (dcells d0) = w4 at *
     have q0 := hrg 0 _ rfl
     rw [Nat.add_zero] at q0
     have q2 := hrg 2 _ rfl
     have q3 := hrg 3 _ rfl
     have q4 := hrg 4 _ rfl
     have q5 := hrg 5 _ rfl
     have q6 := hrg 6 _ rfl
     have q7 := hrg 7 _ rfl
     have q8 := hrg 8 _ rfl
     have q9 := hrg 9 _ rfl
     clear hcc hrg HC HE HW HF
     go_region
     all_goals
      go_wp2
      go_ret
      exact hE.drew
    ·have h0' : (st == 0) = false := by simpa using h0
     clear h0
     have HE : Hid (∀ w1, Below w.heap.size w w1 → GaveA w b g c (setP c L line st d) (.returned (.int .i64 0)) ((w1.setCells g (soN c line * 11 + k * 11) [.int .i64 st]).setCells g (soN c line * 11 + k * 11 + 2) (dcells (wd2 st d)).toList)) := Lib.hid (fun w1 hb => set_tell h hp hx ⟨hs, hd⟩ hb)
     rw [show wd2 st d = d by unfold wd2; rw [if_neg (by simpa using h0')]] at HE
     have HC : Hid (∀ w1, Below w.heap.size w w1 → (∀ o, w1.frozen? ⟨g, o, none⟩ = false) ∧ w1.rangeAt g (soN c line * 11 + k * 11) (yc x)) := Lib.hid (fun w1 hb => ⟨(h.below hb).fz, (h.below hb).way_at hx⟩)
     have hne : ¬ g = w.heap.size := by have := h.gl; omega
     generalize soN c line * 11 + k * 11 = B at *
     clear h hT hp hl hk hx hx' HEl
     go_enter Tryz.func50, Tryz.ntmps50
     go_wp2_with (first
      | (go_at_call 99; refine (HW.out _).mono ?_; rintro e w1 ⟨rfl, hb1⟩)
      | (go_at_call 100; refine (isState_any _ _).mono ?_; rintro e w2 ⟨rfl, rfl⟩; rw [hs]; have hcc := blk_cells (hX hb1))
      | (go_at_call 101; refine (HF.out _ (bbox hb1)).mono ?_; rintro e w3 ⟨rfl, hb3⟩))
     obtain ⟨hfz, hrg⟩ := HC.out _ (bstep (bbox hb1) hb3)
     have hE := HE.out _ (bstep (bbox hb1) hb3)
     have hcd := blk_cells ((hb3.block w.heap.size (zbox hb1)).trans (hX hb1))
     have q0 := hrg 0 _ rfl
     rw [Nat.add_zero] at q0
     have q2 := hrg 2 _ rfl
     have q3 := hrg 3 _ rfl
     have q4 := hrg 4 _ rfl
     have q5 := hrg 5 _ rfl
     have q6 := hrg 6 _ rfl
     have q7 := hrg 7 _ rfl
     have q8 := hrg 8 _ rfl
     have q9 := hrg 9 _ rfl
     clear hcc hrg HC HE HW HF
     go_region
     go_wp2
     go_ret
     exact hE.drew
   ·have HE := HEl 1 (setP_bad st d hp (by simp [hd]))
    rw [hd] at HF
    generalize soN c line = so at *
    clear h hT hp hl hk hx hx' HEl
    go_enter Tryz.func50, Tryz.ntmps50
    go_wp2_with (first
     | (go_at_call 99; refine (HW.out _).mono ?_; rintro e w1 ⟨rfl, hb1⟩)
     | (go_at_call 100; refine (isState_any _ _).mono ?_; rintro e w2 ⟨rfl, rfl⟩; rw [hs]; have hcc := blk_cells (hX hb1))
     | (go_at_call 101; refine (HF.out _ (bbox hb1)).mono ?_; rintro e w3 ⟨rfl, hb3⟩))
    go_ret
    exact HE.out _ (bstep (bbox hb1) hb3)
  ·have HE := HEl 1 (setP_bad st d hp (by simp [hs]))
   generalize soN c line = so at *
   clear h hT hp hl hk hx hx' HEl
   go_enter Tryz.func50, Tryz.ntmps50
   go_wp2_with (first
    | (go_at_call 99; refine (HW.out _).mono ?_; rintro e w1 ⟨rfl, hb1⟩)
    | (go_at_call 100; refine (isState_any _ _).mono ?_; rintro e w2 ⟨rfl, rfl⟩; rw [hs]))
   go_ret
   exact HE.out _ (bbox hb1)

end Go.Proofs.YtlfhkjjjocmpbaaGreatDoor.Ar

namespace Go.Proofs.YtlfhkjjjocmpbaaGreatDoor.Ar
open Go Go.RowKit

theorem cells_key (M : List Wy) (o : Nat) : (cellsOf yc M)[o]? = (M[o / 11]?).bind fun x => (yc x)[o % 11]? := by
 by_cases h : o / 11 < M.length
 ·have := cellsOf_at yc_len M (o / 11) (o % 11) h (by omega)
  rw [show o / 11 * 11 + o % 11 = o by omega] at this
  rw [this, List.getElem?_eq_getElem h]
  rfl
 ·rw [List.getElem?_eq_none (by rw [cellsOf_len yc_len]; omega), List.getElem?_eq_none (by omega)]
  rfl
theorem made_ways (n o : Nat) : (madeCells (ycells y0) (n * 11))[o]? = (cellsOf yc (List.replicate n y0))[o]? := by
 rw [cells_key]
 unfold madeCells
 by_cases h : o < n * 11
 ·rw [List.getElem?_eq_getElem (by rw [List.length_replicate]; omega), List.getElem_replicate]
  rw [Array.getElem?_map, Array.getElem?_range, if_pos h]
  show some ((ycells y0)[o % 11]!) = (yc y0)[o % 11]?
  have : o % 11 < 11 := by omega
  generalize o % 11 = m at this
  rcases (show m = 0 ∨ m = 1 ∨ m = 2 ∨ m = 3 ∨ m = 4 ∨ m = 5 ∨ m = 6 ∨ m = 7 ∨ m = 8 ∨ m = 9 ∨ m = 10 by omega) with rfl | rfl | rfl | rfl | rfl | rfl | rfl | rfl | rfl | rfl | rfl
  all_goals rfl
 ·rw [List.getElem?_eq_none (by rw [List.length_replicate]; omega), Array.getElem?_eq_none (by simp; omega)]
  rfl

def NewA (w : World) (c : Cfg) (e : Ending) (w' : World) : Prop := ∃ b g, e = .returned (.tuple #[.pointer (some ⟨b, 0, none⟩), .int .i64 0]) ∧ Ar w' b g c (List.replicate (c.se.toNat * c.wa.toNat) y0) ∧ w.heap.size ≤ b ∧ w.heap.size ≤ g ∧ Below w.heap.size w w'
theorem newA_of {w w1 : World} {c : Cfg} (ok : okC c = true) (hc : c.fits) (t1 t2 : TypeId) {n : Nat} (hn : n = c.se.toNat * c.wa.toNat) (hb : Below w.heap.size w w1) :
  NewA w c (.returned (.tuple #[.pointer (some ⟨w1.heap.size + 1, 0, none⟩), .int .i64 0])) ((w1.alloc (.cells (madeCells (ycells y0) (n * 11)) t1)).alloc (.cells (acells c w1.heap.size n) t2)).drew := by
 subst hn
 have h1 : ((w1.alloc (.cells (madeCells (ycells y0) (c.se.toNat * c.wa.toNat * 11)) t1)).alloc (.cells (acells c w1.heap.size (c.se.toNat * c.wa.toNat)) t2)).drew.heap[w1.heap.size]? = some (.cells (madeCells (ycells y0) (c.se.toNat * c.wa.toNat * 11)) t1 (0, 0)) := by
  show ((w1.alloc _).alloc _).heap[w1.heap.size]? = _
  rw [heap_alloc_old _ _ (by simp)]
  exact heap_alloc_new w1 _
 have h2 : ((w1.alloc (.cells (madeCells (ycells y0) (c.se.toNat * c.wa.toNat * 11)) t1)).alloc (.cells (acells c w1.heap.size (c.se.toNat * c.wa.toNat)) t2)).drew.heap[w1.heap.size + 1]? = some (.cells (acells c w1.heap.size (c.se.toNat * c.wa.toNat)) t2 (0, 0)) := by
  have := heap_alloc_new (w1.alloc (.cells (madeCells (ycells y0) (c.se.toNat * c.wa.toNat * 11)) t1)) (.cells (acells c w1.heap.size (c.se.toNat * c.wa.toNat)) t2)
  rw [show (w1.alloc (.cells (madeCells (ycells y0) (c.se.toNat * c.wa.toNat * 11)) t1)).heap.size = w1.heap.size + 1 by simp] at this
  exact this
 refine ⟨w1.heap.size + 1, w1.heap.size, rfl, ⟨fun o => ?_, ?_, fun o => ?_, fun o => ?_, ?_, by omega, ⟨ok, by simp⟩, hc⟩, by have := hb.size; omega, hb.size, ?_⟩
 ·rw [blk_cells h2, List.length_replicate]
 ·simp [World.drew]
 ·rw [blk_cells h1, made_ways]
 ·simp [World.frozen?, h1]
 ·simp [World.drew]
  omega
 ·exact Below.drew ((hb.alloc hb.size _).alloc (by have := hb.size; simp; omega) _)

theorem new_no (c : Cfg) (w : World) (hc : c.fits) (hok : okC c = false) :
  Calls Tryz.prog 29 #[cv c] w fun e w' => e = .returned (.tuple #[.pointer none, .int .i64 1]) ∧ Below w.heap.size w w' := by
 have HC := Lib.hid (fun w => check_any c w hc)
 have h0 : chk c = 1 := by simp [chk, hok]
 rw [h0] at HC
 clear hc hok
 go_enter Tryz.func29, Tryz.ntmps29
 go_wp2_with (go_at_call 18; refine (HC.out _).mono ?_; rintro e w1 ⟨rfl, hb1⟩)
 go_ret2
 exact ⟨rfl, bbox hb1⟩
theorem size_math {c : Cfg} (ok : okC c = true) : ∃ n : Nat, n = c.se.toNat * c.wa.toNat ∧ c.se * c.wa = (n : Int) ∧ wrap64 (n : Int) = n ∧ n ≤ 512 := by
 have hw := ok_ways ok
 have h1 : c.se = (c.se.toNat : Int) := by omega
 have h2 : c.wa = (c.wa.toNat : Int) := by omega
 have h3 := Nat.mul_le_mul (show c.se.toNat ≤ 64 by omega) (show c.wa.toNat ≤ 8 by omega)
 have h4 : c.se * c.wa = ((c.se.toNat * c.wa.toNat : Nat) : Int) := by
  rw [Int.natCast_mul, ← h1, ← h2]
 generalize c.se.toNat * c.wa.toNat = n at *
 exact ⟨n, rfl, h4, wrap_small _ (by omega) (by omega), by omega⟩
set_option maxHeartbeats 1000000 in
theorem new_yes (c : Cfg) (w : World) (hc : c.fits) (hok : okC c = true) :
  Calls Tryz.prog 29 #[cv c] w (NewA w c) := by
 have HC := Lib.hid (fun w => check_any c w hc)
 have h0 : chk c = 0 := by simp [chk, hok]
 rw [h0] at HC
 obtain ⟨n, hn, e1, e2, h512⟩ := size_math hok
 have hmk : ∀ w : World, (Instr.makeSlice 147 (.int .i64 (n : Int)) (.int .i64 (n : Int))).run Tryz.prog w = .ok (.slice (some ⟨w.heap.size, 0, none⟩) n n) (w.alloc (.cells (madeCells (ycells y0) (n * 11)) 66)) := by
  intro w
  have hi : ∃ i : TypeInfo, Tryz.prog.info? 66 = some i ∧ i.zero = some (.agg (ycells y0)) ∧ i.size = 11 ∧ i.bytes = 88 := by
   have := A43
   cases hi : Tryz.prog.info? 66 with
   | none => rw [hi] at this; cases this
   | some i =>
    rw [hi] at this
    simp only [Option.map_some, Option.some.injEq, Prod.mk.injEq] at this
    exact ⟨i, rfl, this.1, this.2.1, this.2.2⟩
  obtain ⟨i, hi, hz, hs, hbt⟩ := hi
  have := run_make (P := Tryz.prog) w 147 66 i (.agg (ycells y0)) Tryz.underlying147 hi hz .i64 .i64 n n (by omega) (by omega) (by rw [hbt]; omega) (by omega)
  rw [hs] at this
  simpa [Value.cells] using this
 have HE : Hid (∀ w1, Below w.heap.size w w1 → NewA w c (.returned (.tuple #[.pointer (some ⟨w1.heap.size + 1, 0, none⟩), .int .i64 0])) ((w1.alloc (.cells (madeCells (ycells y0) (n * 11)) 66)).alloc (.cells (acells c w1.heap.size n) 149)).drew) := Lib.hid (fun w1 hb => newA_of hok hc _ _ hn hb)
 clear hc hok h0 hn
 go_enter Tryz.func29, Tryz.ntmps29
 go_wp2_with (go_at_call 18; refine (HC.out _).mono ?_; rintro e w1 ⟨rfl, hb1⟩)
 have hcc := blk_cells (box_at hb1)
 have hlt := zbox hb1
 have hcc2 : ∀ ob o, (w1.alloc ob).cell? ⟨w.heap.size, o, none⟩ = w1.cell? ⟨w.heap.size, o, none⟩ := fun ob o => World.cell?_alloc_lt w1 ob ⟨w.heap.size, o, none⟩ hlt
 have hE := HE.out _ (bbox hb1)
 clear HE HC
 go_region
 all_goals
  go_wp2
  go_ret2
  exact hE

end Go.Proofs.YtlfhkjjjocmpbaaGreatDoor.Ar
