/-
  An array of ways in plain words: its list of ways, where a line's set lies, where a line is, and what Lay, Set and Lock make of it.
-/
import Derived.Test.YtldbepaclddgmaaDoorSplitB
namespace Go.Proofs.YtldbepaclddgmaaDoor
open Go Go.RowKit

/-- A line's words. -/
structure Wd where
  w0 : Int
  w1 : Int
  w2 : Int
  w3 : Int
  w4 : Int
  w5 : Int
  w6 : Int
  w7 : Int
/-- A way. -/
structure Wy where
  st : Int
  ln : Int
  wd : Wd
  lk : Bool
def d0 : Wd := ⟨0, 0, 0, 0, 0, 0, 0, 0⟩
def y0 : Wy := ⟨0, 0, d0, false⟩
abbrev dcells (d : Wd) : Array Value := #[.int .i64 d.w0, .int .i64 d.w1, .int .i64 d.w2, .int .i64 d.w3, .int .i64 d.w4, .int .i64 d.w5, .int .i64 d.w6, .int .i64 d.w7]
abbrev ycells (x : Wy) : Array Value := #[.int .i64 x.st, .int .i64 x.ln, .int .i64 x.wd.w0, .int .i64 x.wd.w1, .int .i64 x.wd.w2, .int .i64 x.wd.w3, .int .i64 x.wd.w4, .int .i64 x.wd.w5, .int .i64 x.wd.w6, .int .i64 x.wd.w7, .bool x.lk]
def yc (x : Wy) : List Value := (ycells x).toList
theorem yc_len (x : Wy) : (yc x).length = 11 := rfl
/-- The words by their number. -/
def Wd.at (d : Wd) (k : Nat) : Int := [d.w0, d.w1, d.w2, d.w3, d.w4, d.w5, d.w6, d.w7].getD k 0

/-- Is a way's line there? Is it that one? -/
def tk (x : Wy) : Bool := x.st != 0 || x.lk
def isL (line : Int) (x : Wy) : Bool := x.ln == line && tk x
/-- Where a line's set begins, and its ways. -/
def soN (c : Cfg) (line : Int) : Nat := (line % c.se).toNat * c.wa.toNat
def pt (c : Cfg) (L : List Wy) (line : Int) : List Wy := (L.drop (soN c line)).take c.wa.toNat
/-- Where a line is in its set. -/
def plc (c : Cfg) (L : List Wy) (line : Int) : Option Nat := if lnOk c line = true then (pt c L line).findIdx? (isL line) else none
/-- The first free way. -/
def fre (c : Cfg) (L : List Wy) (line : Int) : Option Nat := if lnOk c line = true then (pt c L line).findIdx? (fun x => !tk x) else none
def oi : Option Nat → Int
  | some k => k
  | none => -1
/-- Are a state, and words, of a machine? -/
def stOk (s : Int) : Bool := decide (0 ≤ s) && decide (s ≤ 4)
def wOk (c : Cfg) (d : Wd) : Bool := (List.range 8).all fun k => decide ((k : Int) < c.wo) || d.at k == 0
def upd (L : List Wy) (i : Nat) (f : Wy → Wy) : List Wy := match L[i]? with
  | some x => L.set i (f x)
  | none => L
def newY (line : Int) : Wy := ⟨0, line, d0, true⟩
def setY (st : Int) (d : Wd) (x : Wy) : Wy := { x with st := st, wd := if st = 0 then d0 else d }
def lockY (b : Bool) (x : Wy) : Wy := { x with lk := b }
def tkAt (L : List Wy) (i : Nat) : Bool := match L[i]? with
  | some x => tk x
  | none => false

/-- Lay, Set, Lock: the answer, and the ways. -/
def layP (c : Cfg) (L : List Wy) (line way : Int) : Int × List Wy :=
  if lnOk c line = false ∨ way < 0 ∨ c.wa ≤ way then (1, L)
  else if (plc c L line).isSome = true then (6, L)
  else if tkAt L (soN c line + way.toNat) = true then (4, L)
  else (0, L.set (soN c line + way.toNat) (newY line))
def setP (c : Cfg) (L : List Wy) (line st : Int) (d : Wd) : Int × List Wy := match plc c L line with
  | none => (5, L)
  | some k => if stOk st = true ∧ wOk c d = true then (0, upd L (soN c line + k) (setY st d)) else (1, L)
def lockP (c : Cfg) (L : List Wy) (line : Int) (b : Bool) : Int × List Wy := match plc c L line with
  | none => (5, L)
  | some k => (0, upd L (soN c line + k) (lockY b))

/-- What an array's sizes say of its ways. -/
structure Sized (c : Cfg) (L : List Wy) : Prop where
  ok : okC c = true
  len : L.length = c.se.toNat * c.wa.toNat

theorem ok_ways {c : Cfg} (h : okC c = true) : (1 ≤ c.wa ∧ c.wa ≤ 8) ∧ (1 ≤ c.se ∧ c.se ≤ 64) ∧ (1 ≤ c.wo ∧ c.wo ≤ 8) ∧ (1 ≤ c.li ∧ c.li ≤ 1024) := by
  have hp := ok_pows c h
  refine ⟨?_, hp.2.2.1.2, hp.1.2, hp.2.2.2.2⟩
  rw [okC_eq] at h
  simp [inB] at h
  omega
theorem soN_lt {c : Cfg} (h : okC c = true) (line : Int) : (line % c.se).toNat < c.se.toNat ∧ soN c line + c.wa.toNat ≤ c.se.toNat * c.wa.toNat := by
  have hw := ok_ways h
  have h1 := Int.emod_nonneg line (b := c.se) (by omega)
  have h2 := Int.emod_lt_of_pos line (b := c.se) (by omega)
  have h3 : (line % c.se).toNat < c.se.toNat := by omega
  refine ⟨h3, ?_⟩
  have := Nat.mul_le_mul_right c.wa.toNat (show (line % c.se).toNat + 1 ≤ c.se.toNat by omega)
  rw [Nat.add_mul, Nat.one_mul] at this
  exact this
theorem Sized.pt_len {c : Cfg} {L : List Wy} (h : Sized c L) (line : Int) : (pt c L line).length = c.wa.toNat := by
  have := (soN_lt h.ok line).2
  unfold pt
  rw [List.length_take, List.length_drop, h.len]
  omega
theorem Sized.pt_at {c : Cfg} {L : List Wy} (_ : Sized c L) (line : Int) (j : Nat) (hj : j < c.wa.toNat) : (pt c L line)[j]? = L[soN c line + j]? := by
  unfold pt
  rw [List.getElem?_take, if_pos hj, List.getElem?_drop]
theorem Sized.set {c : Cfg} {L : List Wy} (h : Sized c L) (i : Nat) (x : Wy) : Sized c (L.set i x) := ⟨h.ok, by simpa using h.len⟩
theorem Sized.upd {c : Cfg} {L : List Wy} (h : Sized c L) (i : Nat) (f : Wy → Wy) : Sized c (upd L i f) := by
  unfold Go.Proofs.YtldbepaclddgmaaDoor.upd
  split
  · exact h.set i _
  · exact h
/-- What a place tells. -/
theorem Sized.plc_some {c : Cfg} {L : List Wy} (h : Sized c L) {line : Int} {k : Nat} (hp : plc c L line = some k) :
    lnOk c line = true ∧ k < c.wa.toNat ∧ ∃ x, L[soN c line + k]? = some x ∧ isL line x = true := by
  unfold plc at hp
  split at hp
  · rename_i hl
    obtain ⟨hk, hx, _⟩ := List.findIdx?_eq_some_iff_getElem.1 hp
    have hk' := hk
    rw [h.pt_len] at hk'
    refine ⟨hl, hk', _, ?_, hx⟩
    rw [← h.pt_at line k hk', List.getElem?_eq_getElem hk]
  · cases hp
theorem Sized.at_some {c : Cfg} {L : List Wy} (h : Sized c L) {line : Int} {j : Nat} (hj : j < c.wa.toNat) : ∃ x, L[soN c line + j]? = some x := by
  have := (soN_lt h.ok line).2
  exact ⟨_, List.getElem?_eq_getElem (by rw [h.len]; omega)⟩
theorem upd_some {L : List Wy} {i : Nat} {x : Wy} (f : Wy → Wy) (h : L[i]? = some x) : upd L i f = L.set i (f x) := by unfold upd; rw [h]
theorem tkAt_some {L : List Wy} {i : Nat} {x : Wy} (h : L[i]? = some x) : tkAt L i = tk x := by unfold tkAt; rw [h]

end Go.Proofs.YtldbepaclddgmaaDoor
