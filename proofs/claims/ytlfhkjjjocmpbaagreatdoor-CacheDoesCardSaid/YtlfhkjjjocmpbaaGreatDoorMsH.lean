/-
  May, the document's way, in plain words: the same.
-/
import Derived.Test.YtlfhkjjjocmpbaaGreatDoorLayMs
namespace Go.Proofs.YtlfhkjjjocmpbaaGreatDoor
open Go Go.RowKit

def endsB (c : Cfg) (m : Msg) : Bool := if toHome m.kd = true then isin m.fr c.co && m.to == m.ln % c.ho else isin m.to c.co
def swB (c : Cfg) (m : Msg) : Bool :=
  if m.kd = 4 ∨ m.kd = 5 ∨ m.kd = 6 then m.fr == m.ln % c.ho && (isin m.wh c.co && m.wh != m.to)
  else if m.kd = 8 ∨ m.kd = 10 then m.fr == m.ln % c.ho
  else if m.kd = 9 then isin m.fr c.co && m.fr != m.to
  else if m.kd = 7 then ((m.wh == 0 && m.fr == m.ln % c.ho) || (m.wh == 1 && (isin m.fr c.co && m.fr != m.to))) && given m.ow
  else true
def zB (m : Msg) : Bool := (m.kd == 7 || m.ow == 0) && ((decide (4 ≤ m.kd) && decide (m.kd ≤ 7)) || m.wh == 0)
def aB (c : Cfg) (m : Msg) : Bool := if m.kd = 5 ∨ m.kd = 7 ∨ m.kd = 8 then isin m.ac c.co else m.ac == 0

theorem holds_split {c : Cfg} {m : Msg} (h : isKind m.kd = true) : holdsB c m = (endsB c m && (swB c m && (zB m && aB c m))) := by
  obtain ⟨kd, ln, fr, to, wh, ac, ow, w0, w1, w2, w3, w4, w5, w6, w7⟩ := m
  simp only at h
  unfold holdsB endsB swB zB aB datB sender fwdB ansB cth bare ctc htc another acks toHome
  simp only
  rw [Bool.eq_iff_iff]
  rcases kinds h with rfl | rfl | rfl | rfl | rfl | rfl | rfl | rfl | rfl | rfl | rfl <;> simp <;> grind

/-- The message may be, but for its words. -/
theorem may_split {c : Cfg} {m : Msg} (ho : okC c = true) (hk : isKind m.kd = true) (hl : isin m.ln c.li = true) (h1 : endsB c m = true) (h2 : swB c m = true) (h3 : zB m = true) (h4 : aB c m = true) : mayM c m = wordsB m (nw c m.kd) := by
  unfold mayM
  rw [holds_split hk, ho, hk, hl, h1, h2, h3, h4]
  simp
theorem may_ends {c : Cfg} {m : Msg} (hk : isKind m.kd = true) (h : endsB c m = false) : mayM c m = false := by
  unfold mayM
  rw [holds_split hk, h]
  simp
theorem may_sw {c : Cfg} {m : Msg} (hk : isKind m.kd = true) (h : swB c m = false) : mayM c m = false := by
  unfold mayM
  rw [holds_split hk, h]
  simp
theorem may_z {c : Cfg} {m : Msg} (hk : isKind m.kd = true) (h : zB m = false) : mayM c m = false := by
  unfold mayM
  rw [holds_split hk, h]
  simp
theorem may_a {c : Cfg} {m : Msg} (hk : isKind m.kd = true) (h : aB c m = false) : mayM c m = false := by
  unfold mayM
  rw [holds_split hk, h]
  simp
theorem word_nw {c : Cfg} {m : Msg} {k : Nat} : wordB (nw c m.kd) m k = (decide (-2147483648 ≤ m.wd k) && (decide (m.wd k ≤ 2147483647) && (m.wd k == 0 || (decide ((k : Int) < c.wo) && (m.kd == 3 || m.kd == 7))))) := by
  unfold wordB nw
  rw [Bool.eq_iff_iff]
  by_cases h : m.kd = 3 ∨ m.kd = 7
  · simp [h]
  · rw [if_neg h]
    have : ¬ (m.kd = 3) ∧ ¬ (m.kd = 7) := by omega
    simp [this]
    omega
theorem word_cell (m : Msg) (k : Nat) (hk : k < 8) : (mcells m)[7 + k]? = some (.int .i64 (m.wd k)) := by
  rcases (show k = 0 ∨ k = 1 ∨ k = 2 ∨ k = 3 ∨ k = 4 ∨ k = 5 ∨ k = 6 ∨ k = 7 by omega) with rfl | rfl | rfl | rfl | rfl | rfl | rfl | rfl <;> rfl
theorem word_yes {n : Int} {m : Msg} {k : Nat} (h : wordB n m k = true) : -2147483648 ≤ m.wd k ∧ m.wd k ≤ 2147483647 ∧ (m.wd k = 0 ∨ (k : Int) < n) := by
  unfold wordB at h
  simpa using h
theorem word_no {n : Int} {m : Msg} {k : Nat} (h : wordB n m k = false) : m.wd k < -2147483648 ∨ 2147483647 < m.wd k ∨ (-2147483648 ≤ m.wd k ∧ m.wd k ≤ 2147483647 ∧ (m.wd k != 0) = true ∧ n ≤ (k : Int)) := by
  unfold wordB at h
  by_cases a : -2147483648 ≤ m.wd k
  · by_cases b : m.wd k ≤ 2147483647
    · simp only [a, b, decide_true, Bool.true_and, Bool.or_eq_false_iff, beq_eq_false_iff_ne, decide_eq_false_iff_not] at h
      exact .inr (.inr ⟨a, b, by simpa using h.1, by omega⟩)
    · omega
  · omega

end Go.Proofs.YtlfhkjjjocmpbaaGreatDoor
