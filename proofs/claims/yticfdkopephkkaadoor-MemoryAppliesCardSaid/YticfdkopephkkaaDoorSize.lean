/-
  What sizes that may be are, and how many addresses there are (Size itself: SizeP).
-/
import Derived.Test.YticfdkopephkkaaDoorChk
namespace Go.Proofs.YticfdkopephkkaaDoor
open Go Go.RowKit

theorem bnd_in (s lo hi : Int) : bndB s lo hi false = inB s lo hi := by simp [bndB, inB]
theorem bnd_pow (s hi : Int) : bndB s 1 hi true = powB s hi := by
  unfold bndB powB
  rcases Bool.eq_false_or_eq_true (isPow s) with h | h
  · obtain ⟨k, hk, rfl⟩ := (isPow_iff s).1 h
    have := two_lt k hk
    simp [h]
    intro _
    omega
  · simp [h]

/-- The room of each network, by its number. -/
def room (c : Cfg) (k : Nat) : Int := [c.r0, c.r1, c.r2].getD k 0

theorem okC_eq (c : Cfg) : okC c = (inB c.co 1 64 && powB c.ho 16 && powB c.se 64 && inB c.wa 1 8 && powB c.wo 8 && powB c.li 1024 && inB c.po 0 8 && inB c.ms 1 8 && inB c.bu 1 16 && inB c.wb 1 8 && (inB (room c 0) 1 64 && inB (room c 1) 1 64 && inB (room c 2) 1 64)) := by
  unfold okC
  rw [show List.range 13 = [0, 1, 2, 3, 4, 5, 6, 7, 8, 9, 10, 11, 12] by decide]
  simp only [List.all_cons, List.all_nil, okAt, bsz, blo, bhi, bpw, room, List.getD_cons_zero, List.getD_cons_succ, bnd_in, bnd_pow, Bool.and_assoc, Bool.and_true]

theorem chk_ok (c : Cfg) (h : okC c = true) : chk c = 0 := by simp [chk, h]
theorem chk_no (c : Cfg) (h : okC c = false) : chk c = 1 := by simp [chk, h]

/-- How many addresses there are. -/
def sz (c : Cfg) : Int := if okC c = true then c.wo * c.li else 0

theorem inB_of {n lo hi : Int} (h : inB n lo hi = true) : lo ≤ n ∧ n ≤ hi := by simpa [inB] using h
theorem powB_of {n hi : Int} (h : powB n hi = true) : 1 ≤ n ∧ n ≤ hi := by
  unfold powB at h
  simp at h
  obtain ⟨k, hk, rfl⟩ := (isPow_iff n).1 h.1
  have := two_lt k hk
  omega
theorem sz_bound (c : Cfg) (h : okC c = true) : (1 ≤ c.wo ∧ c.wo ≤ 8) ∧ 1 ≤ c.li ∧ c.li ≤ 1024 := by
  rw [okC_eq] at h
  simp at h
  exact ⟨powB_of (by simp [h]), powB_of (by simp [h])⟩
theorem mul_bound (a b : Int) (ha : 1 ≤ a ∧ a ≤ 8) (hb : 1 ≤ b ∧ b ≤ 1024) : 1 ≤ a * b ∧ a * b ≤ 8192 := by
  have h1 : 1 * 1 ≤ a * b := Int.mul_le_mul ha.1 hb.1 (by omega) (by omega)
  have h2 : a * b ≤ 8 * 1024 := Int.mul_le_mul ha.2 hb.2 (by omega) (by omega)
  omega

end Go.Proofs.YticfdkopephkkaaDoor
