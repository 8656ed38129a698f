/-
  What large and own of the statements do: how much a script is, and a script of the document's.
-/
import Derived.Test.YtjnbpohjdgnknaaDoorScI
namespace Go.Proofs.YtjnbpohjdgnknaaDoor
open Go Go.RowKit

/-- So much there is of the first programs. -/
def part (s : Scr) (k : Nat) : Nat := s.pk.length + ((s.ps.take k).map fun l => l.length + 1).sum
def tot (s : Scr) : Nat := part s s.ps.length
theorem part_more (s : Scr) (k : Nat) (h : k < s.ps.length) : part s (k + 1) = part s k + ((s.ps.getD k []).length + 1) := by
  unfold part
  rw [List.take_succ_eq_append_getElem h, List.map_append, List.sum_append, List.getD_eq_getElem?_getD, List.getElem?_eq_getElem h]
  simp
  omega
theorem part_le (s : Scr) : ∀ (m k : Nat), k + m ≤ s.ps.length → part s k + m ≤ part s (k + m)
  | 0, k, _ => by simp
  | m + 1, k, h => by
    have h1 := part_le s m k (by omega)
    have h2 := part_more s (k + m) (by omega)
    have e : k + (m + 1) = k + m + 1 := by omega
    rw [e, h2]
    omega
theorem part_tot (s : Scr) (k : Nat) (h : k ≤ s.ps.length) : part s k ≤ tot s := by
  have := part_le s (s.ps.length - k) k (by omega)
  rw [show k + (s.ps.length - k) = s.ps.length by omega] at this
  unfold tot
  omega
/-- Nothing is longer than memory. -/
structure Big (s : Scr) : Prop where
  c : s.c.fits
  ps : s.ps.length ≤ 4611686018427387903
  pk : s.pk.length ≤ 4611686018427387903
  l : ∀ j, j < s.ps.length → (s.ps.getD j []).length ≤ 4611686018427387903
theorem Big.fine {s : Scr} (h : Big s) (ht : ¬ 3000 < tot s) : Fine s := by
  have h0 := part_tot s 0 (by omega)
  have e0 : part s 0 = s.pk.length := by simp [part]
  have h1 := part_le s s.ps.length 0 (by omega)
  rw [Nat.zero_add] at h1
  have e1 : part s s.ps.length = tot s := rfl
  refine ⟨h.c, by omega, by omega, fun j hj => ?_⟩
  have h2 := part_more s j hj
  have h3 := part_tot s (j + 1) (by omega)
  omega

theorem ret_true' {a b : Bool} (h : b = true) (k : a = true) : Ending.returned (.bool a) = .returned (.bool b) := by rw [h, k]
theorem ret_false' {a b : Bool} (h : b = false) (k : a = false) : Ending.returned (.bool a) = .returned (.bool b) := by rw [h, k]

set_option maxRecDepth 100000 in
set_option maxHeartbeats 2000000 in
theorem large_any (s : Scr) (p : Option Addr) (cp : Nat) (q : Option Addr) (cq : Nat) (w : World) (hs : ScAt w s p q) (hf : Big s) :
    Calls Tryd.prog 7 #[sv s p cp q cq] w fun e w' => e = .returned (.bool (decide (3000 < tot s))) ∧ Below w.heap.size w w' := by
  have HF := Lib.hid hf
  have HS := Lib.hid hs
  have hlp := hf.ps
  have hlk := hf.pk
  clear hs hf
  have K0 := Kp.box w (sC s p cp q cq) 28
  have hp0 : part s 0 = s.pk.length := by simp [part]
  have HP0 := Lib.hid hp0
  clear hp0
  go_enter Tryd.func7, Tryd.ntmps7
  go_wp2
  go_loopw [3, 4] (fun n i wr => ∃ k : Nat, k ≤ s.ps.length ∧ i = .int .i64 k ∧ n = .int .i64 (part s k : Nat) ∧ Kp w (sC s p cp q cq) wr) (fun _ i _ => s.ps.length - (intOf i).toNat)
  case atStart => exact ⟨0, Nat.zero_le _, rfl, by rw [HP0.out], K0⟩
  case round =>
    obtain ⟨k, hk, rfl, rfl, K2⟩ := hrel
    have hc2 := K2.1
    have HT := Lib.hid (part_tot s k hk)
    by_cases hlt : k < s.ps.length
    · by_cases ht : part s k ≤ 3000
      · obtain ⟨g, off, u, rfl, hg, hcu, hou⟩ := (HS.out.ps.step K2.2.2) k hlt
        have hl := HF.out.l k hlt
        obtain ⟨pa, cap, rfl⟩ := hou.form
        have HM := Lib.hid (part_more s k hlt)
        clear hou
        generalize s.ps.getD k [] = l at *
        generalize ht0 : part s k = t at *
        clear ht0
        go_wp2
        go_roundw
        case rel => exact ⟨k + 1, by omega, by go_num, by rw [HM.out]; go_num, K2⟩
        case measure => simp [intOf]; omega
      · have HE : Hid (decide (3000 < tot s) = true) := Lib.hid (by have := HT.out; simp; omega)
        generalize part s k = t at *
        have ht2 : 3000 < t := by omega
        go_wp2
        go_ret
        exact ⟨ret_true' HE.out (by first | rfl | (simp; omega)), K2.2.2⟩
    · have HE : Hid (part s k = tot s) := Lib.hid (by rw [show k = s.ps.length by omega]; rfl)
      by_cases ht : 3000 < tot s
      · have HE2 : Hid (decide (3000 < tot s) = true) := Lib.hid (by simpa using ht)
        rw [HE.out]
        go_wp2
        go_ret
        exact ⟨ret_true' HE2.out (by first | rfl | (simp; done) | (simp; omega)), K2.2.2⟩
      · have HE2 : Hid (decide (3000 < tot s) = false) := Lib.hid (by simpa using ht)
        rw [HE.out]
        go_wp2
        go_ret
        exact ⟨ret_false' HE2.out (by first | rfl | (simp; done) | (simp; omega)), K2.2.2⟩

end Go.Proofs.YtjnbpohjdgnknaaDoor
