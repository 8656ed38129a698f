/-
  What Check does, the program's: one contract over a machine's sizes.
-/
import Derived.Test.YticfdkopephkkaaDoorConf
namespace Go.Proofs.YticfdkopephkkaaDoor
open Go Go.RowKit

abbrev cv (c : Cfg) : Value := cval c.co c.ho c.se c.wa c.wo c.li c.po c.ms c.bu c.wb c.r0 c.r1 c.r2

/-- The j-th size, and its bound. -/
def bsz (c : Cfg) (j : Nat) : Int := [c.co, c.ho, c.se, c.wa, c.wo, c.li, c.po, c.ms, c.bu, c.wb, c.r0, c.r1, c.r2].getD j 0
def blo (j : Nat) : Int := ([1, 1, 1, 1, 1, 1, 0, 1, 1, 1, 1, 1, 1] : List Int).getD j 0
def bhi (j : Nat) : Int := ([64, 16, 64, 8, 8, 1024, 8, 8, 16, 8, 64, 64, 64] : List Int).getD j 0
def bpw (j : Nat) : Bool := [false, true, true, false, true, true, false, false, false, false, false, false, false].getD j false
def okAt (c : Cfg) (j : Nat) : Bool := bndB (bsz c j) (blo j) (bhi j) (bpw j)
/-- May the sizes be? -/
def okC (c : Cfg) : Bool := (List.range 13).all (okAt c)
/-- The error's number. -/
def chk (c : Cfg) : Int := if okC c = true then 0 else 1

theorem bsz_fits (c : Cfg) (hc : c.fits) (j : Nat) : bsz c j ≤ 9223372036854775807 := by
  obtain ⟨h0, h1, h2, h3, h4, h5, h6, h7, h8, h9, h10, h11, h12⟩ := hc
  unfold bsz
  match j with
  | 0 | 1 | 2 | 3 | 4 | 5 | 6 | 7 | 8 | 9 | 10 | 11 | 12 => simpa
  | j + 13 => simp

def bc (c : Cfg) : Array Value := bcells c.co c.ho c.se c.wa c.wo c.li c.po c.ms c.bu c.wb c.r0 c.r1 c.r2

theorem index40 (c : Cfg) (k : Nat) (hk : k < 13) (w : World) :
    (Instr.index 66 (.agg (bc c)) (.int .i64 k)).run Tryd.prog w = .ok (.agg #[.int .i64 (bsz c k), .int .i64 (blo k), .int .i64 (bhi k), .bool (bpw k)]) w := by
  rcases (show k = 0 ∨ k = 1 ∨ k = 2 ∨ k = 3 ∨ k = 4 ∨ k = 5 ∨ k = 6 ∨ k = 7 ∨ k = 8 ∨ k = 9 ∨ k = 10 ∨ k = 11 ∨ k = 12 by omega) with rfl | rfl | rfl | rfl | rfl | rfl | rfl | rfl | rfl | rfl | rfl | rfl | rfl
  all_goals kernel_rfl

theorem bounds_cfg (c : Cfg) (w : World) :
    Calls Tryd.prog 22 #[cv c] w fun e w' => e = .returned (.agg (bc c)) ∧ Below w.heap.size w w' := bounds_any _ _ _ _ _ _ _ _ _ _ _ _ _ w

theorem okC_all (c : Cfg) (h : ∀ j, j < 13 → okAt c j = true) : okC c = true := by
  unfold okC; rw [List.all_eq_true]; intro j hj; exact h j (List.mem_range.1 hj)
theorem okC_not (c : Cfg) (k : Nat) (hk : k < 13) (h : okAt c k = false) : okC c = false := by
  rcases Bool.eq_false_or_eq_true (okC c) with h' | h'
  · unfold okC at h'; rw [List.all_eq_true] at h'
    have := h' k (List.mem_range.2 hk)
    rw [h] at this; cases this
  · exact h'

set_option maxHeartbeats 1000000 in
theorem check_any (c : Cfg) (w : World) (hc : c.fits) :
    Calls Tryd.prog 14 #[cv c] w fun e w' => e = .returned (.int .i64 (chk c)) ∧ Below w.heap.size w w' := by
  have HC := Lib.hid hc
  clear hc
  go_enter Tryd.func14, Tryd.ntmps14
  go_wp2_with (go_at_call 22; refine (bounds_cfg c _).mono ?_; rintro e w1 ⟨rfl, hb1⟩)
  go_loopw [7] (fun i wr => ∃ k : Nat, k ≤ 13 ∧ i = .int .i64 k ∧ Hid (∀ j, j < k → okAt c j = true) ∧ Below w.heap.size w wr) (fun i _ => 13 - (intOf i).toNat)
  case atStart => exact ⟨0, by omega, rfl, Lib.hid (fun j hj => by omega), ((Below.refl _ _).alloc (Nat.le_refl _) _).trans (hb1.mono (by simp))⟩
  case round =>
    obtain ⟨k, hk, rfl, HJ, hb⟩ := hrel
    by_cases hlt : k < 13
    · have hi := fun w => index40 c k hlt w
      go_wp2_with (go_at_call 23; refine (holds_any _ _ _ _ _ (bsz_fits c HC.out k)).mono ?_; rintro e w2 ⟨rfl, hb2⟩)
      · have h : (!bndB (bsz c k) (blo k) (bhi k) (bpw k)) = true := by assumption
        have hno := okC_not c k hlt (by simpa [okAt] using h)
        go_ret
        exact ⟨ret_int (by simp [chk, hno]), hb.trans (((Below.refl _ _).alloc hb.size _).trans (hb2.mono (by have := hb.size; simp; omega)))⟩
      · have h : (!bndB (bsz c k) (blo k) (bhi k) (bpw k)) = false := by assumption
        have hB : Below w.heap.size w w2 := hb.trans (((Below.refl _ _).alloc hb.size _).trans (hb2.mono (by have := hb.size; simp; omega)))
        have HK : Hid (∀ j, j < k + 1 → okAt c j = true) := Lib.hid (fun j hj => by
          by_cases e : j = k
          · subst e; simpa [okAt] using h
          · exact HJ.out j (by omega))
        go_roundw
        case rel => exact ⟨k + 1, by omega, by go_num, HK, hB⟩
        case measure => simp [intOf]; omega
    · have hyes := okC_all c (fun j hj => HJ.out j (by omega))
      have HY := Lib.hid hyes
      clear hyes
      go_wp2
      go_ret
      exact ⟨ret_int (by simp [chk, HY.out]), hb⟩

end Go.Proofs.YticfdkopephkkaaDoor
