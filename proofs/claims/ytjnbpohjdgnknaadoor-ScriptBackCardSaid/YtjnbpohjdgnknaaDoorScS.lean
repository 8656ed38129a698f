/-
  Bytes, the document's, of whatever script; what stands behind the program's start; the script that the statements ask for first.
-/
import Derived.Test.YtjnbpohjdgnknaaDoorScQ
namespace Go.Proofs.YtjnbpohjdgnknaaDoor
open Go Go.RowKit

set_option maxRecDepth 100000 in
set_option maxHeartbeats 2000000 in
theorem refBytes_no (s : Scr) (p : Option Addr) (cp : Nat) (q : Option Addr) (cq : Nat) (w : World) (hs : ScAt w s p q) (hf : Fine s) (hm : mayS s = false) :
    Calls Tryd.prog 9 #[sv s p cp q cq] w (RetS w (bts s).1 (bts s).2) := by
  have HE : Hid (bts s = ([], 1)) := Lib.hid (by unfold bts; rw [hm]; rfl)
  have HF := Lib.hid hf
  have HM := Lib.hid hm
  have K0 := Kp.box w (sC s p cp q cq) 37
  have HS0 := Lib.hid (hs.step K0.2.2)
  clear hs hf hm
  go_enter Tryd.func9, Tryd.ntmps9
  go_wp2_with fail
  refine (refMay_script s p cp q cq _ HS0.out HF.out).mono ?_
  rintro e w1 ⟨rfl, hb1⟩
  rw [HM.out]
  go_wp2
  go_ret2
  exact ⟨by rw [HE.out]; rfl, bbox hb1⟩
/-- Bytes, the document's. -/
theorem refBytes_any (s : Scr) (p : Option Addr) (cp : Nat) (q : Option Addr) (cq : Nat) (w : World) (hs : ScAt w s p q) (hf : Fine s) :
    Calls Tryd.prog 9 #[sv s p cp q cq] w (RetS w (bts s).1 (bts s).2) := by
  rcases Bool.eq_false_or_eq_true (mayS s) with hm | hm
  · exact refBytes_yes s p cp q cq w hs hf hm
  · exact refBytes_no s p cp q cq w hs hf hm

/-- What stands behind the program's start: the two tables. -/
structure Std (w : World) : Prop where
  tab : Tab w
  lt : 1 < w.heap.size
  pow : Pow w.heap.size w
theorem Std.step {w w1 : World} (h : Std w) (hb : Below w.heap.size w w1) : Std w1 := ⟨h.tab.keeps h.lt hb, Nat.lt_of_lt_of_le h.lt hb.size, pow_at h.pow hb⟩

/-! ### The script that the statements ask for first -/

def cA : Cfg := ⟨1, 1, 1, 1, 2, 1, 0, 1, 1, 1, 1, 2, 3⟩
def sA : Scr := ⟨cA, [[⟨1, 1, 0⟩]], [⟨5, 6, 7⟩]⟩
def bA : List UInt8 := [1, 0, 0, 1, 1, 0, 0, 1, 1, 1, 1, 2, 3, 2, 76, 49, 5, 6, 7]
theorem rd_A : rdM bA = .ok sA := by kernel_rfl
theorem bts_A : bts sA = (bA, 0) := by kernel_rfl
theorem rd_1 : rdM [1] = .error 3 := by kernel_rfl
def sZ : Scr := ⟨c0, [], []⟩
theorem bts_Z : bts sZ = ([], 1) := by kernel_rfl
theorem fine_A : Fine sA := ⟨by simp [Cfg.fits, sA, cA], by simp [sA], by simp [sA], fun j hj => by
  have : j = 0 := by simp [sA] at hj; omega
  subst this
  simp [sA]⟩
theorem fine_Z : Fine sZ := ⟨by simp [Cfg.fits, sZ], by simp [sZ], by simp [sZ], fun j hj => by simp [sZ] at hj⟩

end Go.Proofs.YtjnbpohjdgnknaaDoor
