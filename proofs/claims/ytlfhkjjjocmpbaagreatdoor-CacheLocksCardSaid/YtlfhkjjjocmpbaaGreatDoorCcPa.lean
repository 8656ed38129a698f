/-
  What awake's calls make of a small cache, in plain words.
-/
import Derived.Test.YtlfhkjjjocmpbaaGreatDoorCcO
import Derived.Test.YtlfhkjjjocmpbaaGreatDoorCcN
namespace Go.Proofs.YtlfhkjjjocmpbaaGreatDoor.Cc
open Go Go.RowKit

abbrev c0 : Cfg := ⟨2, 1, 1, 1, 2, 4, 0, 1, 1, 1, 1, 1, 1⟩
abbrev d56 : Wd := ⟨5, 6, 0, 0, 0, 0, 0, 0⟩
abbrev d59 : Wd := ⟨5, 9, 0, 0, 0, 0, 0, 0⟩
abbrev t1 : St := ⟨[⟨0, 3, d0, true⟩], [⟨3, 2, -1, 0, 0, d0, false, false⟩], []⟩
abbrev t2 : St := ⟨[⟨4, 3, d56, true⟩], [⟨3, 2, 0, 0, 4, d56, false, true⟩], []⟩
abbrev t3 : St := ⟨[⟨4, 3, d59, true⟩], [⟨3, 2, 0, 0, 4, d56, false, true⟩], []⟩
abbrev t4 : St := ⟨[⟨4, 3, d59, false⟩], [], []⟩
abbrev t5 : St := ⟨[⟨0, 3, d0, false⟩], [], [⟨3, d59, true⟩]⟩
abbrev t6 : St := ⟨[⟨0, 3, d0, false⟩], [], [⟨3, d59, false⟩]⟩
theorem c0_fits : c0.fits := by simp [Cfg.fits]
theorem c0_ok : okC c0 = true := by kernel_rfl
theorem aw1 : askP c0 1 (emp c0) 3 2 = ((msg 2 3 1 0 0 0 0 d0, 0), t1) := by kernel_rfl
theorem aw2 : doP c0 t1 ⟨1, 7, 0⟩ = ((0, 5), t1) := by kernel_rfl
theorem aw3 : takeP c0 1 t1 (msg 7 3 0 1 0 0 4 d56) = ((m0, false, 0), t2) := by kernel_rfl
theorem aw4 : doP c0 t2 ⟨3, 7, 9⟩ = ((6, 0), t3) := by kernel_rfl
theorem aw5 : finishP c0 1 t3 = ((msg 11 3 1 0 0 0 0 d0, true), t4) := by kernel_rfl
theorem aw6 : evictP c0 1 t4 0 0 = ((msg 3 3 1 0 0 0 0 d59, true, 0), t5) := by kernel_rfl
theorem aw7 : takeP c0 1 t5 (msg 5 3 0 1 0 1 0 d0) = ((msg 7 3 1 0 1 1 4 d59, true, 0), t6) := by kernel_rfl
theorem aw8 : takeP c0 1 t6 (msg 5 3 0 1 0 0 0 d0) = ((m0, false, 7), t6) := by kernel_rfl

end Go.Proofs.YtlfhkjjjocmpbaaGreatDoor.Cc
