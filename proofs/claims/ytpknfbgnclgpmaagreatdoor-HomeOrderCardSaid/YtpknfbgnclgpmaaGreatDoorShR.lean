/-
  The document's Same, of one set told twice.
-/
import Derived.Test.YtpknfbgnclgpmaaGreatDoorLaySh
namespace Go.Proofs.YtpknfbgnclgpmaaGreatDoor.Sh
open Go Go.RowKit Go.Sort

set_option maxRecDepth 100000 in
set_option maxHeartbeats 2000000 in
theorem refSame_yes (s : St) (p q : Option Addr) (cp cq : Nat) (w : World) (hl : s.l.length ≤ 5000) (h1 : NumsIn w p s.l) (h2 : NumsIn w q s.l) :
    Calls Tryz.prog 50 #[.agg (sval s p cp), .agg (sval s q cq)] w fun e w' => e = .returned (.bool true) ∧ Below w.heap.size w w' := by
  have K := H2.box w (sval s p cp) (sval s q cq) 74 74
  have H1 := Lib.hid h1
  have HQ := Lib.hid h2
  have hcA := K.cellsA
  have hcB := K.cellsB
  have hb1 : ∀ b : Bool, (b != b) = false := fun b => by cases b <;> rfl
  clear h1 h2
  go_enter Tryz.func50, Tryz.ntmps50
  go_wp2
  go_loopw [5] (fun i wr => ∃ k : Nat, k ≤ s.l.length ∧ i = .int .i64 k ∧ H2 w (sval s p cp) (sval s q cq) 74 74 wr) (fun i _ => s.l.length - (intOf i).toNat)
  case atStart => exact ⟨0, Nat.zero_le _, rfl, K⟩
  case round =>
    obtain ⟨k, hk, rfl, K2⟩ := hrel
    clear K hcA hcB
    have hcA := K2.cellsA
    have hcB := K2.cellsB
    by_cases hlt : k < s.l.length
    · obtain ⟨g, off, rfl, hg, hc⟩ := (H1.out.step K2.below) k hlt
      obtain ⟨g', off', rfl, hg', hc'⟩ := (HQ.out.step K2.below) k hlt
      generalize s.l.getD k 0 = x at hc hc'
      have hx : (x != x) = false := by simp
      go_wp2
      go_quiet (fail)
      go_wp2
      go_roundw
      case rel => exact ⟨k + 1, by omega, by go_num, K2.step (below_drewN (Below.refl _ _) _)⟩
      case measure => simp [intOf]; omega
    · go_wp2
      go_ret
      exact ⟨rfl, K2.below⟩

end Go.Proofs.YtpknfbgnclgpmaaGreatDoor.Sh
