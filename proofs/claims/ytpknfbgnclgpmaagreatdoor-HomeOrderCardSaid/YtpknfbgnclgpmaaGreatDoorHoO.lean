/-
  Of a law upon a home: same, large, and what is looked at ahead of its steps.
-/
import Derived.Test.YtpknfbgnclgpmaaGreatDoorHoK
import Derived.Test.YtpknfbgnclgpmaaGreatDoorHoN
import Derived.Test.YtpknfbgnclgpmaaGreatDoorShR
namespace Go.Proofs.YtpknfbgnclgpmaaGreatDoor.Ho
open Go Go.RowKit

set_option maxRecDepth 100000 in
set_option maxHeartbeats 2000000 in
theorem same_yes (e : Sh.En) (p q : Option Addr) (cp cq : Nat) (w : World) (hl : e.s.l.length ≤ 5000) (h1 : Sh.NumsIn w p e.s.l) (h2 : Sh.NumsIn w q e.s.l) :
    Calls Tryz.prog 22 #[Sh.ev e p cp, Sh.ev e q cq] w fun r w' => r = .returned (.bool true) ∧ Below w.heap.size w w' := by
  have K := H2.box w (.cells (Sh.ecells e p cp) 65) (.cells (Sh.ecells e q cq) 76)
  have HS := Lib.hid (fun w1 (hb : Below w.heap.size w w1) => Sh.refSame_yes e.s p q cp cq w1 hl (h1.step hb) (h2.step hb))
  have hcA := Qu.blk_cell K.a
  have hcB := Qu.blk_cell K.b
  clear hl h1 h2
  go_enter Tryz.func22, Tryz.ntmps22
  go_wp2_with (go_at_call 50; refine (HS.out _ K.below).mono ?_; rintro _ w2 ⟨rfl, hb2⟩; have HB := Lib.hid (bstep K.below hb2); clear hb2)
  go_ret
  exact ⟨rfl, HB.out⟩
def lrgB (c : Cfg) : Bool := decide (64 < c.li) && decide (c.li ≤ 1024)
theorem large_any (c : Cfg) (w : World) : Calls Tryz.prog 7 #[cv c] w fun r w' => r = .returned (.bool (lrgB c)) ∧ Below w.heap.size w w' := by
  have hb := Qu.balloc w (.cells (cfc c) 24)
  by_cases h : 64 < c.li
  · have h' : decide (64 < c.li) = true := by simpa using h
    go_enter Tryz.func7, Tryz.ntmps7
    go_wp2
    go_ret
    exact ⟨Qu.ret_bool (by simp [lrgB, h]), hb⟩
  · have h' : decide (64 < c.li) = false := by simpa using h
    go_enter Tryz.func7, Tryz.ntmps7
    go_wp2
    go_ret
    exact ⟨Qu.ret_bool (by simp only [lrgB, h', Bool.false_and]), hb⟩
theorem large_is {c : Cfg} {q : Bool} (h : lrgB c = q) (w : World) : Calls Tryz.prog 7 #[cv c] w fun r w' => r = .returned (.bool q) ∧ Below w.heap.size w w' := by
  subst h
  exact large_any c w

/-! Steps that came in. -/
def StepsA (w : World) (p : Option Addr) (l : List Sp) : Prop := ∀ i (h : i < l.length), ∃ g off, p = some ⟨g, off, none⟩ ∧ g < w.heap.size ∧ w.rangeAt g (off + i * 20) (scells l[i]).toList
theorem StepsA.step {w w' : World} {p : Option Addr} {l : List Sp} (h : StepsA w p l) (hb : Below w.heap.size w w') : StepsA w' p l := fun i hi => by
  obtain ⟨g, off, e, hg, hr⟩ := h i hi
  exact ⟨g, off, e, Nat.lt_of_lt_of_le hg hb.size, fun j v hv => (hb.cell (p := ⟨g, off + i * 20 + j, none⟩) hg).trans (hr j v hv)⟩
theorem bx_step {w0 wr wr' : World} {F : Nat → Prop} {X : Nat → Obj → Prop} {bx : Bx} (h : Qu.Bx w0 F X bx wr) (hb : Below wr.heap.size wr wr') : Qu.Bx w0 F X bx wr' := (Qu.mv_step hb F X h).1

end Go.Proofs.YtpknfbgnclgpmaaGreatDoor.Ho
