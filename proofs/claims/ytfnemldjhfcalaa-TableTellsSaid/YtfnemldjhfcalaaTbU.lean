/-
  The document's Next, put together.
-/
import Derived.Test.YtfnemldjhfcalaaTbTa
import Derived.Test.YtfnemldjhfcalaaTbTp
import Derived.Test.YtfnemldjhfcalaaTbTw
import Derived.Test.YtfnemldjhfcalaaTbTg
import Derived.Test.YtfnemldjhfcalaaTbTf
namespace Go.Proofs.Ytfnemldjhfcalaa
open Go Go.RowKit Go.Sort

theorem rnext_any (e : En) (p : Option Addr) (cap : Nat) (m : Msg) (v : W8) (w : World) (hl : e.s.l.length ≤ 5000) (hn : NumsIn w p e.s.l) : Calls Try.prog 10 #[ev e p cap, mv m, .agg (wcells v)] w (GaveT2 w (nextT e m v).1 (nextT e m v).2 p e.s.l) := by
  rcases Bool.eq_false_or_eq_true (goodQ e m) with hg | hg
  rotate_left
  · have e1 : nextT e m v = (zT, 1) := by unfold nextT; rw [if_pos hg]
    rw [e1]
    exact rnext_bad e p cap m v w hl hn hg
  have hq := (good_all hg).2.1
  obtain ⟨-, ho, -⟩ := may_parts (good_all hg).1
  simp only [isReq, Bool.or_eq_true, beq_iff_eq] at hq
  by_cases h1 : e.ow = -1
  · rcases hq with hk | hk | hk
    · rcases Bool.eq_false_or_eq_true e.free with hf | hf
      · exact rnext_excl e p cap m v w hl hn hg hk h1 hf
      · exact rnext_shared e p cap m v w hl hn hg hk h1 hf
    · exact rnext_wrt e p cap m v w hl hn hg hk h1
    · exact rnext_putN e p cap m v w hl hn hg hk (by have := (hasB_iff.1 (good_all hg).2.2).1; omega)
  by_cases h2 : e.ow = m.fr
  · rcases hq with hk | hk | hk
    · exact rnext_none e p cap m v w hl hn hg hk h2
    · exact rnext_grt e p cap m v w hl hn hg hk h1 h2
    · exact rnext_putO e p cap m v w hl hn hg hk h2
  · rcases hq with hk | hk | hk
    · exact rnext_fwdS e p cap m v w hl hn hg hk (by omega) h2
    · exact rnext_fwm e p cap m v w hl hn hg hk h1 h2
    · exact rnext_putN e p cap m v w hl hn hg hk h2
theorem rnext_is {e : En} {m : Msg} {v : W8} {t : Tn} {err : Int} (h : nextT e m v = (t, err)) (p : Option Addr) (cap : Nat) (w : World) (hn : NumsIn w p e.s.l) (hl : e.s.l.length ≤ 5000) :
    Calls Try.prog 10 #[ev e p cap, mv m, .agg (wcells v)] w (GaveT2 w t err p e.s.l) := by
  have := rnext_any e p cap m v w hl hn
  rw [h] at this
  exact this

end Go.Proofs.Ytfnemldjhfcalaa
