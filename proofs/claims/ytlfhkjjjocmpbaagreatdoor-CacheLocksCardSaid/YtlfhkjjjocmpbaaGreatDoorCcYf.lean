/-
  CacheLocks where no cache is walked: too many steps, too large a machine, no cache.
-/
import Derived.Test.YtlfhkjjjocmpbaaGreatDoorCcYe
import Derived.Test.YtlfhkjjjocmpbaaGreatDoorCcT
import Derived.Test.YtlfhkjjjocmpbaaGreatDoorCcP
namespace Go.Proofs.YtlfhkjjjocmpbaaGreatDoor.Cc
open Go Go.RowKit

set_option maxRecDepth 100000 in
set_option maxHeartbeats 4000000 in
theorem locks_long (c : Cfg) (core : Int) (q : Option Addr) (cap : Nat) (l : List Stp) (w : World) (hT : Tb w) (h : 60 < l.length) : Calls Tryz.prog 4 #[cv c, .int .i64 core, .slice q l.length cap] w fun e w' => e = .returned (.bool true) ∧ Below w.heap.size w w' := by
  have HB0 := Lib.hid (b_alloc w (.cells (ccells c) 24))
  have HAw := Lib.hid (awake_any (w.alloc (.cells (ccells c) 24)) (hT.keeps HB0.out))
  have g1 : (60 : Int) < l.length := by omega
  clear hT h
  go_enter Tryz.func4, Tryz.ntmps4
  go_wp2_with fail
  refine HAw.out.mono ?_
  rintro e w1 ⟨rfl, hb1⟩
  have HB1 := Lib.hid (HB0.out.trans (hb1.mono (by simp)))
  clear hb1
  go_wp2
  go_ret
  exact ⟨rfl, HB1.out⟩
set_option maxRecDepth 100000 in
set_option maxHeartbeats 4000000 in
theorem locks_large (c : Cfg) (core : Int) (q : Option Addr) (cap : Nat) (l : List Stp) (w : World) (hT : Tb w) (h : l.length ≤ 60) (hl : largeB c = true) : Calls Tryz.prog 4 #[cv c, .int .i64 core, .slice q l.length cap] w fun e w' => e = .returned (.bool true) ∧ Below w.heap.size w w' := by
  have HB0 := Lib.hid (b_alloc w (.cells (ccells c) 24))
  have HAw := Lib.hid (awake_any (w.alloc (.cells (ccells c) 24)) (hT.keeps HB0.out))
  have g1 : ¬ (60 : Int) < l.length := by omega
  have HL := Lib.hid (large_any c)
  rw [hl] at HL
  clear hT h hl
  go_enter Tryz.func4, Tryz.ntmps4
  go_wp2_with fail
  refine HAw.out.mono ?_
  rintro e w1 ⟨rfl, hb1⟩
  have HB1 := Lib.hid (HB0.out.trans (hb1.mono (by simp)))
  have hcc := c_cell ((hb1.block w.heap.size (by simp)).trans (heap_alloc_new w (.cells (ccells c) 24)))
  clear hb1
  go_wp2_with fail
  refine (HL.out _).mono ?_
  rintro e w2 ⟨rfl, hb2⟩
  have HB2 := Lib.hid (b_step HB1.out hb2)
  clear hb2 hcc
  go_wp2
  go_ret
  exact ⟨rfl, HB2.out⟩
set_option maxRecDepth 100000 in
set_option maxHeartbeats 4000000 in
theorem locks_none (c : Cfg) (core : Int) (q : Option Addr) (cap : Nat) (l : List Stp) (w : World) (hc : c.fits) (hT : Tb w) (h : l.length ≤ 60) (hl : largeB c = false) (hn : okC c = false ∨ core < 0 ∨ c.co ≤ core) : Calls Tryz.prog 4 #[cv c, .int .i64 core, .slice q l.length cap] w fun e w' => e = .returned (.bool true) ∧ Below w.heap.size w w' := by
  have HB0 := Lib.hid (b_alloc w (.cells (ccells c) 24))
  have HAw := Lib.hid (awake_any (w.alloc (.cells (ccells c) 24)) (hT.keeps HB0.out))
  have g1 : ¬ (60 : Int) < l.length := by omega
  have HL := Lib.hid (large_any c)
  rw [hl] at HL
  have HN : Hid (∀ w, Calls Tryz.prog 10 #[cv c, .int .i64 core] w (NoC w)) := Lib.hid (fun w => by
    rcases Bool.eq_false_or_eq_true (okC c) with ok | ok
    · exact cnew_core c core w hc ok (hn.resolve_left (by simp [ok]))
    · exact cnew_bad c core w hc ok)
  have HCh := Lib.hid (fun w => check_any c w hc)
  have hw : (chk c != 0) = true ∨ (chk c != 0) = false ∧ (core < 0 ∨ ¬ core < 0 ∧ c.co ≤ core) := by
    by_cases e : chk c = 0
    · refine .inr ⟨by simpa using e, ?_⟩
      have ok : okC c = true := by
        rcases Bool.eq_false_or_eq_true (okC c) with q | q
        · exact q
        · rw [chk_no c q] at e; cases e
      rcases hn with q | q | q
      · rw [ok] at q; cases q
      · exact .inl q
      · by_cases h0 : core < 0
        · exact .inl h0
        · exact .inr ⟨h0, q⟩
    · exact .inl (by simpa using e)
  generalize chk c = ck at *
  clear hc hT h hl hn
  go_enter Tryz.func4, Tryz.ntmps4
  go_wp2_with fail
  refine HAw.out.mono ?_
  rintro e w1 ⟨rfl, hb1⟩
  have HB1 := Lib.hid (HB0.out.trans (hb1.mono (by simp)))
  have hcc := c_cell ((hb1.block w.heap.size (by simp)).trans (heap_alloc_new w (.cells (ccells c) 24)))
  have HC1 := Lib.hid ((hb1.block w.heap.size (by simp)).trans (heap_alloc_new w (.cells (ccells c) 24)))
  clear hb1
  go_wp2_with fail
  refine (HL.out _).mono ?_
  rintro e w2 ⟨rfl, hb2⟩
  have HB2 := Lib.hid (b_step HB1.out hb2)
  have HC2 := Lib.hid ((hb2.block _ (lt_blk HC1.out)).trans HC1.out)
  have hcc2 := c_cell HC2.out
  clear hb2 hcc
  go_wp2_with fail
  refine (HN.out _).mono ?_
  rintro e w3 ⟨rfl, hb3⟩
  have HB3 := Lib.hid (b_step HB2.out hb3)
  have HC3 := Lib.hid ((hb3.block _ (lt_blk HC2.out)).trans HC2.out)
  have hcc3 := c_cell HC3.out
  clear hb3 hcc2
  go_wp2_with fail
  refine (HCh.out _).mono ?_
  rintro e w4 ⟨rfl, hb4⟩
  have HB4 := Lib.hid (b_step HB3.out hb4)
  have hcc4 := c_cell ((hb4.block _ (lt_blk HC3.out)).trans HC3.out)
  clear hb4 hcc3
  rcases hw with g2 | ⟨g2, g3 | ⟨g3, g4⟩⟩
  all_goals
    go_wp2
    go_ret
    exact ⟨rfl, HB4.out⟩

end Go.Proofs.YtlfhkjjjocmpbaaGreatDoor.Cc
