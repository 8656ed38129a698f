/-
  The walk of MessageTells: whatever sizes, message and bytes it is given, it returns true, and writes nothing that was there.
-/
import Derived.Test.YtjbodkmjhnlhiaaMsX
import Derived.Test.YtjbodkmjhnlhiaaMsU
namespace Go.Proofs.Ytjbodkmjhnlhiaa
open Go Go.RowKit Go.Sort

theorem cells_grown {w : World} {b : Nat} {L : Array Value} {t : TypeId} (h : w.heap[b]? = some (.cells L t (0, 0))) : ∀ o d os, (grow (redrawn w d) os).cell? ⟨b, o, none⟩ = L[o]? := fun o d os =>
  blk_cell (((below_regrown w d os).block b (lt_of_block h)).trans h) o

set_option maxRecDepth 100000 in
set_option maxHeartbeats 8000000 in
theorem tells_short (c : Cfg) (m : Msg) (T : ByteArray) (w : World) (hc : c.fits) (h100 : ¬ 100 < T.size) :
    Calls Try.prog 3 #[cv c, mv m, .string T] w fun e w' => e = .returned (.bool true) ∧ Below w.heap.size w w' := by
  have h1 : ¬ 100 < (T.size : Int) := by omega
  obtain ⟨B, n, hP, hR⟩ : ∃ (B : ByteArray) (n : Int), (∀ w, Calls Try.prog 7 #[cv c, mv m] w fun e w' => e = .returned (.tuple #[.string B, .int .i64 n]) ∧ Below w.heap.size w w')
      ∧ (∀ w, Calls Try.prog 8 #[cv c, mv m] w fun e w' => e = .returned (.tuple #[.string B, .int .i64 n]) ∧ Below w.heap.size w w') :=
    ⟨⟨(putM c m).1.toArray⟩, (putM c m).2, fun w => put_any c m w hc, fun w => refPut_any c m w⟩
  obtain ⟨M, k, hT, hU⟩ : ∃ (M : Msg) (k : Int), (∀ w, Calls Try.prog 9 #[cv c, .string T] w fun e w' => e = .returned (.tuple #[mv M, .int .i64 k]) ∧ Below w.heap.size w w')
      ∧ (∀ w, Calls Try.prog 10 #[cv c, .string T] w fun e w' => e = .returned (.tuple #[mv M, .int .i64 k]) ∧ Below w.heap.size w w') :=
    ⟨(takM c T.data.toList).1, (takM c T.data.toList).2, fun w => take_any c T w hc, fun w => refTake_any c T w⟩
  obtain ⟨x, hN, hN'⟩ : ∃ x : Int, (∀ w, Calls Try.prog 11 #[.int .i64 m.kd] w fun e w' => e = .returned (.int .i64 x) ∧ Below w.heap.size w w') ∧ (∀ w, Calls Try.prog 12 #[.int .i64 m.kd] w fun e w' => e = .returned (.int .i64 x) ∧ Below w.heap.size w w') :=
    ⟨net m.kd, fun w => net_any _ w, fun w => refNet_any _ w⟩
  obtain ⟨y, hH, hH'⟩ : ∃ y : Bool, (∀ w, Calls Try.prog 13 #[.int .i64 m.kd] w fun e w' => e = .returned (.bool y) ∧ Below w.heap.size w w') ∧ (∀ w, Calls Try.prog 14 #[.int .i64 m.kd] w fun e w' => e = .returned (.bool y) ∧ Below w.heap.size w w') :=
    ⟨toHome m.kd, fun w => home_any _ w, fun w => refHome_any _ w⟩
  obtain ⟨z, hM, hM'⟩ : ∃ z : Bool, (∀ w, Calls Try.prog 15 #[cv c, mv m] w fun e w' => e = .returned (.bool z) ∧ Below w.heap.size w w') ∧ (∀ w, Calls Try.prog 16 #[cv c, mv m] w fun e w' => e = .returned (.bool z) ∧ Below w.heap.size w w') :=
    ⟨mayM c m, fun w => may_any c m w hc, fun w => refMay_any c m w⟩
  have HP := Lib.hid hP; have HR := Lib.hid hR; have HT := Lib.hid hT; have HU := Lib.hid hU; have HN := Lib.hid hN; have HN' := Lib.hid hN'
  have HH := Lib.hid hH; have HH' := Lib.hid hH'; have HM := Lib.hid hM; have HM' := Lib.hid hM'
  have K0 := K2.box w (ccells c) (mcells m) 24 28
  clear hc h100 hP hR hT hU hN hN' hH hH' hM hM'
  go_enter Try.func3, Try.ntmps3
  go_wp2_with (fail)
  refine (awake5_any _).mono ?_
  rintro e w1 ⟨rfl, hb1⟩
  have K1 := K0.step hb1
  have ha := K1.a; have hb := K1.b
  clear hb1 K0
  go_wp2_with (fail)
  refine (HP.out _).mono ?_
  rintro e w2 ⟨rfl, hb2⟩
  have K2' := K1.step hb2
  clear hb2 ha hb K1
  have ha := K2'.a; have hb := K2'.b
  go_wp2_with (fail)
  refine (HR.out _).mono ?_
  rintro e w3 ⟨rfl, hb3⟩
  have K3' := K2'.step hb3
  clear hb3 ha hb K2'
  have ha := K3'.a
  go_wp2_with (fail)
  refine (HT.out _).mono ?_
  rintro e w4 ⟨rfl, hb4⟩
  have K4 := (K3'.step hb4).step ((Below.refl _ w4).alloc (Nat.le_refl _) (.cells (mcells M) 28))
  have N4 := Lib.hid (heap_alloc_new w4 (.cells (mcells M) 28))
  clear hb4 ha K3'
  have ha := K4.a
  go_wp2_with (fail)
  refine (HU.out _).mono ?_
  rintro e w5 ⟨rfl, hb5⟩
  have hb5' := bstep hb5 ((Below.refl _ w5).alloc (Nat.le_refl _) (.cells (mcells M) 28))
  have K5 := K4.step hb5'
  have N5 := Lib.hid ((hb5'.block _ (lt_of_block N4.out)).trans N4.out)
  have O5 := Lib.hid (heap_alloc_new w5 (.cells (mcells M) 28))
  clear hb5 hb5' ha K4 N4
  go_wp2_with (fail)
  have HB := Lib.hid K5.below
  obtain ⟨hA, hB⟩ := K5.grown
  have hx := cells_grown N5.out
  have hy := cells_grown O5.out
  have hq := msg_eql M
  clear K5 N5 O5
  as_aux_lemma =>
    refine wp_region_quiet_below (by kernel_rfl) (by kernel_rfl) ?_
    repeat (go_big_quiet_step (first
      | (go_at_call 11; exact Calls.regrown_of (HN.out _))
      | (go_at_call 12; exact Calls.regrown_of (HN'.out _))
      | (go_at_call 13; exact Calls.regrown_of (HH.out _))
      | (go_at_call 14; exact Calls.regrown_of (HH'.out _))
      | (go_at_call 15; exact Calls.regrown_of (HM.out _))
      | (go_at_call 16; exact Calls.regrown_of (HM'.out _))))
    refine wpQuiet_nil ?_
    rintro w6 ⟨pp, rfl⟩
    clear hA hB hx hy hq
    go_wp2
    go_ret
    exact ⟨rfl, bstep HB.out (below_regrown _ _ _)⟩

set_option maxRecDepth 100000 in
set_option maxHeartbeats 2000000 in
theorem tells_long (c : Cfg) (m : Msg) (T : ByteArray) (w : World) (h1 : 100 < T.size) :
    Calls Try.prog 3 #[cv c, mv m, .string T] w fun e w' => e = .returned (.bool true) ∧ Below w.heap.size w w' := by
  have h2 : 100 < (T.size : Int) := by omega
  have K0 := K2.box w (ccells c) (mcells m) 24 28
  clear h1
  go_enter Try.func3, Try.ntmps3
  go_wp2_with (fail)
  refine (awake5_any _).mono ?_
  rintro e w1 ⟨rfl, hb1⟩
  have K1 := K0.step hb1
  clear hb1 K0
  go_wp2
  go_ret
  exact ⟨rfl, K1.below⟩

/-- MessageTells. -/
theorem messageTells_any (c : Cfg) (m : Msg) (T : ByteArray) (w : World) (hc : c.fits) :
    Calls Try.prog 3 #[cv c, mv m, .string T] w fun e w' => e = .returned (.bool true) ∧ Below w.heap.size w w' := by
  by_cases h1 : 100 < T.size
  · exact tells_long c m T w h1
  · exact tells_short c m T w hc h1

end Go.Proofs.Ytjbodkmjhnlhiaa
