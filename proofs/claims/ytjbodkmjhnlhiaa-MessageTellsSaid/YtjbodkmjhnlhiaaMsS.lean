/-
  What read does, the program's: its walk.
-/
import Derived.Test.YtjbodkmjhnlhiaaMsR
import Derived.Test.YtjbodkmjhnlhiaaMsH
import Derived.Laws.Strings3
namespace Go.Proofs.Ytjbodkmjhnlhiaa
open Go Go.RowKit

def rdP (c : Cfg) (s : List UInt8) : Msg × Bool := if fitL c s = true then (tellN s (cnt s), true) else (m0, false)
/-- What a call gives that tells a message, and whether there is one. -/
def RetM (w : World) (M : Msg) (b : Bool) (e : Ending) (w' : World) : Prop := e = .returned (.tuple #[mv M, .bool b]) ∧ Below w.heap.size w w'
theorem size_len (T : ByteArray) : T.size = T.data.toList.length := rfl
theorem rd_start (c : Cfg) (w : World) : (∀ o, ((w.alloc (.cells (ccells c) 24)).alloc (.cells (mcells m0) 28)).cell? ⟨w.heap.size, o, none⟩ = (ccells c)[o]?) ∧ ((w.alloc (.cells (ccells c) 24)).alloc (.cells (mcells m0) 28)).heap[w.heap.size + 1]? = some (.cells (mcells m0) 28 (0, 0)) ∧ Below w.heap.size w ((w.alloc (.cells (ccells c) 24)).alloc (.cells (mcells m0) 28)) ∧ ((w.alloc (.cells (ccells c) 24)).alloc (.cells (mcells m0) 28)).heap.size = w.heap.size + 2 :=
  ⟨(K2.box w (ccells c) (mcells m0) 24 28).a, new_at2 w _ _, (K2.box w (ccells c) (mcells m0) 24 28).below, by simp⟩
/-- The head's block is laid. -/
theorem rd_laid (c : Cfg) {w w1 : World} (M : Msg) (hb : Below ((w.alloc (.cells (ccells c) 24)).alloc (.cells (mcells m0) 28)).heap.size ((w.alloc (.cells (ccells c) 24)).alloc (.cells (mcells m0) 28)) w1) :
    RdSt c w (w1.alloc (.cells (mcells M) 28)) w1.heap.size M := by
  obtain ⟨h1, h2, h3, h4⟩ := rd_start c w
  have hs := hb.size
  rw [h4] at hs
  refine ⟨fun o => ?_, ?_, heap_alloc_new w1 _, by omega, ?_⟩
  · exact (((Below.refl _ w1).alloc (Nat.le_refl _) _).cell (p := ⟨w.heap.size, o, none⟩) (by simp only; omega)).trans ((hb.cell (p := ⟨w.heap.size, o, none⟩) (by rw [h4]; simp only; omega)).trans (h1 o))
  · exact (heap_old (by omega)).trans ((hb.block _ (by rw [h4]; omega)).trans h2)
  · exact (bstep h3 hb).alloc (by omega) _
theorem read_ret {w wr : World} {M : Msg} {b : Bool} {a : Act} {g : Nat} (hp : a.tmps.getD 4 undef = .pointer (some ⟨g, 0, none⟩)) (hq : a.tmps.getD 5 undef = .bool b) (hd : a.defers = []) (hg : wr.heap[g]? = some (.cells (mcells M) 28 (0, 0))) (hb : Below w.heap.size w wr) :
    bodyPost Try.prog Try.f19 (RetM w M b) Exit.ret a wr :=
  bodyPost_ret (v := .tuple #[mv M, a.tmps.getD 5 undef]) (results_cell_two Try.results19 _ _ g 28 _ (0, 0) _ hp hg Try.underlying28 rfl (by kernel_rfl)) hd ⟨by rw [hq], hb⟩

set_option maxRecDepth 100000 in
set_option maxHeartbeats 2000000 in
theorem read_short (c : Cfg) (T : ByteArray) (w : World) (h : T.size < 8) :
    Calls Try.prog 19 #[cv c, .string T] w (RetM w m0 false) := by
  obtain ⟨s1, s2, s3, s4⟩ := rd_start c w
  have S2 := Lib.hid s2
  have S3 := Lib.hid s3
  clear s1 s2 s3 s4
  go_enter Try.func19, Try.ntmps19
  go_wp2_with ((with_reducible refine wpList_store_row (o := ⟨none, _, _, _, _, _⟩) rfl 28 (.tmp 4) (.tmp 14) rfl (w.heap.size + 1) (mcells m0) ?sx ?sy 28 ?old ?sg ?si ?so ?s1 ?_); (case sx => rfl); (case sy => rfl); (case sg => exact S2.out); (case si => kernel_rfl); (case so => rfl); (case s1 => kernel_rfl))
  exact read_ret rfl rfl rfl (setRow_heap _ _ _ _ _ _ S2.out) (below_setRow S3.out (by omega) _)

set_option maxRecDepth 100000 in
set_option maxHeartbeats 2000000 in
theorem read_kind (c : Cfg) (T : ByteArray) (w : World) (h : 8 ≤ T.size) (hk : isKind (at8 T.data.toList 0) = false) :
    Calls Try.prog 19 #[cv c, .string T] w (RetM w m0 false) := by
  have HH := Lib.hid (readHead_any T · h)
  have HK : Hid (isKind (headM T.data.toList).kd = false) := Lib.hid hk
  clear hk
  generalize headM T.data.toList = M at *
  go_enter Try.func19, Try.ntmps19
  go_wp2_with (fail)
  refine (HH.out _).mono ?_
  rintro e w1 ⟨rfl, hb1⟩
  have K1 := rd_laid c M hb1
  have hsz := K1.gt
  go_wp2_with (fail)
  refine (ruleOf_any _ _).mono ?_
  rintro e w2 ⟨rfl, rfl⟩
  rw [HK.out]
  go_wp2_with ((with_reducible refine wpList_store_row (o := ⟨none, _, _, _, _, _⟩) rfl 28 (.tmp 4) (.tmp 25) rfl (w.heap.size + 1) (mcells m0) ?sx ?sy 28 ?old ?sg ?si ?so ?s1 ?_); (case sx => rfl); (case sy => rfl); (case sg => exact K1.res); (case si => kernel_rfl); (case so => rfl); (case s1 => kernel_rfl))
  exact read_ret rfl rfl rfl (setRow_heap _ _ _ _ _ _ K1.res) (below_setRow K1.below (by omega) _)

set_option maxRecDepth 100000 in
set_option maxHeartbeats 2000000 in
theorem read_long (c : Cfg) (T : ByteArray) (w : World) (h : 8 ≤ T.size) (hk : isKind (at8 T.data.toList 0) = true) (hn0 : 0 ≤ nw c (at8 T.data.toList 0)) (hn8 : nw c (at8 T.data.toList 0) ≤ 8) (hl : ((T.size : Int) != 8 + 4 * nw c (at8 T.data.toList 0)) = true) :
    Calls Try.prog 19 #[cv c, .string T] w (RetM w m0 false) := by
  have HH := Lib.hid (readHead_any T · h)
  have HK : Hid (isKind (headM T.data.toList).kd = true) := Lib.hid hk
  change 0 ≤ nw c (headM T.data.toList).kd at hn0
  change nw c (headM T.data.toList).kd ≤ 8 at hn8
  change ((T.size : Int) != 8 + 4 * nw c (headM T.data.toList).kd) = true at hl
  clear hk
  generalize headM T.data.toList = M at *
  go_enter Try.func19, Try.ntmps19
  go_wp2_with (fail)
  refine (HH.out _).mono ?_
  rintro e w1 ⟨rfl, hb1⟩
  have K1 := rd_laid c M hb1
  have hsz := K1.gt
  clear hb1
  go_wp2_with (fail)
  refine (ruleOf_any _ _).mono ?_
  rintro e w2 ⟨rfl, rfl⟩
  rw [HK.out]
  have ha := K1.cfg
  go_wp2_with (fail)
  refine (wordsOf_any M.kd c _ HK.out).mono ?_
  rintro e w3 ⟨rfl, hb3⟩
  have K3 := K1.step hb3
  clear hb3 ha K1
  generalize nw c M.kd = N at *
  go_wp2_with ((with_reducible refine wpList_store_row (o := ⟨none, _, _, _, _, _⟩) rfl 28 (.tmp 4) (.tmp 35) rfl (w.heap.size + 1) (mcells m0) ?sx ?sy 28 ?old ?sg ?si ?so ?s1 ?_); (case sx => rfl); (case sy => rfl); (case sg => exact K3.res); (case si => kernel_rfl); (case so => rfl); (case s1 => kernel_rfl))
  exact read_ret rfl rfl rfl (setRow_heap _ _ _ _ _ _ K3.res) (below_setRow K3.below (by omega) _)

set_option maxRecDepth 100000 in
set_option maxHeartbeats 4000000 in
theorem read_yes (c : Cfg) (T : ByteArray) (w : World) (N : Nat) (h8 : N ≤ 8) (hk : isKind (at8 T.data.toList 0) = true) (hn : nw c (at8 T.data.toList 0) = N) (hl : T.size = 8 + 4 * N) :
    Calls Try.prog 19 #[cv c, .string T] w (RetM w (tellN T.data.toList N) true) := by
  have HH := Lib.hid (readHead_any T · (by omega))
  have H0 : Hid (headM T.data.toList = tellN T.data.toList 0) := Lib.hid (tell_head _).symm
  have HK : Hid (isKind (headM T.data.toList).kd = true) := Lib.hid hk
  have HN : Hid (nw c (headM T.data.toList).kd = N) := Lib.hid hn
  have HL := Lib.hid hl
  have hl' : (T.size : Int) = 8 + 4 * N := by omega
  have hlb : ((T.size : Int) != 8 + 4 * N) = false := by simp [hl']
  have HL2 := Lib.hid hl'
  clear hk hn hl hl'
  generalize headM T.data.toList = M at *
  have g8 : 8 ≤ (T.size : Int) := by have := HL2.out; omega
  go_enter Try.func19, Try.ntmps19
  go_wp2_with (fail)
  refine (HH.out _).mono ?_
  rintro e w1 ⟨rfl, hb1⟩
  have K1 := rd_laid c M hb1
  have hsz := K1.gt
  clear hb1
  go_wp2_with (fail)
  refine (ruleOf_any _ _).mono ?_
  rintro e w2 ⟨rfl, rfl⟩
  rw [HK.out]
  have ha := K1.cfg
  go_wp2_with (fail)
  refine (wordsOf_any M.kd c _ HK.out).mono ?_
  rintro e w3 ⟨rfl, hb3⟩
  rw [HN.out]
  have K3 := K1.step hb3
  rw [H0.out] at K3
  clear hb3 ha K1
  generalize w1.heap.size = g at *
  go_wp2
  go_loopw [37] (fun i wr => ∃ k : Nat, k ≤ N ∧ i = .int .i64 k ∧ RdSt c w wr g (tellN T.data.toList k)) (fun i _ => N - (intOf i).toNat)
  case atStart => exact ⟨0, Nat.zero_le _, rfl, K3⟩
  case round =>
    obtain ⟨k, hk, rfl, K4⟩ := hrel
    have hg4 := K4.lt
    by_cases hlt : k < N
    · have hl2 := HL2.out
      have hfa := from_at T (8 + 4 * k) (by have := HL.out; omega)
      have hsl : ∀ w, (Instr.slice 9 (.string T) (some (.int .i64 (8 + 4 * (k : Int)))) none none).run Try.prog w = .ok (.string (T.extract (8 + 4 * k) T.size)) w := fun w => by
        rw [run_slice_string_from_if w _ _ _ _ Try.underlying9, if_pos (by omega), show (8 + 4 * (k : Int)).toNat = 8 + 4 * k by omega]
      have hcl := blk_cell K4.out (7 + k)
      have hfr := blk_free K4.out (7 + k)
      rw [word_cell _ k (by omega)] at hcl
      have HS := Lib.hid (tell_set T.data.toList k (by omega))
      obtain ⟨f1, f2⟩ := hfa
      have F2 := Lib.hid f2
      clear f2 hl2
      generalize T.extract (8 + 4 * k) T.size = T' at *
      have HK8 : Hid (k < 8) := Lib.hid (by omega)
      go_wp2_with (go_at_call 30; refine (readWord_any T' _ f1).mono ?_; rintro e w5 ⟨rfl, hb5⟩; rw [F2.out]; have K5 := K4.step hb5; clear hcl hfr hb5; have hcl := blk_cell K5.out (7 + k); have hfr := blk_free K5.out (7 + k); rw [word_cell _ k HK8.out] at hcl)
      have K6 := K5.set (7 + k) _ HS.out
      clear hcl hfr hsl
      go_roundw
      case rel => exact ⟨k + 1, by omega, by go_num, K6⟩
      case measure => simp [intOf]; omega
    · obtain rfl : k = N := by omega
      generalize tellN T.data.toList k = M' at *
      have hcl := blk_cell K4.out
      go_wp2_with ((with_reducible refine wpList_store_row (o := ⟨none, _, _, _, _, _⟩) rfl 28 (.tmp 4) (.tmp 50) rfl (w.heap.size + 1) (mcells M') ?sx ?sy 28 ?old ?sg ?si ?so ?s1 ?_); (case sx => rfl); (case sy => rfl); (case sg => exact K4.res); (case si => kernel_rfl); (case so => rfl); (case s1 => kernel_rfl))
      exact read_ret rfl rfl rfl (setRow_heap _ _ _ _ _ _ K4.res) (below_setRow K4.below (by omega) _)

/-- read, the program's, on a machine that may be. -/
theorem read_any (c : Cfg) (T : ByteArray) (w : World) (hok : okC c = true) :
    Calls Try.prog 19 #[cv c, .string T] w (RetM w (rdP c T.data.toList).1 (rdP c T.data.toList).2) := by
  by_cases h8 : T.size < 8
  · rw [show rdP c T.data.toList = (m0, false) by unfold rdP fitL; rw [if_neg]; rw [← size_len]; simp; omega]
    exact read_short c T w h8
  · rcases Bool.eq_false_or_eq_true (isKind (at8 T.data.toList 0)) with hk | hk
    · have hn := nw_bound hok (at8 T.data.toList 0)
      obtain ⟨N, hN⟩ : ∃ N : Nat, nw c (at8 T.data.toList 0) = N := ⟨(nw c (at8 T.data.toList 0)).toNat, by omega⟩
      by_cases hl : T.size = 8 + 4 * N
      · have hf : fitL c T.data.toList = true := by
          unfold fitL
          rw [hk, hN, ← size_len]
          simp
          omega
        have hcn : cnt T.data.toList = N := by unfold cnt; rw [← size_len]; omega
        rw [show rdP c T.data.toList = (tellN T.data.toList N, true) by unfold rdP; rw [if_pos hf, hcn]]
        exact read_yes c T w N (by omega) hk hN hl
      · rw [show rdP c T.data.toList = (m0, false) by
          unfold rdP
          rw [if_neg]
          intro hf
          obtain ⟨_, h1, h2, _⟩ := fit_all hok hf
          rw [hN] at h1
          rw [← size_len] at h2
          omega]
        exact read_long c T w (by omega) hk (by omega) (by omega) (by rw [hN]; simp; omega)
    · rw [show rdP c T.data.toList = (m0, false) by unfold rdP fitL; rw [hk, if_neg]; simp]
      exact read_kind c T w (by omega) hk

end Go.Proofs.Ytjbodkmjhnlhiaa
