/-
  What Take does, the program's.
-/
import Derived.Test.YtjbodkmjhnlhiaaMsS
import Derived.Test.YtjbodkmjhnlhiaaMsF
namespace Go.Proofs.Ytjbodkmjhnlhiaa
open Go Go.RowKit

/-- What a call gives that tells a message and an error's number. -/
def RetT (w : World) (M : Msg) (n : Int) (e : Ending) (w' : World) : Prop := e = .returned (.tuple #[mv M, .int .i64 n]) ∧ Below w.heap.size w w'
theorem take_ret {w wr : World} {M : Msg} {n : Int} {a : Act} {g : Nat} (hp : a.tmps.getD 4 undef = .pointer (some ⟨g, 0, none⟩)) (hq : a.tmps.getD 5 undef = .int .i64 n) (hd : a.defers = []) (hg : wr.heap[g]? = some (.cells (mcells M) 28 (0, 0))) (hb : Below w.heap.size w wr) :
    bodyPost Try.prog Try.f9 (RetT w M n) Exit.ret a wr :=
  bodyPost_ret (v := .tuple #[mv M, a.tmps.getD 5 undef]) (results_cell_two Try.results9 _ _ g 28 _ (0, 0) _ hp hg Try.underlying28 rfl (by kernel_rfl)) hd ⟨by rw [hq], hb⟩
/-- Behind the first call. -/
theorem rd_first (c : Cfg) {w w1 : World} (hb : Below ((w.alloc (.cells (ccells c) 24)).alloc (.cells (mcells m0) 28)).heap.size ((w.alloc (.cells (ccells c) 24)).alloc (.cells (mcells m0) 28)) w1) :
    (∀ o, w1.cell? ⟨w.heap.size, o, none⟩ = (ccells c)[o]?) ∧ w1.heap[w.heap.size + 1]? = some (.cells (mcells m0) 28 (0, 0)) ∧ Below w.heap.size w w1 := by
  obtain ⟨h1, h2, h3, h4⟩ := rd_start c w
  exact ⟨fun o => (hb.cell (p := ⟨w.heap.size, o, none⟩) (by rw [h4]; simp only; omega)).trans (h1 o), (hb.block _ (by rw [h4]; omega)).trans h2, bstep h3 hb⟩

set_option maxRecDepth 100000 in
set_option maxHeartbeats 2000000 in
theorem take_bad (c : Cfg) (T : ByteArray) (w : World) (hcf : c.fits) (hok : okC c = false) :
    Calls Try.prog 9 #[cv c, .string T] w (RetT w m0 2) := by
  have HC := Lib.hid hcf
  have h0 := chk_no c hok
  clear hcf hok
  go_enter Try.func9, Try.ntmps9
  go_wp2_with (fail)
  refine (check_any c _ HC.out).mono ?_
  rintro e w1 ⟨rfl, hb1⟩
  obtain ⟨h1, h2, h3⟩ := rd_first c hb1
  clear hb1
  go_wp2_with ((with_reducible refine wpList_store_row (o := ⟨none, _, _, _, _, _⟩) rfl 28 (.tmp 4) (.tmp 11) rfl (w.heap.size + 1) (mcells m0) ?sx ?sy 28 ?old ?sg ?si ?so ?s1 ?_); (case sx => rfl); (case sy => rfl); (case sg => exact h2); (case si => kernel_rfl); (case so => rfl); (case s1 => kernel_rfl))
  exact take_ret rfl rfl rfl (setRow_heap _ _ _ _ _ _ h2) (below_setRow h3 (by omega) _)

set_option maxRecDepth 100000 in
set_option maxHeartbeats 2000000 in
theorem take_none (c : Cfg) (T : ByteArray) (w : World) (hcf : c.fits) (hok : okC c = true) (hr : rdP c T.data.toList = (m0, false)) :
    Calls Try.prog 9 #[cv c, .string T] w (RetT w m0 2) := by
  have HC := Lib.hid hcf
  have HO := Lib.hid hok
  have h0 := chk_ok c hok
  have HR := Lib.hid hr
  clear hcf hok hr
  go_enter Try.func9, Try.ntmps9
  go_wp2_with (fail)
  refine (check_any c _ HC.out).mono ?_
  rintro e w1 ⟨rfl, hb1⟩
  obtain ⟨h1, h2, h3⟩ := rd_first c hb1
  clear h2 h3
  go_wp2_with (fail)
  refine (read_any c T _ HO.out).mono ?_
  rintro e w2 ⟨rfl, hb2⟩
  rw [HR.out]
  have K1 := rd_laid c m0 (bstep hb1 hb2)
  have hsz := K1.gt
  clear hb1 hb2 h1
  simp only
  go_wp2_with ((with_reducible refine wpList_store_row (o := ⟨none, _, _, _, _, _⟩) rfl 28 (.tmp 4) (.tmp 26) rfl (w.heap.size + 1) (mcells m0) ?sx ?sy 28 ?old ?sg ?si ?so ?s1 ?_); (case sx => rfl); (case sy => rfl); (case sg => exact K1.res); (case si => kernel_rfl); (case so => rfl); (case s1 => kernel_rfl))
  exact take_ret rfl rfl rfl (setRow_heap _ _ _ _ _ _ K1.res) (below_setRow K1.below (by omega) _)

set_option maxRecDepth 100000 in
set_option maxHeartbeats 2000000 in
theorem take_read (c : Cfg) (T : ByteArray) (w : World) (M : Msg) (b : Bool) (hcf : c.fits) (hok : okC c = true) (hr : rdP c T.data.toList = (M, true)) (hm : mayM c M = b) :
    Calls Try.prog 9 #[cv c, .string T] w (if b = true then RetT w M 0 else RetT w m0 2) := by
  have HC := Lib.hid hcf
  have HO := Lib.hid hok
  have h0 := chk_ok c hok
  have HR := Lib.hid hr
  have HM := Lib.hid hm
  clear hcf hok hr hm
  rcases b with _ | _
  · rw [if_neg (by simp)]
    go_enter Try.func9, Try.ntmps9
    go_wp2_with (fail)
    refine (check_any c _ HC.out).mono ?_
    rintro e w1 ⟨rfl, hb1⟩
    obtain ⟨h1, h2, h3⟩ := rd_first c hb1
    clear h2 h3
    go_wp2_with (fail)
    refine (read_any c T _ HO.out).mono ?_
    rintro e w2 ⟨rfl, hb2⟩
    rw [HR.out]
    have K1 := rd_laid c M (bstep hb1 hb2)
    have hsz := K1.gt
    have ha := K1.cfg
    clear hb1 hb2 h1
    simp only
    go_wp2_with (fail)
    refine (may_any c M _ HC.out).mono ?_
    rintro e w3 ⟨rfl, hb3⟩
    rw [HM.out]
    have K3 := K1.step hb3
    clear hb3 ha K1
    go_wp2_with ((with_reducible refine wpList_store_row (o := ⟨none, _, _, _, _, _⟩) rfl 28 (.tmp 4) (.tmp 26) rfl (w.heap.size + 1) (mcells m0) ?sx ?sy 28 ?old ?sg ?si ?so ?s1 ?_); (case sx => rfl); (case sy => rfl); (case sg => exact K3.res); (case si => kernel_rfl); (case so => rfl); (case s1 => kernel_rfl))
    exact take_ret rfl rfl rfl (setRow_heap _ _ _ _ _ _ K3.res) (below_setRow K3.below (by omega) _)
  · rw [if_pos rfl]
    go_enter Try.func9, Try.ntmps9
    go_wp2_with (fail)
    refine (check_any c _ HC.out).mono ?_
    rintro e w1 ⟨rfl, hb1⟩
    obtain ⟨h1, h2, h3⟩ := rd_first c hb1
    clear h2 h3
    go_wp2_with (fail)
    refine (read_any c T _ HO.out).mono ?_
    rintro e w2 ⟨rfl, hb2⟩
    rw [HR.out]
    have K1 := rd_laid c M (bstep hb1 hb2)
    have hsz := K1.gt
    have ha := K1.cfg
    clear hb1 hb2 h1
    simp only
    go_wp2_with (fail)
    refine (may_any c M _ HC.out).mono ?_
    rintro e w3 ⟨rfl, hb3⟩
    rw [HM.out]
    have K3 := K1.step hb3
    clear hb3 ha K1
    have hcl := blk_cell K3.out
    go_wp2_with ((with_reducible refine wpList_store_row (o := ⟨none, _, _, _, _, _⟩) rfl 28 (.tmp 4) (.tmp 27) rfl (w.heap.size + 1) (mcells M) ?sx ?sy 28 ?old ?sg ?si ?so ?s1 ?_); (case sx => rfl); (case sy => rfl); (case sg => exact K3.res); (case si => kernel_rfl); (case so => rfl); (case s1 => kernel_rfl))
    exact take_ret rfl rfl rfl (setRow_heap _ _ _ _ _ _ K3.res) (below_setRow K3.below (by omega) _)

/-- Take, the program's. -/
theorem take_any (c : Cfg) (T : ByteArray) (w : World) (hcf : c.fits) :
    Calls Try.prog 9 #[cv c, .string T] w (RetT w (takM c T.data.toList).1 (takM c T.data.toList).2) := by
  rcases Bool.eq_false_or_eq_true (okC c) with hok | hok
  · rcases Bool.eq_false_or_eq_true (fitL c T.data.toList) with hf | hf
    · have h := take_read c T w (tellN T.data.toList (cnt T.data.toList)) _ hcf hok (by unfold rdP; rw [if_pos hf]) rfl
      unfold takM tkB
      rw [hok, hf]
      rcases Bool.eq_false_or_eq_true (mayM c (tellN T.data.toList (cnt T.data.toList))) with hm | hm
      · rw [hm, if_pos rfl] at h
        rw [hm]
        exact h
      · rw [hm, if_neg (by simp)] at h
        rw [hm]
        exact h
    · unfold takM tkB
      rw [hok, hf]
      exact take_none c T w hcf hok (by unfold rdP; rw [hf]; rfl)
  · unfold takM tkB
    rw [hok]
    exact take_bad c T w hcf hok

end Go.Proofs.Ytjbodkmjhnlhiaa
