import Derived.Test.YtlfhkjjjocmpbaaGreatDoorSx
import Derived.Test.YtlfhkjjjocmpbaaGreatDoorQGdC
import Derived.Test.YtlfhkjjjocmpbaaGreatDoorQGcY
import Derived.Deep.CutBlock
import Derived.Deep.DeepCutAuto

namespace Go.Proofs.YtlfhkjjjocmpbaaGreatDoor.Cc
open Go Go.RowKit
open List (setIfInBounds_toArray set_cons_zero set_cons_succ)

variable {w0 w w' : World} {bx : Bx} {K : Kb} {c : Cfg} {core n : Int} {s : St}
theorem dev_ret {wr : World} {r : Rp} {P : World → Prop} {a : Act} {g : Nat} (hp : a.tmps.getD 6 undef = .pointer (some ⟨g, 0, none⟩)) (hq : a.tmps.getD 7 undef = .bool r.2.1) (hn : a.tmps.getD 8 undef = .int .i64 r.2.2) (hd : a.defers = []) (hg : wr.heap[g]? = some (.cells (mcells r.1) 38 (0, 0))) (hb : P wr) :
  bodyPost Tryz.prog Tryz.f37 (RetT r P) Exit.ret a wr :=
 bodyPost_ret (v := .tuple #[mv r.1, a.tmps.getD 7 undef, a.tmps.getD 8 undef]) (Ar.results_cell_three Tryz.results37 _ _ g 38 _ (0, 0) _ hp hg Tryz.underlying38 rfl (by kernel_rfl)) hd ⟨by rw [hq, hn], hb⟩

theorem Own.acell {ty : Tys} (h : Own ty w0 K c core n s bx w) : ∃ g, ∀ W, Below w.heap.size w W → W.cell? ⟨K.a, 13, none⟩ = some (.slice (some ⟨g, 0, none⟩) s.A.length s.A.length) ∧ ∀ i x, s.A[i]? = some x → W.rangeAt g (i * 11) (Ar.yc x) := by
 obtain ⟨g, ha, -⟩ := h.ar
 refine ⟨g, fun W hb => ?_⟩
 have hb' := ha.below hb
 refine ⟨hb'.hd 13, fun i x hx => ?_⟩
 have := hb'.ways i x hx
 rwa [Nat.zero_add] at this
set_option maxRecDepth 100000 in
set_option maxHeartbeats 4000000 in
theorem devict_arg (h : OwnD w0 K c core n s bx w) (set way : Int) (hr : ¬ (0 ≤ set ∧ set < c.se ∧ 0 ≤ way ∧ way < c.wa)) :
  Calls Tryz.prog 37 #[ptr K.k, .int .i64 set, .int .i64 way] w (RetT (m0, false, 5) (OwnD w0 K c core n s bx)) := by
 have H0 := Lib.hid (h.add2 (.cells #[.int .i64 0, .int .i64 0, .int .i64 0, .int .i64 0, .int .i64 0, .int .i64 0, .int .i64 0, .int .i64 0, .int .i64 0, .int .i64 0, .int .i64 0, .int .i64 0, .int .i64 0, .int .i64 0, .int .i64 0] 38) (.cells #[.int .i64 0, .int .i64 0, .int .i64 0, .int .i64 0, .int .i64 0, .int .i64 0, .int .i64 0, .int .i64 0, .int .i64 0, .int .i64 0, .int .i64 0, .int .i64 0, .int .i64 0, .int .i64 0, .int .i64 0] 38))
 have hw : (set < 0) ∨ (¬ set < 0 ∧ c.se ≤ set) ∨ (¬ set < 0 ∧ ¬ c.se ≤ set ∧ way < 0) ∨ (¬ set < 0 ∧ ¬ c.se ≤ set ∧ ¬ way < 0 ∧ c.wa ≤ way) := by omega
 have hk := H0.out.kc
 have h6 := H0.out.box mz1
 have h8 := H0.out.box mz0
 clear h hr
 rcases hw with a | ⟨a, b⟩ | ⟨a, b, d⟩ | ⟨a, b, d, e⟩
 all_goals
  go_enter Tryz.func37, Tryz.ntmps37
  go_wp2_with (first
   | ((with_reducible refine wpList_load_row (o := ⟨some 36, _, _, _, _, _⟩) rfl 38 (.tmp 9) rfl (w.heap.size + 1) ?lx 38 (#[.int .i64 0, .int .i64 0, .int .i64 0, .int .i64 0, .int .i64 0, .int .i64 0, .int .i64 0, .int .i64 0, .int .i64 0, .int .i64 0, .int .i64 0, .int .i64 0, .int .i64 0, .int .i64 0, .int .i64 0]) (0, 0) _ ?lg Tryz.underlying38 ?ld ?li ?_); (case lx => rfl); (case lg => exact h8); (case ld => rfl); (case li => kernel_rfl))
   | ((with_reducible refine wpList_store_row (o := ⟨none, _, _, _, _, _⟩) rfl 38 (.tmp 6) (.tmp 36) rfl (w.heap.size) (#[.int .i64 0, .int .i64 0, .int .i64 0, .int .i64 0, .int .i64 0, .int .i64 0, .int .i64 0, .int .i64 0, .int .i64 0, .int .i64 0, .int .i64 0, .int .i64 0, .int .i64 0, .int .i64 0, .int .i64 0]) ?sx ?sy 38 ?old ?sg ?si ?so ?s1 ?_); (case sx => rfl); (case sy => rfl); (case old => exact #[.int .i64 0, .int .i64 0, .int .i64 0, .int .i64 0, .int .i64 0, .int .i64 0, .int .i64 0, .int .i64 0, .int .i64 0, .int .i64 0, .int .i64 0, .int .i64 0, .int .i64 0, .int .i64 0, .int .i64 0]); (case sg => exact h6); (case si => kernel_rfl); (case so => rfl); (case s1 => kernel_rfl)))
  exact dev_ret (r := (m0, false, 5)) rfl rfl rfl rfl (setRow_heap _ _ _ _ _ _ h6) H0.out.setRow1.drop.drop
set_option maxRecDepth 100000 in
set_option maxHeartbeats 4000000 in
theorem devict_inv (h : OwnD w0 K c core n s bx w) (set way : Int) (hr : 0 ≤ set ∧ set < c.se ∧ 0 ≤ way ∧ way < c.wa) {xs xl : Int} {xd : Wd} {xk : Bool} (hx : s.A[set.toNat * c.wa.toNat + way.toNat]? = some ⟨xs, xl, xd, xk⟩) (e0 : (xs == 0) = true) :
  Calls Tryz.prog 37 #[ptr K.k, .int .i64 set, .int .i64 way] w (RetT (m0, false, 5) (OwnD w0 K c core n s bx)) := by
 obtain ⟨S, rfl⟩ : ∃ S : Nat, set = S := ⟨set.toNat, by omega⟩
 obtain ⟨W, rfl⟩ : ∃ W : Nat, way = W := ⟨way.toNat, by omega⟩
 obtain ⟨q1, q2, q3, q4⟩ := hr
 have H0 := Lib.hid (h.add2 (.cells #[.int .i64 0, .int .i64 0, .int .i64 0, .int .i64 0, .int .i64 0, .int .i64 0, .int .i64 0, .int .i64 0, .int .i64 0, .int .i64 0, .int .i64 0, .int .i64 0, .int .i64 0, .int .i64 0, .int .i64 0] 38) (.cells #[.int .i64 0, .int .i64 0, .int .i64 0, .int .i64 0, .int .i64 0, .int .i64 0, .int .i64 0, .int .i64 0, .int .i64 0, .int .i64 0, .int .i64 0, .int .i64 0, .int .i64 0, .int .i64 0, .int .i64 0] 38))
 have hsh := h.short.1
 obtain ⟨i, hie⟩ : ∃ i, i = S * c.wa.toNat + W := ⟨_, rfl⟩
 rw [Int.toNat_natCast, Int.toNat_natCast, ← hie] at hx
 have hlt := (List.getElem?_eq_some_iff.1 hx).1
 have hmm : ((S : Int) * c.wa) = ((S * c.wa.toNat : Nat) : Int) := by
  rw [Int.natCast_mul, show ((c.wa.toNat : Nat) : Int) = c.wa by omega]
 have hm1 : IntKind.i64.wrap ((S : Int) * c.wa) = (S : Int) * c.wa   := wrap_small _ (by omega) (by omega)
 have hm2 : IntKind.i64.wrap ((S : Int) * c.wa + (W : Int)) = (i : Int) := by rw [hmm, hie, Int.natCast_add]; exact wrap_small _ (by omega) (by omega)
 have g0 : ¬ (S : Int) < 0 := by omega
 have g1 : ¬ c.se ≤ (S : Int) := by omega
 have g2 : ¬ (W : Int) < 0 := by omega
 have g3 : ¬ c.wa ≤ (W : Int) := by omega
 have g4 : (0 : Int) ≤ (i : Int) := by omega
 have g5 : (i : Int) < (s.A.length : Int) := by omega
 have hk := H0.out.kc
 clear h hie hmm hlt hsh q1 q2 q3 q4
 go_enter Tryz.func37, Tryz.ntmps37
 go_upto_region 4 with fail
 obtain ⟨w1, hw1⟩ : ∃ w1, w1 = (w.alloc (.cells #[.int .i64 0, .int .i64 0, .int .i64 0, .int .i64 0, .int .i64 0, .int .i64 0, .int .i64 0, .int .i64 0, .int .i64 0, .int .i64 0, .int .i64 0, .int .i64 0, .int .i64 0, .int .i64 0, .int .i64 0] 38)).alloc (.cells #[.int .i64 0, .int .i64 0, .int .i64 0, .int .i64 0, .int .i64 0, .int .i64 0, .int .i64 0, .int .i64 0, .int .i64 0, .int .i64 0, .int .i64 0, .int .i64 0, .int .i64 0, .int .i64 0, .int .i64 0] 38) := ⟨_, rfl⟩
 rw [← hw1] at H0
 have H1 := H0
 change Code.wp _ _ _ _ ((w.alloc (.cells #[.int .i64 0, .int .i64 0, .int .i64 0, .int .i64 0, .int .i64 0, .int .i64 0, .int .i64 0, .int .i64 0, .int .i64 0, .int .i64 0, .int .i64 0, .int .i64 0, .int .i64 0, .int .i64 0, .int .i64 0] 38)).alloc (.cells #[.int .i64 0, .int .i64 0, .int .i64 0, .int .i64 0, .int .i64 0, .int .i64 0, .int .i64 0, .int .i64 0, .int .i64 0, .int .i64 0, .int .i64 0, .int .i64 0, .int .i64 0, .int .i64 0, .int .i64 0] 38))
 rw [← hw1]
 obtain ⟨g, hg⟩ := H1.out.acell
 have HG : Hid (∀ W, Below w1.heap.size w1 W → W.cell? ⟨K.a, 13, none⟩ = some (.slice (some ⟨g, 0, none⟩) s.A.length s.A.length) ∧ W.rangeAt g (i * 11) (Ar.yc ⟨xs, xl, xd, xk⟩)) := Lib.hid fun W hb => ⟨(hg W hb).1, (hg W hb).2 i _ hx⟩
 have HGa : Hid (∀ W, Below w1.drew.heap.size w1.drew W → W.cell? ⟨K.a, 13, none⟩ = some (.slice (some ⟨g, 0, none⟩) s.A.length s.A.length) ∧ W.rangeAt g (i * 11) (Ar.yc ⟨xs, xl, xd, xk⟩)) := Lib.hid fun W hb => HG.out W (((Below.refl w1.heap.size w1).drew).trans hb)
 clear hw1 hg hx hk H0
 refine wp_region_noPanic ?_
 refine wp_region_held_drew (S := (fun w' : World => (∀ o, w'.cell? ⟨K.k, o, none⟩ = (kcells c core K)[o]?) ∧ w'.cell? ⟨K.a, 13, none⟩ = some (.slice (some ⟨g, 0, none⟩) s.A.length s.A.length) ∧ w'.rangeAt g (i * 11) (Ar.yc ⟨xs, xl, xd, xk⟩))) (by kernel_rfl) ⟨H1.out.kc, (HG.out _ (Below.refl _ _)).1, (HG.out _ (Below.refl _ _)).2⟩ (fun hh0 => ?_)
 replace H1 := Lib.hid H1.out.drew
 generalize World.drew w1 = w1 at *
 refine tk 19 0 ⟨some 37, _, _, _, _, _⟩ (ptr K.k) rfl (by kernel_rfl) (by rfl) hh0 ?_ ?_
 ·intro w' _
  go_simp
 simp only [Act.put, setIfInBounds_toArray, set_cons_zero, set_cons_succ]
 refine tk 18 1 ⟨some 38, _, _, _, _, _⟩ (ptr K.k) rfl (by kernel_rfl) (by rfl) hh0 ?_ ?_
 ·intro w' _
  go_simp
 simp only [Act.put, setIfInBounds_toArray, set_cons_zero, set_cons_succ]
 refine tk 17 2 ⟨some 39, _, _, _, _, _⟩ (.pointer (some ⟨K.k, 14, none⟩)) rfl (by kernel_rfl) (by rfl) hh0 ?_ ?_
 ·intro w' _
  go_simp
 simp only [Act.put, setIfInBounds_toArray, set_cons_zero, set_cons_succ]
 refine tk 16 3 ⟨some 40, _, _, _, _, _⟩ (.pointer (some ⟨K.a, 0, none⟩)) rfl (by kernel_rfl) (by rfl) hh0 ?_ ?_
 ·rintro w' ⟨c0, -, -⟩
  go_simp
 simp only [Act.put, setIfInBounds_toArray, set_cons_zero, set_cons_succ]
 refine tk 15 4 ⟨some 41, _, _, _, _, _⟩ (.pointer (some ⟨K.a, 0, none⟩)) rfl (by kernel_rfl) (by rfl) hh0 ?_ ?_
 ·intro w' _
  go_simp
 simp only [Act.put, setIfInBounds_toArray, set_cons_zero, set_cons_succ]
 refine tk 14 5 ⟨some 42, _, _, _, _, _⟩ (.pointer (some ⟨K.a, 13, none⟩)) rfl (by kernel_rfl) (by rfl) hh0 ?_ ?_
 ·intro w' _
  go_simp
 simp only [Act.put, setIfInBounds_toArray, set_cons_zero, set_cons_succ]
 refine tk 13 6 ⟨some 43, _, _, _, _, _⟩ (.slice (some ⟨g, 0, none⟩) s.A.length s.A.length) rfl (by kernel_rfl) (by rfl) hh0 ?_ ?_
 ·rintro w' ⟨-, c0, -⟩
  go_simp
 simp only [Act.put, setIfInBounds_toArray, set_cons_zero, set_cons_succ]
 refine tk 12 7 ⟨some 44, _, _, _, _, _⟩ (.int .i64 (S : Int)) rfl (by kernel_rfl) (by rfl) hh0 ?_ ?_
 ·intro w' _
  go_simp
 simp only [Act.put, setIfInBounds_toArray, set_cons_zero, set_cons_succ]
 refine tk 11 8 ⟨some 45, _, _, _, _, _⟩ (ptr K.k) rfl (by kernel_rfl) (by rfl) hh0 ?_ ?_
 ·intro w' _
  go_simp
 simp only [Act.put, setIfInBounds_toArray, set_cons_zero, set_cons_succ]
 refine tk 10 9 ⟨some 46, _, _, _, _, _⟩ (ptr K.k) rfl (by kernel_rfl) (by rfl) hh0 ?_ ?_
 ·intro w' _
  go_simp
 simp only [Act.put, setIfInBounds_toArray, set_cons_zero, set_cons_succ]
 refine tk 9 10 ⟨some 47, _, _, _, _, _⟩ (ptr K.k) rfl (by kernel_rfl) (by rfl) hh0 ?_ ?_
 ·intro w' _
  go_simp
 simp only [Act.put, setIfInBounds_toArray, set_cons_zero, set_cons_succ]
 refine tk 8 11 ⟨some 48, _, _, _, _, _⟩ (.pointer (some ⟨K.k, 3, none⟩)) rfl (by kernel_rfl) (by rfl) hh0 ?_ ?_
 ·intro w' _
  go_simp
 simp only [Act.put, setIfInBounds_toArray, set_cons_zero, set_cons_succ]
 refine tk 7 12 ⟨some 49, _, _, _, _, _⟩ (.int .i64 c.wa) rfl (by kernel_rfl) (by rfl) hh0 ?_ ?_
 ·rintro w' ⟨c0, -, -⟩
  go_simp
 simp only [Act.put, setIfInBounds_toArray, set_cons_zero, set_cons_succ]
 refine tk 6 13 ⟨some 50, _, _, _, _, _⟩ (.int .i64 ((S : Int) * c.wa)) rfl (by kernel_rfl) (by rfl) hh0 ?_ ?_
 ·intro w' _
  go_simp
 simp only [Act.put, setIfInBounds_toArray, set_cons_zero, set_cons_succ]
 refine tk 5 14 ⟨some 51, _, _, _, _, _⟩ (.int .i64 (W : Int)) rfl (by kernel_rfl) (by rfl) hh0 ?_ ?_
 ·intro w' _
  go_simp
 simp only [Act.put, setIfInBounds_toArray, set_cons_zero, set_cons_succ]
 refine tk 4 15 ⟨some 52, _, _, _, _, _⟩ (.int .i64 (i : Int)) rfl (by kernel_rfl) (by rfl) hh0 ?_ ?_
 ·intro w' _
  go_simp
 simp only [Act.put, setIfInBounds_toArray, set_cons_zero, set_cons_succ]
 refine tk 3 16 ⟨some 53, _, _, _, _, _⟩ (.pointer (some ⟨g, i * 11, none⟩)) rfl (by kernel_rfl) (by rfl) hh0 ?_ ?_
 ·intro w' _
  go_simp
 simp only [Act.put, setIfInBounds_toArray, set_cons_zero, set_cons_succ]
 refine wpAnyH_take (fuel := 2) (i := 17) (oi := ⟨some 54, _, _, _, _, _⟩) (v := .agg (Ar.ycells ⟨xs, xl, xd, xk⟩)) rfl (by kernel_rfl) (by kernel_rfl) (by kernel_rfl) (fun _ _ _ h => h) (yieldsIf_load_mid (by rfl) 69 (.tmp 53) rfl g (i * 11) rfl (Ar.yc ⟨xs, xl, xd, xk⟩) _ (fun w hS => hS.2.2) Tryz.underlying69 rfl (by kernel_rfl)) hh0 ?_
 simp only [Act.put, setIfInBounds_toArray, set_cons_zero, set_cons_succ]
 refine rd 1 18 ⟨some 10, _, _, _, _, _⟩ rfl (by kernel_rfl) (fun P hP => ?_)
 go_simp
 have H1a := Lib.hid (H1.out.add (.cells #[.int .i64 0, .int .i64 0, .int .i64 0, .int .i64 0, .int .i64 0, .int .i64 0, .int .i64 0, .int .i64 0, .int .i64 0, .int .i64 0, .bool false] 69))
 show P _ _
 refine hP.out _ _ (⟨H1a.out.kc, (HGa.out _ (b_alloc _ _)).1, (HGa.out _ (b_alloc _ _)).2⟩) (fun hh1 => ?_)
 clear hP P hh0
 try simp only [Act.put, setIfInBounds_toArray, set_cons_zero, set_cons_succ]
 refine rd 0 19 ⟨none, _, _, _, _, _⟩ rfl (by kernel_rfl) (fun P hP => ?_)
 rw [if_pos (by rfl)]
 refine wp_store_row 69 (.tmp 10) (.tmp 54) rfl (w1.heap.size) (Ar.ycells ⟨xs, xl, xd, xk⟩) rfl rfl 69 (#[.int .i64 0, .int .i64 0, .int .i64 0, .int .i64 0, .int .i64 0, .int .i64 0, .int .i64 0, .int .i64 0, .int .i64 0, .int .i64 0, .bool false]) (H1a.out.box mz0) (by kernel_rfl) rfl (by kernel_rfl) ?_
 have H1as := Lib.hid (H1a.out.setRow (cs' := Ar.ycells ⟨xs, xl, xd, xk⟩))
 refine hP.out _ _ (⟨H1as.out.kc, (HGa.out _ (b_setRow (b_alloc _ _) (Nat.le_refl _) _)).1, (HGa.out _ (b_setRow (b_alloc _ _) (Nat.le_refl _) _)).2⟩) (fun hh2 => ?_)
 clear hP P hh1
 simp only [Act.put]
 refine wpAnyH_done (by kernel_rfl) ?_ _
 refine NoPanic.normal ?_
 clear hh2
 have H2 := H1as
 clear H1a HG HGa
 generalize World.setRow (World.alloc w1 _) _ _ = w2 at *
 generalize w1.heap.size = mw at *
 have hx2 := H2.out.cells mz0
 have h6 := H2.out.box mz2
 have h8 := H2.out.box mz1
 go_wp2_with (first
  | ((with_reducible refine wpList_load_row (o := ⟨some 58, _, _, _, _, _⟩) rfl 38 (.tmp 9) rfl (w.heap.size + 1) ?lx 38 (#[.int .i64 0, .int .i64 0, .int .i64 0, .int .i64 0, .int .i64 0, .int .i64 0, .int .i64 0, .int .i64 0, .int .i64 0, .int .i64 0, .int .i64 0, .int .i64 0, .int .i64 0, .int .i64 0, .int .i64 0]) (0, 0) _ ?lg Tryz.underlying38 ?ld ?li ?_); (case lx => rfl); (case lg => exact h8); (case ld => rfl); (case li => kernel_rfl))
  | ((with_reducible refine wpList_store_row (o := ⟨none, _, _, _, _, _⟩) rfl 38 (.tmp 6) (.tmp 58) rfl (w.heap.size) (#[.int .i64 0, .int .i64 0, .int .i64 0, .int .i64 0, .int .i64 0, .int .i64 0, .int .i64 0, .int .i64 0, .int .i64 0, .int .i64 0, .int .i64 0, .int .i64 0, .int .i64 0, .int .i64 0, .int .i64 0]) ?sx ?sy 38 ?old ?sg ?si ?so ?s1 ?_); (case sx => rfl); (case sy => rfl); (case old => exact #[.int .i64 0, .int .i64 0, .int .i64 0, .int .i64 0, .int .i64 0, .int .i64 0, .int .i64 0, .int .i64 0, .int .i64 0, .int .i64 0, .int .i64 0, .int .i64 0, .int .i64 0, .int .i64 0, .int .i64 0]); (case sg => exact h6); (case si => kernel_rfl); (case so => rfl); (case s1 => kernel_rfl)))
 exact dev_ret (r := (m0, false, 5)) rfl rfl rfl rfl (setRow_heap _ _ _ _ _ _ h6) H2.out.setRow2.drop.drop.drop
set_option maxRecDepth 100000 in
set_option maxHeartbeats 4000000 in
theorem devict_lock (h : OwnD w0 K c core n s bx w) (set way : Int) (hr : 0 ≤ set ∧ set < c.se ∧ 0 ≤ way ∧ way < c.wa) {xs xl : Int} {xd : Wd} {xk : Bool} (hx : s.A[set.toNat * c.wa.toNat + way.toNat]? = some ⟨xs, xl, xd, xk⟩) (e0 : (xs == 0) = false) (e1 : xk = true) :
  Calls Tryz.prog 37 #[ptr K.k, .int .i64 set, .int .i64 way] w (RetT (m0, false, 6) (OwnD w0 K c core n s bx)) := by
 obtain ⟨S, rfl⟩ : ∃ S : Nat, set = S := ⟨set.toNat, by omega⟩
 obtain ⟨W, rfl⟩ : ∃ W : Nat, way = W := ⟨way.toNat, by omega⟩
 obtain ⟨q1, q2, q3, q4⟩ := hr
 have H0 := Lib.hid (h.add2 (.cells #[.int .i64 0, .int .i64 0, .int .i64 0, .int .i64 0, .int .i64 0, .int .i64 0, .int .i64 0, .int .i64 0, .int .i64 0, .int .i64 0, .int .i64 0, .int .i64 0, .int .i64 0, .int .i64 0, .int .i64 0] 38) (.cells #[.int .i64 0, .int .i64 0, .int .i64 0, .int .i64 0, .int .i64 0, .int .i64 0, .int .i64 0, .int .i64 0, .int .i64 0, .int .i64 0, .int .i64 0, .int .i64 0, .int .i64 0, .int .i64 0, .int .i64 0] 38))
 have hsh := h.short.1
 obtain ⟨i, hie⟩ : ∃ i, i = S * c.wa.toNat + W := ⟨_, rfl⟩
 rw [Int.toNat_natCast, Int.toNat_natCast, ← hie] at hx
 have hlt := (List.getElem?_eq_some_iff.1 hx).1
 have hmm : ((S : Int) * c.wa) = ((S * c.wa.toNat : Nat) : Int) := by
  rw [Int.natCast_mul, show ((c.wa.toNat : Nat) : Int) = c.wa by omega]
 have hm1 : IntKind.i64.wrap ((S : Int) * c.wa) = (S : Int) * c.wa   := wrap_small _ (by omega) (by omega)
 have hm2 : IntKind.i64.wrap ((S : Int) * c.wa + (W : Int)) = (i : Int) := by rw [hmm, hie, Int.natCast_add]; exact wrap_small _ (by omega) (by omega)
 have g0 : ¬ (S : Int) < 0 := by omega
 have g1 : ¬ c.se ≤ (S : Int) := by omega
 have g2 : ¬ (W : Int) < 0 := by omega
 have g3 : ¬ c.wa ≤ (W : Int) := by omega
 have g4 : (0 : Int) ≤ (i : Int) := by omega
 have g5 : (i : Int) < (s.A.length : Int) := by omega
 have hk := H0.out.kc
 have HE1 := Lib.hid e1
 clear e1
 clear h hie hmm hlt hsh q1 q2 q3 q4
 go_enter Tryz.func37, Tryz.ntmps37
 go_upto_region 4 with fail
 obtain ⟨w1, hw1⟩ : ∃ w1, w1 = (w.alloc (.cells #[.int .i64 0, .int .i64 0, .int .i64 0, .int .i64 0, .int .i64 0, .int .i64 0, .int .i64 0, .int .i64 0, .int .i64 0, .int .i64 0, .int .i64 0, .int .i64 0, .int .i64 0, .int .i64 0, .int .i64 0] 38)).alloc (.cells #[.int .i64 0, .int .i64 0, .int .i64 0, .int .i64 0, .int .i64 0, .int .i64 0, .int .i64 0, .int .i64 0, .int .i64 0, .int .i64 0, .int .i64 0, .int .i64 0, .int .i64 0, .int .i64 0, .int .i64 0] 38) := ⟨_, rfl⟩
 rw [← hw1] at H0
 have H1 := H0
 change Code.wp _ _ _ _ ((w.alloc (.cells #[.int .i64 0, .int .i64 0, .int .i64 0, .int .i64 0, .int .i64 0, .int .i64 0, .int .i64 0, .int .i64 0, .int .i64 0, .int .i64 0, .int .i64 0, .int .i64 0, .int .i64 0, .int .i64 0, .int .i64 0] 38)).alloc (.cells #[.int .i64 0, .int .i64 0, .int .i64 0, .int .i64 0, .int .i64 0, .int .i64 0, .int .i64 0, .int .i64 0, .int .i64 0, .int .i64 0, .int .i64 0, .int .i64 0, .int .i64 0, .int .i64 0, .int .i64 0] 38))
 rw [← hw1]
 obtain ⟨g, hg⟩ := H1.out.acell
 have HG : Hid (∀ W, Below w1.heap.size w1 W → W.cell? ⟨K.a, 13, none⟩ = some (.slice (some ⟨g, 0, none⟩) s.A.length s.A.length) ∧ W.rangeAt g (i * 11) (Ar.yc ⟨xs, xl, xd, xk⟩)) := Lib.hid fun W hb => ⟨(hg W hb).1, (hg W hb).2 i _ hx⟩
 have HGa : Hid (∀ W, Below w1.drew.heap.size w1.drew W → W.cell? ⟨K.a, 13, none⟩ = some (.slice (some ⟨g, 0, none⟩) s.A.length s.A.length) ∧ W.rangeAt g (i * 11) (Ar.yc ⟨xs, xl, xd, xk⟩)) := Lib.hid fun W hb => HG.out W (((Below.refl w1.heap.size w1).drew).trans hb)
 clear hw1 hg hx hk H0
 refine wp_region_noPanic ?_
 refine wp_region_held_drew (S := (fun w' : World => (∀ o, w'.cell? ⟨K.k, o, none⟩ = (kcells c core K)[o]?) ∧ w'.cell? ⟨K.a, 13, none⟩ = some (.slice (some ⟨g, 0, none⟩) s.A.length s.A.length) ∧ w'.rangeAt g (i * 11) (Ar.yc ⟨xs, xl, xd, xk⟩))) (by kernel_rfl) ⟨H1.out.kc, (HG.out _ (Below.refl _ _)).1, (HG.out _ (Below.refl _ _)).2⟩ (fun hh0 => ?_)
 replace H1 := Lib.hid H1.out.drew
 generalize World.drew w1 = w1 at *
 refine tk 19 0 ⟨some 37, _, _, _, _, _⟩ (ptr K.k) rfl (by kernel_rfl) (by rfl) hh0 ?_ ?_
 ·intro w' _
  go_simp
 simp only [Act.put, setIfInBounds_toArray, set_cons_zero, set_cons_succ]
 refine tk 18 1 ⟨some 38, _, _, _, _, _⟩ (ptr K.k) rfl (by kernel_rfl) (by rfl) hh0 ?_ ?_
 ·intro w' _
  go_simp
 simp only [Act.put, setIfInBounds_toArray, set_cons_zero, set_cons_succ]
 refine tk 17 2 ⟨some 39, _, _, _, _, _⟩ (.pointer (some ⟨K.k, 14, none⟩)) rfl (by kernel_rfl) (by rfl) hh0 ?_ ?_
 ·intro w' _
  go_simp
 simp only [Act.put, setIfInBounds_toArray, set_cons_zero, set_cons_succ]
 refine tk 16 3 ⟨some 40, _, _, _, _, _⟩ (.pointer (some ⟨K.a, 0, none⟩)) rfl (by kernel_rfl) (by rfl) hh0 ?_ ?_
 ·rintro w' ⟨c0, -, -⟩
  go_simp
 simp only [Act.put, setIfInBounds_toArray, set_cons_zero, set_cons_succ]
 refine tk 15 4 ⟨some 41, _, _, _, _, _⟩ (.pointer (some ⟨K.a, 0, none⟩)) rfl (by kernel_rfl) (by rfl) hh0 ?_ ?_
 ·intro w' _
  go_simp
 simp only [Act.put, setIfInBounds_toArray, set_cons_zero, set_cons_succ]
 refine tk 14 5 ⟨some 42, _, _, _, _, _⟩ (.pointer (some ⟨K.a, 13, none⟩)) rfl (by kernel_rfl) (by rfl) hh0 ?_ ?_
 ·intro w' _
  go_simp
 simp only [Act.put, setIfInBounds_toArray, set_cons_zero, set_cons_succ]
 refine tk 13 6 ⟨some 43, _, _, _, _, _⟩ (.slice (some ⟨g, 0, none⟩) s.A.length s.A.length) rfl (by kernel_rfl) (by rfl) hh0 ?_ ?_
 ·rintro w' ⟨-, c0, -⟩
  go_simp
 simp only [Act.put, setIfInBounds_toArray, set_cons_zero, set_cons_succ]
 refine tk 12 7 ⟨some 44, _, _, _, _, _⟩ (.int .i64 (S : Int)) rfl (by kernel_rfl) (by rfl) hh0 ?_ ?_
 ·intro w' _
  go_simp
 simp only [Act.put, setIfInBounds_toArray, set_cons_zero, set_cons_succ]
 refine tk 11 8 ⟨some 45, _, _, _, _, _⟩ (ptr K.k) rfl (by kernel_rfl) (by rfl) hh0 ?_ ?_
 ·intro w' _
  go_simp
 simp only [Act.put, setIfInBounds_toArray, set_cons_zero, set_cons_succ]
 refine tk 10 9 ⟨some 46, _, _, _, _, _⟩ (ptr K.k) rfl (by kernel_rfl) (by rfl) hh0 ?_ ?_
 ·intro w' _
  go_simp
 simp only [Act.put, setIfInBounds_toArray, set_cons_zero, set_cons_succ]
 refine tk 9 10 ⟨some 47, _, _, _, _, _⟩ (ptr K.k) rfl (by kernel_rfl) (by rfl) hh0 ?_ ?_
 ·intro w' _
  go_simp
 simp only [Act.put, setIfInBounds_toArray, set_cons_zero, set_cons_succ]
 refine tk 8 11 ⟨some 48, _, _, _, _, _⟩ (.pointer (some ⟨K.k, 3, none⟩)) rfl (by kernel_rfl) (by rfl) hh0 ?_ ?_
 ·intro w' _
  go_simp
 simp only [Act.put, setIfInBounds_toArray, set_cons_zero, set_cons_succ]
 refine tk 7 12 ⟨some 49, _, _, _, _, _⟩ (.int .i64 c.wa) rfl (by kernel_rfl) (by rfl) hh0 ?_ ?_
 ·rintro w' ⟨c0, -, -⟩
  go_simp
 simp only [Act.put, setIfInBounds_toArray, set_cons_zero, set_cons_succ]
 refine tk 6 13 ⟨some 50, _, _, _, _, _⟩ (.int .i64 ((S : Int) * c.wa)) rfl (by kernel_rfl) (by rfl) hh0 ?_ ?_
 ·intro w' _
  go_simp
 simp only [Act.put, setIfInBounds_toArray, set_cons_zero, set_cons_succ]
 refine tk 5 14 ⟨some 51, _, _, _, _, _⟩ (.int .i64 (W : Int)) rfl (by kernel_rfl) (by rfl) hh0 ?_ ?_
 ·intro w' _
  go_simp
 simp only [Act.put, setIfInBounds_toArray, set_cons_zero, set_cons_succ]
 refine tk 4 15 ⟨some 52, _, _, _, _, _⟩ (.int .i64 (i : Int)) rfl (by kernel_rfl) (by rfl) hh0 ?_ ?_
 ·intro w' _
  go_simp
 simp only [Act.put, setIfInBounds_toArray, set_cons_zero, set_cons_succ]
 refine tk 3 16 ⟨some 53, _, _, _, _, _⟩ (.pointer (some ⟨g, i * 11, none⟩)) rfl (by kernel_rfl) (by rfl) hh0 ?_ ?_
 ·intro w' _
  go_simp
 simp only [Act.put, setIfInBounds_toArray, set_cons_zero, set_cons_succ]
 refine wpAnyH_take (fuel := 2) (i := 17) (oi := ⟨some 54, _, _, _, _, _⟩) (v := .agg (Ar.ycells ⟨xs, xl, xd, xk⟩)) rfl (by kernel_rfl) (by kernel_rfl) (by kernel_rfl) (fun _ _ _ h => h) (yieldsIf_load_mid (by rfl) 69 (.tmp 53) rfl g (i * 11) rfl (Ar.yc ⟨xs, xl, xd, xk⟩) _ (fun w hS => hS.2.2) Tryz.underlying69 rfl (by kernel_rfl)) hh0 ?_
 simp only [Act.put, setIfInBounds_toArray, set_cons_zero, set_cons_succ]
 refine rd 1 18 ⟨some 10, _, _, _, _, _⟩ rfl (by kernel_rfl) (fun P hP => ?_)
 go_simp
 have H1a := Lib.hid (H1.out.add (.cells #[.int .i64 0, .int .i64 0, .int .i64 0, .int .i64 0, .int .i64 0, .int .i64 0, .int .i64 0, .int .i64 0, .int .i64 0, .int .i64 0, .bool false] 69))
 show P _ _
 refine hP.out _ _ (⟨H1a.out.kc, (HGa.out _ (b_alloc _ _)).1, (HGa.out _ (b_alloc _ _)).2⟩) (fun hh1 => ?_)
 clear hP P hh0
 try simp only [Act.put, setIfInBounds_toArray, set_cons_zero, set_cons_succ]
 refine rd 0 19 ⟨none, _, _, _, _, _⟩ rfl (by kernel_rfl) (fun P hP => ?_)
 rw [if_pos (by rfl)]
 refine wp_store_row 69 (.tmp 10) (.tmp 54) rfl (w1.heap.size) (Ar.ycells ⟨xs, xl, xd, xk⟩) rfl rfl 69 (#[.int .i64 0, .int .i64 0, .int .i64 0, .int .i64 0, .int .i64 0, .int .i64 0, .int .i64 0, .int .i64 0, .int .i64 0, .int .i64 0, .bool false]) (H1a.out.box mz0) (by kernel_rfl) rfl (by kernel_rfl) ?_
 have H1as := Lib.hid (H1a.out.setRow (cs' := Ar.ycells ⟨xs, xl, xd, xk⟩))
 refine hP.out _ _ (⟨H1as.out.kc, (HGa.out _ (b_setRow (b_alloc _ _) (Nat.le_refl _) _)).1, (HGa.out _ (b_setRow (b_alloc _ _) (Nat.le_refl _) _)).2⟩) (fun hh2 => ?_)
 clear hP P hh1
 simp only [Act.put]
 refine wpAnyH_done (by kernel_rfl) ?_ _
 refine NoPanic.normal ?_
 clear hh2
 have H2 := H1as
 clear H1a HG HGa
 generalize World.setRow (World.alloc w1 _) _ _ = w2 at *
 generalize w1.heap.size = mw at *
 have e1 := HE1.out
 have hx2 := H2.out.cells mz0
 have h6 := H2.out.box mz2
 have h8 := H2.out.box mz1
 go_wp2_with (first
  | ((with_reducible refine wpList_load_row (o := ⟨some 61, _, _, _, _, _⟩) rfl 38 (.tmp 9) rfl (w.heap.size + 1) ?lx 38 (#[.int .i64 0, .int .i64 0, .int .i64 0, .int .i64 0, .int .i64 0, .int .i64 0, .int .i64 0, .int .i64 0, .int .i64 0, .int .i64 0, .int .i64 0, .int .i64 0, .int .i64 0, .int .i64 0, .int .i64 0]) (0, 0) _ ?lg Tryz.underlying38 ?ld ?li ?_); (case lx => rfl); (case lg => exact h8); (case ld => rfl); (case li => kernel_rfl))
  | ((with_reducible refine wpList_store_row (o := ⟨none, _, _, _, _, _⟩) rfl 38 (.tmp 6) (.tmp 61) rfl (w.heap.size) (#[.int .i64 0, .int .i64 0, .int .i64 0, .int .i64 0, .int .i64 0, .int .i64 0, .int .i64 0, .int .i64 0, .int .i64 0, .int .i64 0, .int .i64 0, .int .i64 0, .int .i64 0, .int .i64 0, .int .i64 0]) ?sx ?sy 38 ?old ?sg ?si ?so ?s1 ?_); (case sx => rfl); (case sy => rfl); (case old => exact #[.int .i64 0, .int .i64 0, .int .i64 0, .int .i64 0, .int .i64 0, .int .i64 0, .int .i64 0, .int .i64 0, .int .i64 0, .int .i64 0, .int .i64 0, .int .i64 0, .int .i64 0, .int .i64 0, .int .i64 0]); (case sg => exact h6); (case si => kernel_rfl); (case so => rfl); (case s1 => kernel_rfl)))
 exact dev_ret (r := (m0, false, 6)) rfl rfl rfl rfl (setRow_heap _ _ _ _ _ _ h6) H2.out.setRow2.drop.drop.drop
set_option maxRecDepth 100000 in
set_option maxHeartbeats 4000000 in
theorem devict_shared (h : OwnD w0 K c core n s bx w) (set way : Int) (hr : 0 ≤ set ∧ set < c.se ∧ 0 ≤ way ∧ way < c.wa) {xs xl : Int} {xd : Wd} {xk : Bool} (hx : s.A[set.toNat * c.wa.toNat + way.toNat]? = some ⟨xs, xl, xd, xk⟩) (e0 : (xs == 0) = false) (e1 : xk = false) (e2 : (xs == 1) = true) :
  Calls Tryz.prog 37 #[ptr K.k, .int .i64 set, .int .i64 way] w (RetT (m0, false, 0) (OwnD w0 K c core n (setA c s xl 0 d0) bx)) := by
 obtain ⟨S, rfl⟩ : ∃ S : Nat, set = S := ⟨set.toNat, by omega⟩
 obtain ⟨W, rfl⟩ : ∃ W : Nat, way = W := ⟨way.toNat, by omega⟩
 obtain ⟨q1, q2, q3, q4⟩ := hr
 have H0 := Lib.hid (h.add2 (.cells #[.int .i64 0, .int .i64 0, .int .i64 0, .int .i64 0, .int .i64 0, .int .i64 0, .int .i64 0, .int .i64 0, .int .i64 0, .int .i64 0, .int .i64 0, .int .i64 0, .int .i64 0, .int .i64 0, .int .i64 0] 38) (.cells #[.int .i64 0, .int .i64 0, .int .i64 0, .int .i64 0, .int .i64 0, .int .i64 0, .int .i64 0, .int .i64 0, .int .i64 0, .int .i64 0, .int .i64 0, .int .i64 0, .int .i64 0, .int .i64 0, .int .i64 0] 38))
 have hsh := h.short.1
 obtain ⟨i, hie⟩ : ∃ i, i = S * c.wa.toNat + W := ⟨_, rfl⟩
 rw [Int.toNat_natCast, Int.toNat_natCast, ← hie] at hx
 have hlt := (List.getElem?_eq_some_iff.1 hx).1
 have hmm : ((S : Int) * c.wa) = ((S * c.wa.toNat : Nat) : Int) := by
  rw [Int.natCast_mul, show ((c.wa.toNat : Nat) : Int) = c.wa by omega]
 have hm1 : IntKind.i64.wrap ((S : Int) * c.wa) = (S : Int) * c.wa   := wrap_small _ (by omega) (by omega)
 have hm2 : IntKind.i64.wrap ((S : Int) * c.wa + (W : Int)) = (i : Int) := by rw [hmm, hie, Int.natCast_add]; exact wrap_small _ (by omega) (by omega)
 have g0 : ¬ (S : Int) < 0 := by omega
 have g1 : ¬ c.se ≤ (S : Int) := by omega
 have g2 : ¬ (W : Int) < 0 := by omega
 have g3 : ¬ c.wa ≤ (W : Int) := by omega
 have g4 : (0 : Int) ≤ (i : Int) := by omega
 have g5 : (i : Int) < (s.A.length : Int) := by omega
 have hk := H0.out.kc
 have HE1 := Lib.hid e1
 clear e1
 clear h hie hmm hlt hsh q1 q2 q3 q4
 go_enter Tryz.func37, Tryz.ntmps37
 go_upto_region 4 with fail
 obtain ⟨w1, hw1⟩ : ∃ w1, w1 = (w.alloc (.cells #[.int .i64 0, .int .i64 0, .int .i64 0, .int .i64 0, .int .i64 0, .int .i64 0, .int .i64 0, .int .i64 0, .int .i64 0, .int .i64 0, .int .i64 0, .int .i64 0, .int .i64 0, .int .i64 0, .int .i64 0] 38)).alloc (.cells #[.int .i64 0, .int .i64 0, .int .i64 0, .int .i64 0, .int .i64 0, .int .i64 0, .int .i64 0, .int .i64 0, .int .i64 0, .int .i64 0, .int .i64 0, .int .i64 0, .int .i64 0, .int .i64 0, .int .i64 0] 38) := ⟨_, rfl⟩
 rw [← hw1] at H0
 have H1 := H0
 change Code.wp _ _ _ _ ((w.alloc (.cells #[.int .i64 0, .int .i64 0, .int .i64 0, .int .i64 0, .int .i64 0, .int .i64 0, .int .i64 0, .int .i64 0, .int .i64 0, .int .i64 0, .int .i64 0, .int .i64 0, .int .i64 0, .int .i64 0, .int .i64 0] 38)).alloc (.cells #[.int .i64 0, .int .i64 0, .int .i64 0, .int .i64 0, .int .i64 0, .int .i64 0, .int .i64 0, .int .i64 0, .int .i64 0, .int .i64 0, .int .i64 0, .int .i64 0, .int .i64 0, .int .i64 0, .int .i64 0] 38))
 rw [← hw1]
 obtain ⟨g, hg⟩ := H1.out.acell
 have HG : Hid (∀ W, Below w1.heap.size w1 W → W.cell? ⟨K.a, 13, none⟩ = some (.slice (some ⟨g, 0, none⟩) s.A.length s.A.length) ∧ W.rangeAt g (i * 11) (Ar.yc ⟨xs, xl, xd, xk⟩)) := Lib.hid fun W hb => ⟨(hg W hb).1, (hg W hb).2 i _ hx⟩
 have HGa : Hid (∀ W, Below w1.drew.heap.size w1.drew W → W.cell? ⟨K.a, 13, none⟩ = some (.slice (some ⟨g, 0, none⟩) s.A.length s.A.length) ∧ W.rangeAt g (i * 11) (Ar.yc ⟨xs, xl, xd, xk⟩)) := Lib.hid fun W hb => HG.out W (((Below.refl w1.heap.size w1).drew).trans hb)
 clear hw1 hg hx hk H0
 refine wp_region_noPanic ?_
 refine wp_region_held_drew (S := (fun w' : World => (∀ o, w'.cell? ⟨K.k, o, none⟩ = (kcells c core K)[o]?) ∧ w'.cell? ⟨K.a, 13, none⟩ = some (.slice (some ⟨g, 0, none⟩) s.A.length s.A.length) ∧ w'.rangeAt g (i * 11) (Ar.yc ⟨xs, xl, xd, xk⟩))) (by kernel_rfl) ⟨H1.out.kc, (HG.out _ (Below.refl _ _)).1, (HG.out _ (Below.refl _ _)).2⟩ (fun hh0 => ?_)
 replace H1 := Lib.hid H1.out.drew
 generalize World.drew w1 = w1 at *
 refine tk 19 0 ⟨some 37, _, _, _, _, _⟩ (ptr K.k) rfl (by kernel_rfl) (by rfl) hh0 ?_ ?_
 ·intro w' _
  go_simp
 simp only [Act.put, setIfInBounds_toArray, set_cons_zero, set_cons_succ]
 refine tk 18 1 ⟨some 38, _, _, _, _, _⟩ (ptr K.k) rfl (by kernel_rfl) (by rfl) hh0 ?_ ?_
 ·intro w' _
  go_simp
 simp only [Act.put, setIfInBounds_toArray, set_cons_zero, set_cons_succ]
 refine tk 17 2 ⟨some 39, _, _, _, _, _⟩ (.pointer (some ⟨K.k, 14, none⟩)) rfl (by kernel_rfl) (by rfl) hh0 ?_ ?_
 ·intro w' _
  go_simp
 simp only [Act.put, setIfInBounds_toArray, set_cons_zero, set_cons_succ]
 refine tk 16 3 ⟨some 40, _, _, _, _, _⟩ (.pointer (some ⟨K.a, 0, none⟩)) rfl (by kernel_rfl) (by rfl) hh0 ?_ ?_
 ·rintro w' ⟨c0, -, -⟩
  go_simp
 simp only [Act.put, setIfInBounds_toArray, set_cons_zero, set_cons_succ]
 refine tk 15 4 ⟨some 41, _, _, _, _, _⟩ (.pointer (some ⟨K.a, 0, none⟩)) rfl (by kernel_rfl) (by rfl) hh0 ?_ ?_
 ·intro w' _
  go_simp
 simp only [Act.put, setIfInBounds_toArray, set_cons_zero, set_cons_succ]
 refine tk 14 5 ⟨some 42, _, _, _, _, _⟩ (.pointer (some ⟨K.a, 13, none⟩)) rfl (by kernel_rfl) (by rfl) hh0 ?_ ?_
 ·intro w' _
  go_simp
 simp only [Act.put, setIfInBounds_toArray, set_cons_zero, set_cons_succ]
 refine tk 13 6 ⟨some 43, _, _, _, _, _⟩ (.slice (some ⟨g, 0, none⟩) s.A.length s.A.length) rfl (by kernel_rfl) (by rfl) hh0 ?_ ?_
 ·rintro w' ⟨-, c0, -⟩
  go_simp
 simp only [Act.put, setIfInBounds_toArray, set_cons_zero, set_cons_succ]
 refine tk 12 7 ⟨some 44, _, _, _, _, _⟩ (.int .i64 (S : Int)) rfl (by kernel_rfl) (by rfl) hh0 ?_ ?_
 ·intro w' _
  go_simp
 simp only [Act.put, setIfInBounds_toArray, set_cons_zero, set_cons_succ]
 refine tk 11 8 ⟨some 45, _, _, _, _, _⟩ (ptr K.k) rfl (by kernel_rfl) (by rfl) hh0 ?_ ?_
 ·intro w' _
  go_simp
 simp only [Act.put, setIfInBounds_toArray, set_cons_zero, set_cons_succ]
 refine tk 10 9 ⟨some 46, _, _, _, _, _⟩ (ptr K.k) rfl (by kernel_rfl) (by rfl) hh0 ?_ ?_
 ·intro w' _
  go_simp
 simp only [Act.put, setIfInBounds_toArray, set_cons_zero, set_cons_succ]
 refine tk 9 10 ⟨some 47, _, _, _, _, _⟩ (ptr K.k) rfl (by kernel_rfl) (by rfl) hh0 ?_ ?_
 ·intro w' _
  go_simp
 simp only [Act.put, setIfInBounds_toArray, set_cons_zero, set_cons_succ]
 refine tk 8 11 ⟨some 48, _, _, _, _, _⟩ (.pointer (some ⟨K.k, 3, none⟩)) rfl (by kernel_rfl) (by rfl) hh0 ?_ ?_
 ·intro w' _
  go_simp
 simp only [Act.put, setIfInBounds_toArray, set_cons_zero, set_cons_succ]
 refine tk 7 12 ⟨some 49, _, _, _, _, _⟩ (.int .i64 c.wa) rfl (by kernel_rfl) (by rfl) hh0 ?_ ?_
 ·rintro w' ⟨c0, -, -⟩
  go_simp
 simp only [Act.put, setIfInBounds_toArray, set_cons_zero, set_cons_succ]
 refine tk 6 13 ⟨some 50, _, _, _, _, _⟩ (.int .i64 ((S : Int) * c.wa)) rfl (by kernel_rfl) (by rfl) hh0 ?_ ?_
 ·intro w' _
  go_simp
 simp only [Act.put, setIfInBounds_toArray, set_cons_zero, set_cons_succ]
 refine tk 5 14 ⟨some 51, _, _, _, _, _⟩ (.int .i64 (W : Int)) rfl (by kernel_rfl) (by rfl) hh0 ?_ ?_
 ·intro w' _
  go_simp
 simp only [Act.put, setIfInBounds_toArray, set_cons_zero, set_cons_succ]
 refine tk 4 15 ⟨some 52, _, _, _, _, _⟩ (.int .i64 (i : Int)) rfl (by kernel_rfl) (by rfl) hh0 ?_ ?_
 ·intro w' _
  go_simp
 simp only [Act.put, setIfInBounds_toArray, set_cons_zero, set_cons_succ]
 refine tk 3 16 ⟨some 53, _, _, _, _, _⟩ (.pointer (some ⟨g, i * 11, none⟩)) rfl (by kernel_rfl) (by rfl) hh0 ?_ ?_
 ·intro w' _
  go_simp
 simp only [Act.put, setIfInBounds_toArray, set_cons_zero, set_cons_succ]
 refine wpAnyH_take (fuel := 2) (i := 17) (oi := ⟨some 54, _, _, _, _, _⟩) (v := .agg (Ar.ycells ⟨xs, xl, xd, xk⟩)) rfl (by kernel_rfl) (by kernel_rfl) (by kernel_rfl) (fun _ _ _ h => h) (yieldsIf_load_mid (by rfl) 69 (.tmp 53) rfl g (i * 11) rfl (Ar.yc ⟨xs, xl, xd, xk⟩) _ (fun w hS => hS.2.2) Tryz.underlying69 rfl (by kernel_rfl)) hh0 ?_
 simp only [Act.put, setIfInBounds_toArray, set_cons_zero, set_cons_succ]
 refine rd 1 18 ⟨some 10, _, _, _, _, _⟩ rfl (by kernel_rfl) (fun P hP => ?_)
 go_simp
 have H1a := Lib.hid (H1.out.add (.cells #[.int .i64 0, .int .i64 0, .int .i64 0, .int .i64 0, .int .i64 0, .int .i64 0, .int .i64 0, .int .i64 0, .int .i64 0, .int .i64 0, .bool false] 69))
 show P _ _
 refine hP.out _ _ (⟨H1a.out.kc, (HGa.out _ (b_alloc _ _)).1, (HGa.out _ (b_alloc _ _)).2⟩) (fun hh1 => ?_)
 clear hP P hh0
 try simp only [Act.put, setIfInBounds_toArray, set_cons_zero, set_cons_succ]
 refine rd 0 19 ⟨none, _, _, _, _, _⟩ rfl (by kernel_rfl) (fun P hP => ?_)
 rw [if_pos (by rfl)]
 refine wp_store_row 69 (.tmp 10) (.tmp 54) rfl (w1.heap.size) (Ar.ycells ⟨xs, xl, xd, xk⟩) rfl rfl 69 (#[.int .i64 0, .int .i64 0, .int .i64 0, .int .i64 0, .int .i64 0, .int .i64 0, .int .i64 0, .int .i64 0, .int .i64 0, .int .i64 0, .bool false]) (H1a.out.box mz0) (by kernel_rfl) rfl (by kernel_rfl) ?_
 have H1as := Lib.hid (H1a.out.setRow (cs' := Ar.ycells ⟨xs, xl, xd, xk⟩))
 refine hP.out _ _ (⟨H1as.out.kc, (HGa.out _ (b_setRow (b_alloc _ _) (Nat.le_refl _) _)).1, (HGa.out _ (b_setRow (b_alloc _ _) (Nat.le_refl _) _)).2⟩) (fun hh2 => ?_)
 clear hP P hh1
 simp only [Act.put]
 refine wpAnyH_done (by kernel_rfl) ?_ _
 refine NoPanic.normal ?_
 clear hh2
 have H2 := H1as
 clear H1a HG HGa
 generalize World.setRow (World.alloc w1 _) _ _ = w2 at *
 generalize w1.heap.size = mw at *
 have e1 := HE1.out
 have hx2 := H2.out.cells mz0
 go_upto_region 10 with fail
 refine wp_region_noPanic ?_
 refine wp_region_held_drew (S := (fun w' : World => (∀ o, w'.cell? ⟨K.k, o, none⟩ = (kcells c core K)[o]?) ∧ (∀ o, w'.cell? ⟨mw, o, none⟩ = (Ar.ycells ⟨xs, xl, xd, xk⟩)[o]?))) (by kernel_rfl) ⟨H2.out.kc, H2.out.cells mz0⟩ (fun hh0 => ?_)
 replace H2 := Lib.hid H2.out.drew
 generalize World.drew w2 = w2 at *
 refine tk 7 0 ⟨some 65, _, _, _, _, _⟩ (ptr K.k) rfl (by kernel_rfl) (by rfl) hh0 ?_ ?_
 ·intro w' _
  go_simp
 simp only [Act.put, setIfInBounds_toArray, set_cons_zero, set_cons_succ]
 refine tk 6 1 ⟨some 66, _, _, _, _, _⟩ (ptr K.k) rfl (by kernel_rfl) (by rfl) hh0 ?_ ?_
 ·intro w' _
  go_simp
 simp only [Act.put, setIfInBounds_toArray, set_cons_zero, set_cons_succ]
 refine tk 5 2 ⟨some 67, _, _, _, _, _⟩ (.pointer (some ⟨K.k, 14, none⟩)) rfl (by kernel_rfl) (by rfl) hh0 ?_ ?_
 ·intro w' _
  go_simp
 simp only [Act.put, setIfInBounds_toArray, set_cons_zero, set_cons_succ]
 refine tk 4 3 ⟨some 68, _, _, _, _, _⟩ (.pointer (some ⟨K.a, 0, none⟩)) rfl (by kernel_rfl) (by rfl) hh0 ?_ ?_
 ·rintro w' ⟨c0, -⟩
  go_simp
 simp only [Act.put, setIfInBounds_toArray, set_cons_zero, set_cons_succ]
 refine tk 3 4 ⟨some 69, _, _, _, _, _⟩ (.pointer (some ⟨mw, 1, none⟩)) rfl (by kernel_rfl) (by rfl) hh0 ?_ ?_
 ·intro w' _
  go_simp
 simp only [Act.put, setIfInBounds_toArray, set_cons_zero, set_cons_succ]
 refine tk 2 5 ⟨some 70, _, _, _, _, _⟩ (.int .i64 xl) rfl (by kernel_rfl) (by rfl) hh0 ?_ ?_
 ·rintro w' ⟨-, c0⟩
  go_simp
 simp only [Act.put, setIfInBounds_toArray, set_cons_zero, set_cons_succ]
 refine tk 1 6 ⟨some 71, _, _, _, _, _⟩ (.agg (#[.int .i64 0, .int .i64 0, .int .i64 0, .int .i64 0, .int .i64 0, .int .i64 0, .int .i64 0, .int .i64 0])) rfl (by kernel_rfl) (by rfl) hh0 ?_ ?_
 ·intro w' _
  go_simp
 simp only [Act.put, setIfInBounds_toArray, set_cons_zero, set_cons_succ]
 refine rd 0 7 ⟨some 72, _, _, _, _, _⟩ rfl (by kernel_rfl) (fun P hP => ?_)
 go_simp
 refine ((H2.out).dset xl 0 d0).mono ?_
 rintro e w3 ⟨⟨i3, rfl⟩, ho⟩
 have H3 := Lib.hid ho
 clear ho
 show P _ _
 refine hP.out _ _ (⟨H3.out.kc, H3.out.cells mz0⟩) (fun hh1 => ?_)
 clear hP P hh0
 try simp only [Act.put, setIfInBounds_toArray, set_cons_zero, set_cons_succ]
 refine wpAnyH_done (by kernel_rfl) ?_ _
 refine NoPanic.normal ?_
 clear hh1
 clear hx2 H2
 have hx2 := H3.out.cells mz0
 have h6 := H3.out.box mz2
 have h8 := H3.out.box mz1
 go_wp2_with (first
  | ((with_reducible refine wpList_load_row (o := ⟨some 73, _, _, _, _, _⟩) rfl 38 (.tmp 9) rfl (w.heap.size + 1) ?lx 38 (#[.int .i64 0, .int .i64 0, .int .i64 0, .int .i64 0, .int .i64 0, .int .i64 0, .int .i64 0, .int .i64 0, .int .i64 0, .int .i64 0, .int .i64 0, .int .i64 0, .int .i64 0, .int .i64 0, .int .i64 0]) (0, 0) _ ?lg Tryz.underlying38 ?ld ?li ?_); (case lx => rfl); (case lg => exact h8); (case ld => rfl); (case li => kernel_rfl))
  | ((with_reducible refine wpList_store_row (o := ⟨none, _, _, _, _, _⟩) rfl 38 (.tmp 6) (.tmp 73) rfl (w.heap.size) (#[.int .i64 0, .int .i64 0, .int .i64 0, .int .i64 0, .int .i64 0, .int .i64 0, .int .i64 0, .int .i64 0, .int .i64 0, .int .i64 0, .int .i64 0, .int .i64 0, .int .i64 0, .int .i64 0, .int .i64 0]) ?sx ?sy 38 ?old ?sg ?si ?so ?s1 ?_); (case sx => rfl); (case sy => rfl); (case old => exact #[.int .i64 0, .int .i64 0, .int .i64 0, .int .i64 0, .int .i64 0, .int .i64 0, .int .i64 0, .int .i64 0, .int .i64 0, .int .i64 0, .int .i64 0, .int .i64 0, .int .i64 0, .int .i64 0, .int .i64 0]); (case sg => exact h6); (case si => kernel_rfl); (case so => rfl); (case s1 => kernel_rfl)))
 exact dev_ret (r := (m0, false, 0)) rfl rfl rfl rfl (setRow_heap _ _ _ _ _ _ h6) H3.out.setRow2.drop.drop.drop
set_option maxRecDepth 100000 in
set_option maxHeartbeats 4000000 in
theorem devict_full (h : OwnD w0 K c core n s bx w) (set way : Int) (hr : 0 ≤ set ∧ set < c.se ∧ 0 ≤ way ∧ way < c.wa) {xs xl : Int} {xd : Wd} {xk : Bool} (hx : s.A[set.toNat * c.wa.toNat + way.toNat]? = some ⟨xs, xl, xd, xk⟩) (e0 : (xs == 0) = false) (e1 : xk = false) (e2 : (xs == 1) = false) (e3 : c.wb ≤ (s.B.length : Int)) :
  Calls Tryz.prog 37 #[ptr K.k, .int .i64 set, .int .i64 way] w (RetT (m0, false, 4) (OwnD w0 K c core n s bx)) := by
 obtain ⟨S, rfl⟩ : ∃ S : Nat, set = S := ⟨set.toNat, by omega⟩
 obtain ⟨W, rfl⟩ : ∃ W : Nat, way = W := ⟨way.toNat, by omega⟩
 obtain ⟨q1, q2, q3, q4⟩ := hr
 have H0 := Lib.hid (h.add2 (.cells #[.int .i64 0, .int .i64 0, .int .i64 0, .int .i64 0, .int .i64 0, .int .i64 0, .int .i64 0, .int .i64 0, .int .i64 0, .int .i64 0, .int .i64 0, .int .i64 0, .int .i64 0, .int .i64 0, .int .i64 0] 38) (.cells #[.int .i64 0, .int .i64 0, .int .i64 0, .int .i64 0, .int .i64 0, .int .i64 0, .int .i64 0, .int .i64 0, .int .i64 0, .int .i64 0, .int .i64 0, .int .i64 0, .int .i64 0, .int .i64 0, .int .i64 0] 38))
 have hsh := h.short.1
 obtain ⟨i, hie⟩ : ∃ i, i = S * c.wa.toNat + W := ⟨_, rfl⟩
 rw [Int.toNat_natCast, Int.toNat_natCast, ← hie] at hx
 have hlt := (List.getElem?_eq_some_iff.1 hx).1
 have hmm : ((S : Int) * c.wa) = ((S * c.wa.toNat : Nat) : Int) := by
  rw [Int.natCast_mul, show ((c.wa.toNat : Nat) : Int) = c.wa by omega]
 have hm1 : IntKind.i64.wrap ((S : Int) * c.wa) = (S : Int) * c.wa   := wrap_small _ (by omega) (by omega)
 have hm2 : IntKind.i64.wrap ((S : Int) * c.wa + (W : Int)) = (i : Int) := by rw [hmm, hie, Int.natCast_add]; exact wrap_small _ (by omega) (by omega)
 have g0 : ¬ (S : Int) < 0 := by omega
 have g1 : ¬ c.se ≤ (S : Int) := by omega
 have g2 : ¬ (W : Int) < 0 := by omega
 have g3 : ¬ c.wa ≤ (W : Int) := by omega
 have g4 : (0 : Int) ≤ (i : Int) := by omega
 have g5 : (i : Int) < (s.A.length : Int) := by omega
 have hk := H0.out.kc
 have HE1 := Lib.hid e1
 clear e1
 clear h hie hmm hlt hsh q1 q2 q3 q4
 go_enter Tryz.func37, Tryz.ntmps37
 go_upto_region 4 with fail
 obtain ⟨w1, hw1⟩ : ∃ w1, w1 = (w.alloc (.cells #[.int .i64 0, .int .i64 0, .int .i64 0, .int .i64 0, .int .i64 0, .int .i64 0, .int .i64 0, .int .i64 0, .int .i64 0, .int .i64 0, .int .i64 0, .int .i64 0, .int .i64 0, .int .i64 0, .int .i64 0] 38)).alloc (.cells #[.int .i64 0, .int .i64 0, .int .i64 0, .int .i64 0, .int .i64 0, .int .i64 0, .int .i64 0, .int .i64 0, .int .i64 0, .int .i64 0, .int .i64 0, .int .i64 0, .int .i64 0, .int .i64 0, .int .i64 0] 38) := ⟨_, rfl⟩
 rw [← hw1] at H0
 have H1 := H0
 change Code.wp _ _ _ _ ((w.alloc (.cells #[.int .i64 0, .int .i64 0, .int .i64 0, .int .i64 0, .int .i64 0, .int .i64 0, .int .i64 0, .int .i64 0, .int .i64 0, .int .i64 0, .int .i64 0, .int .i64 0, .int .i64 0, .int .i64 0, .int .i64 0] 38)).alloc (.cells #[.int .i64 0, .int .i64 0, .int .i64 0, .int .i64 0, .int .i64 0, .int .i64 0, .int .i64 0, .int .i64 0, .int .i64 0, .int .i64 0, .int .i64 0, .int .i64 0, .int .i64 0, .int .i64 0, .int .i64 0] 38))
 rw [← hw1]
 obtain ⟨g, hg⟩ := H1.out.acell
 have HG : Hid (∀ W, Below w1.heap.size w1 W → W.cell? ⟨K.a, 13, none⟩ = some (.slice (some ⟨g, 0, none⟩) s.A.length s.A.length) ∧ W.rangeAt g (i * 11) (Ar.yc ⟨xs, xl, xd, xk⟩)) := Lib.hid fun W hb => ⟨(hg W hb).1, (hg W hb).2 i _ hx⟩
 have HGa : Hid (∀ W, Below w1.drew.heap.size w1.drew W → W.cell? ⟨K.a, 13, none⟩ = some (.slice (some ⟨g, 0, none⟩) s.A.length s.A.length) ∧ W.rangeAt g (i * 11) (Ar.yc ⟨xs, xl, xd, xk⟩)) := Lib.hid fun W hb => HG.out W (((Below.refl w1.heap.size w1).drew).trans hb)
 clear hw1 hg hx hk H0
 refine wp_region_noPanic ?_
 refine wp_region_held_drew (S := (fun w' : World => (∀ o, w'.cell? ⟨K.k, o, none⟩ = (kcells c core K)[o]?) ∧ w'.cell? ⟨K.a, 13, none⟩ = some (.slice (some ⟨g, 0, none⟩) s.A.length s.A.length) ∧ w'.rangeAt g (i * 11) (Ar.yc ⟨xs, xl, xd, xk⟩))) (by kernel_rfl) ⟨H1.out.kc, (HG.out _ (Below.refl _ _)).1, (HG.out _ (Below.refl _ _)).2⟩ (fun hh0 => ?_)
 replace H1 := Lib.hid H1.out.drew
 generalize World.drew w1 = w1 at *
 refine tk 19 0 ⟨some 37, _, _, _, _, _⟩ (ptr K.k) rfl (by kernel_rfl) (by rfl) hh0 ?_ ?_
 ·intro w' _
  go_simp
 simp only [Act.put, setIfInBounds_toArray, set_cons_zero, set_cons_succ]
 refine tk 18 1 ⟨some 38, _, _, _, _, _⟩ (ptr K.k) rfl (by kernel_rfl) (by rfl) hh0 ?_ ?_
 ·intro w' _
  go_simp
 simp only [Act.put, setIfInBounds_toArray, set_cons_zero, set_cons_succ]
 refine tk 17 2 ⟨some 39, _, _, _, _, _⟩ (.pointer (some ⟨K.k, 14, none⟩)) rfl (by kernel_rfl) (by rfl) hh0 ?_ ?_
 ·intro w' _
  go_simp
 simp only [Act.put, setIfInBounds_toArray, set_cons_zero, set_cons_succ]
 refine tk 16 3 ⟨some 40, _, _, _, _, _⟩ (.pointer (some ⟨K.a, 0, none⟩)) rfl (by kernel_rfl) (by rfl) hh0 ?_ ?_
 ·rintro w' ⟨c0, -, -⟩
  go_simp
 simp only [Act.put, setIfInBounds_toArray, set_cons_zero, set_cons_succ]
 refine tk 15 4 ⟨some 41, _, _, _, _, _⟩ (.pointer (some ⟨K.a, 0, none⟩)) rfl (by kernel_rfl) (by rfl) hh0 ?_ ?_
 ·intro w' _
  go_simp
 simp only [Act.put, setIfInBounds_toArray, set_cons_zero, set_cons_succ]
 refine tk 14 5 ⟨some 42, _, _, _, _, _⟩ (.pointer (some ⟨K.a, 13, none⟩)) rfl (by kernel_rfl) (by rfl) hh0 ?_ ?_
 ·intro w' _
  go_simp
 simp only [Act.put, setIfInBounds_toArray, set_cons_zero, set_cons_succ]
 refine tk 13 6 ⟨some 43, _, _, _, _, _⟩ (.slice (some ⟨g, 0, none⟩) s.A.length s.A.length) rfl (by kernel_rfl) (by rfl) hh0 ?_ ?_
 ·rintro w' ⟨-, c0, -⟩
  go_simp
 simp only [Act.put, setIfInBounds_toArray, set_cons_zero, set_cons_succ]
 refine tk 12 7 ⟨some 44, _, _, _, _, _⟩ (.int .i64 (S : Int)) rfl (by kernel_rfl) (by rfl) hh0 ?_ ?_
 ·intro w' _
  go_simp
 simp only [Act.put, setIfInBounds_toArray, set_cons_zero, set_cons_succ]
 refine tk 11 8 ⟨some 45, _, _, _, _, _⟩ (ptr K.k) rfl (by kernel_rfl) (by rfl) hh0 ?_ ?_
 ·intro w' _
  go_simp
 simp only [Act.put, setIfInBounds_toArray, set_cons_zero, set_cons_succ]
 refine tk 10 9 ⟨some 46, _, _, _, _, _⟩ (ptr K.k) rfl (by kernel_rfl) (by rfl) hh0 ?_ ?_
 ·intro w' _
  go_simp
 simp only [Act.put, setIfInBounds_toArray, set_cons_zero, set_cons_succ]
 refine tk 9 10 ⟨some 47, _, _, _, _, _⟩ (ptr K.k) rfl (by kernel_rfl) (by rfl) hh0 ?_ ?_
 ·intro w' _
  go_simp
 simp only [Act.put, setIfInBounds_toArray, set_cons_zero, set_cons_succ]
 refine tk 8 11 ⟨some 48, _, _, _, _, _⟩ (.pointer (some ⟨K.k, 3, none⟩)) rfl (by kernel_rfl) (by rfl) hh0 ?_ ?_
 ·intro w' _
  go_simp
 simp only [Act.put, setIfInBounds_toArray, set_cons_zero, set_cons_succ]
 refine tk 7 12 ⟨some 49, _, _, _, _, _⟩ (.int .i64 c.wa) rfl (by kernel_rfl) (by rfl) hh0 ?_ ?_
 ·rintro w' ⟨c0, -, -⟩
  go_simp
 simp only [Act.put, setIfInBounds_toArray, set_cons_zero, set_cons_succ]
 refine tk 6 13 ⟨some 50, _, _, _, _, _⟩ (.int .i64 ((S : Int) * c.wa)) rfl (by kernel_rfl) (by rfl) hh0 ?_ ?_
 ·intro w' _
  go_simp
 simp only [Act.put, setIfInBounds_toArray, set_cons_zero, set_cons_succ]
 refine tk 5 14 ⟨some 51, _, _, _, _, _⟩ (.int .i64 (W : Int)) rfl (by kernel_rfl) (by rfl) hh0 ?_ ?_
 ·intro w' _
  go_simp
 simp only [Act.put, setIfInBounds_toArray, set_cons_zero, set_cons_succ]
 refine tk 4 15 ⟨some 52, _, _, _, _, _⟩ (.int .i64 (i : Int)) rfl (by kernel_rfl) (by rfl) hh0 ?_ ?_
 ·intro w' _
  go_simp
 simp only [Act.put, setIfInBounds_toArray, set_cons_zero, set_cons_succ]
 refine tk 3 16 ⟨some 53, _, _, _, _, _⟩ (.pointer (some ⟨g, i * 11, none⟩)) rfl (by kernel_rfl) (by rfl) hh0 ?_ ?_
 ·intro w' _
  go_simp
 simp only [Act.put, setIfInBounds_toArray, set_cons_zero, set_cons_succ]
 refine wpAnyH_take (fuel := 2) (i := 17) (oi := ⟨some 54, _, _, _, _, _⟩) (v := .agg (Ar.ycells ⟨xs, xl, xd, xk⟩)) rfl (by kernel_rfl) (by kernel_rfl) (by kernel_rfl) (fun _ _ _ h => h) (yieldsIf_load_mid (by rfl) 69 (.tmp 53) rfl g (i * 11) rfl (Ar.yc ⟨xs, xl, xd, xk⟩) _ (fun w hS => hS.2.2) Tryz.underlying69 rfl (by kernel_rfl)) hh0 ?_
 simp only [Act.put, setIfInBounds_toArray, set_cons_zero, set_cons_succ]
 refine rd 1 18 ⟨some 10, _, _, _, _, _⟩ rfl (by kernel_rfl) (fun P hP => ?_)
 go_simp
 have H1a := Lib.hid (H1.out.add (.cells #[.int .i64 0, .int .i64 0, .int .i64 0, .int .i64 0, .int .i64 0, .int .i64 0, .int .i64 0, .int .i64 0, .int .i64 0, .int .i64 0, .bool false] 69))
 show P _ _
 refine hP.out _ _ (⟨H1a.out.kc, (HGa.out _ (b_alloc _ _)).1, (HGa.out _ (b_alloc _ _)).2⟩) (fun hh1 => ?_)
 clear hP P hh0
 try simp only [Act.put, setIfInBounds_toArray, set_cons_zero, set_cons_succ]
 refine rd 0 19 ⟨none, _, _, _, _, _⟩ rfl (by kernel_rfl) (fun P hP => ?_)
 rw [if_pos (by rfl)]
 refine wp_store_row 69 (.tmp 10) (.tmp 54) rfl (w1.heap.size) (Ar.ycells ⟨xs, xl, xd, xk⟩) rfl rfl 69 (#[.int .i64 0, .int .i64 0, .int .i64 0, .int .i64 0, .int .i64 0, .int .i64 0, .int .i64 0, .int .i64 0, .int .i64 0, .int .i64 0, .bool false]) (H1a.out.box mz0) (by kernel_rfl) rfl (by kernel_rfl) ?_
 have H1as := Lib.hid (H1a.out.setRow (cs' := Ar.ycells ⟨xs, xl, xd, xk⟩))
 refine hP.out _ _ (⟨H1as.out.kc, (HGa.out _ (b_setRow (b_alloc _ _) (Nat.le_refl _) _)).1, (HGa.out _ (b_setRow (b_alloc _ _) (Nat.le_refl _) _)).2⟩) (fun hh2 => ?_)
 clear hP P hh1
 simp only [Act.put]
 refine wpAnyH_done (by kernel_rfl) ?_ _
 refine NoPanic.normal ?_
 clear hh2
 have H2 := H1as
 clear H1a HG HGa
 generalize World.setRow (World.alloc w1 _) _ _ = w2 at *
 generalize w1.heap.size = mw at *
 have e1 := HE1.out
 have hx2 := H2.out.cells mz0
 obtain ⟨fp, fc, hf⟩ := H2.out.bcell
 have HF : Hid (∀ o, w2.drew.cell? ⟨K.b, o, none⟩ = (#[.int .i64 c.wb, .slice fp s.B.length fc] : Array Value)[o]?) := Lib.hid fun o => hf o
 go_upto_region 12 with fail
 refine wp_region_noPanic ?_
 refine wp_region_held_drew (S := (fun w' : World => (∀ o, w'.cell? ⟨K.k, o, none⟩ = (kcells c core K)[o]?) ∧ (∀ o, w'.cell? ⟨mw, o, none⟩ = (Ar.ycells ⟨xs, xl, xd, xk⟩)[o]?) ∧ (∀ o, w'.cell? ⟨K.b, o, none⟩ = (#[.int .i64 c.wb, .slice fp s.B.length fc] : Array Value)[o]?))) (by kernel_rfl) ⟨H2.out.kc, H2.out.cells mz0, hf⟩ (fun hh0 => ?_)
 replace H2 := Lib.hid H2.out.drew
 generalize World.drew w2 = w2 at *
 refine tk 23 0 ⟨some 74, _, _, _, _, _⟩ (ptr K.k) rfl (by kernel_rfl) (by rfl) hh0 ?_ ?_
 ·intro w' _
  go_simp
 simp only [Act.put, setIfInBounds_toArray, set_cons_zero, set_cons_succ]
 refine tk 22 1 ⟨some 75, _, _, _, _, _⟩ (ptr K.k) rfl (by kernel_rfl) (by rfl) hh0 ?_ ?_
 ·intro w' _
  go_simp
 simp only [Act.put, setIfInBounds_toArray, set_cons_zero, set_cons_succ]
 refine tk 21 2 ⟨some 76, _, _, _, _, _⟩ (.pointer (some ⟨K.k, 16, none⟩)) rfl (by kernel_rfl) (by rfl) hh0 ?_ ?_
 ·intro w' _
  go_simp
 simp only [Act.put, setIfInBounds_toArray, set_cons_zero, set_cons_succ]
 refine tk 20 3 ⟨some 77, _, _, _, _, _⟩ (.pointer (some ⟨K.b, 0, none⟩)) rfl (by kernel_rfl) (by rfl) hh0 ?_ ?_
 ·rintro w' ⟨c0, -, -⟩
  go_simp
 simp only [Act.put, setIfInBounds_toArray, set_cons_zero, set_cons_succ]
 refine tk 19 4 ⟨some 78, _, _, _, _, _⟩ (.pointer (some ⟨K.b, 0, none⟩)) rfl (by kernel_rfl) (by rfl) hh0 ?_ ?_
 ·intro w' _
  go_simp
 simp only [Act.put, setIfInBounds_toArray, set_cons_zero, set_cons_succ]
 refine tk 18 5 ⟨some 79, _, _, _, _, _⟩ (.pointer (some ⟨K.b, 1, none⟩)) rfl (by kernel_rfl) (by rfl) hh0 ?_ ?_
 ·intro w' _
  go_simp
 simp only [Act.put, setIfInBounds_toArray, set_cons_zero, set_cons_succ]
 refine tk 17 6 ⟨some 80, _, _, _, _, _⟩ (.slice fp s.B.length fc) rfl (by kernel_rfl) (by rfl) hh0 ?_ ?_
 ·rintro w' ⟨-, -, c0⟩
  go_simp
 simp only [Act.put, setIfInBounds_toArray, set_cons_zero, set_cons_succ]
 refine tk 16 7 ⟨some 81, _, _, _, _, _⟩ (.int .i64 (s.B.length : Int)) rfl (by kernel_rfl) (by rfl) hh0 ?_ ?_
 ·intro w' _
  go_simp
 simp only [Act.put, setIfInBounds_toArray, set_cons_zero, set_cons_succ]
 refine tk 15 8 ⟨some 82, _, _, _, _, _⟩ (ptr K.k) rfl (by kernel_rfl) (by rfl) hh0 ?_ ?_
 ·intro w' _
  go_simp
 simp only [Act.put, setIfInBounds_toArray, set_cons_zero, set_cons_succ]
 refine tk 14 9 ⟨some 83, _, _, _, _, _⟩ (ptr K.k) rfl (by kernel_rfl) (by rfl) hh0 ?_ ?_
 ·intro w' _
  go_simp
 simp only [Act.put, setIfInBounds_toArray, set_cons_zero, set_cons_succ]
 refine tk 13 10 ⟨some 84, _, _, _, _, _⟩ (ptr K.k) rfl (by kernel_rfl) (by rfl) hh0 ?_ ?_
 ·intro w' _
  go_simp
 simp only [Act.put, setIfInBounds_toArray, set_cons_zero, set_cons_succ]
 refine tk 12 11 ⟨some 85, _, _, _, _, _⟩ (.pointer (some ⟨K.k, 9, none⟩)) rfl (by kernel_rfl) (by rfl) hh0 ?_ ?_
 ·intro w' _
  go_simp
 simp only [Act.put, setIfInBounds_toArray, set_cons_zero, set_cons_succ]
 refine tk 11 12 ⟨some 86, _, _, _, _, _⟩ (.int .i64 c.wb) rfl (by kernel_rfl) (by rfl) hh0 ?_ ?_
 ·rintro w' ⟨c0, -, -⟩
  go_simp
 simp only [Act.put, setIfInBounds_toArray, set_cons_zero, set_cons_succ]
 refine tk 10 13 ⟨some 87, _, _, _, _, _⟩ (.bool true) rfl (by kernel_rfl) (by rfl) hh0 ?_ ?_
 ·intro w' _
  go_simp
 simp only [Act.put, setIfInBounds_toArray, set_cons_zero, set_cons_succ]
 refine tk 9 14 ⟨some 88, _, _, _, _, _⟩ (.bool true) rfl (by kernel_rfl) (by rfl) hh0 ?_ ?_
 ·intro w' _
  go_simp
 simp only [Act.put, setIfInBounds_toArray, set_cons_zero, set_cons_succ]
 refine wpAnyH_take (fuel := 8) (i := 15) (oi := ⟨some 89, _, _, _, _, _⟩) (v := undef) rfl (by kernel_rfl) (by kernel_rfl) (by kernel_rfl) (fun _ _ _ h => h) (Or.inr ⟨by rfl, rfl⟩) hh0 ?_
 simp only [Act.put, setIfInBounds_toArray, set_cons_zero, set_cons_succ]
 refine wpAnyH_take (fuel := 7) (i := 16) (oi := ⟨some 90, _, _, _, _, _⟩) (v := undef) rfl (by kernel_rfl) (by kernel_rfl) (by kernel_rfl) (fun _ _ _ h => h) (Or.inr ⟨by rfl, rfl⟩) hh0 ?_
 simp only [Act.put, setIfInBounds_toArray, set_cons_zero, set_cons_succ]
 refine wpAnyH_take (fuel := 6) (i := 17) (oi := ⟨some 91, _, _, _, _, _⟩) (v := undef) rfl (by kernel_rfl) (by kernel_rfl) (by kernel_rfl) (fun _ _ _ h => h) (Or.inr ⟨by rfl, rfl⟩) hh0 ?_
 simp only [Act.put, setIfInBounds_toArray, set_cons_zero, set_cons_succ]
 refine wpAnyH_take (fuel := 5) (i := 18) (oi := ⟨some 92, _, _, _, _, _⟩) (v := undef) rfl (by kernel_rfl) (by kernel_rfl) (by kernel_rfl) (fun _ _ _ h => h) (Or.inr ⟨by rfl, rfl⟩) hh0 ?_
 simp only [Act.put, setIfInBounds_toArray, set_cons_zero, set_cons_succ]
 refine wpAnyH_take (fuel := 4) (i := 19) (oi := ⟨some 93, _, _, _, _, _⟩) (v := undef) rfl (by kernel_rfl) (by kernel_rfl) (by kernel_rfl) (fun _ _ _ h => h) (Or.inr ⟨by rfl, rfl⟩) hh0 ?_
 simp only [Act.put, setIfInBounds_toArray, set_cons_zero, set_cons_succ]
 refine wpAnyH_take (fuel := 3) (i := 20) (oi := ⟨some 94, _, _, _, _, _⟩) (v := undef) rfl (by kernel_rfl) (by kernel_rfl) (by kernel_rfl) (fun _ _ _ h => h) (Or.inr ⟨by rfl, rfl⟩) hh0 ?_
 simp only [Act.put, setIfInBounds_toArray, set_cons_zero, set_cons_succ]
 refine wpAnyH_take (fuel := 2) (i := 21) (oi := ⟨some 95, _, _, _, _, _⟩) (v := undef) rfl (by kernel_rfl) (by kernel_rfl) (by kernel_rfl) (fun _ _ _ h => h) (Or.inr ⟨by rfl, rfl⟩) hh0 ?_
 simp only [Act.put, setIfInBounds_toArray, set_cons_zero, set_cons_succ]
 refine wpAnyH_take (fuel := 1) (i := 22) (oi := ⟨some 96, _, _, _, _, _⟩) (v := undef) rfl (by kernel_rfl) (by kernel_rfl) (by kernel_rfl) (fun _ _ _ h => h) (Or.inr ⟨by rfl, rfl⟩) hh0 ?_
 simp only [Act.put, setIfInBounds_toArray, set_cons_zero, set_cons_succ]
 refine tk 0 23 ⟨some 97, _, _, _, _, _⟩ (.bool true) rfl (by kernel_rfl) (by rfl) hh0 ?_ ?_
 ·intro w' _
  go_simp
 simp only [Act.put, setIfInBounds_toArray, set_cons_zero, set_cons_succ]
 refine wpAnyH_done (by kernel_rfl) ?_ _
 refine NoPanic.normal ?_
 clear hh0
 clear hx2 hf HF
 have hx2 := H2.out.cells mz0
 have h6 := H2.out.box mz2
 have h8 := H2.out.box mz1
 go_wp2_with (first
  | ((with_reducible refine wpList_load_row (o := ⟨some 98, _, _, _, _, _⟩) rfl 38 (.tmp 9) rfl (w.heap.size + 1) ?lx 38 (#[.int .i64 0, .int .i64 0, .int .i64 0, .int .i64 0, .int .i64 0, .int .i64 0, .int .i64 0, .int .i64 0, .int .i64 0, .int .i64 0, .int .i64 0, .int .i64 0, .int .i64 0, .int .i64 0, .int .i64 0]) (0, 0) _ ?lg Tryz.underlying38 ?ld ?li ?_); (case lx => rfl); (case lg => exact h8); (case ld => rfl); (case li => kernel_rfl))
  | ((with_reducible refine wpList_store_row (o := ⟨none, _, _, _, _, _⟩) rfl 38 (.tmp 6) (.tmp 98) rfl (w.heap.size) (#[.int .i64 0, .int .i64 0, .int .i64 0, .int .i64 0, .int .i64 0, .int .i64 0, .int .i64 0, .int .i64 0, .int .i64 0, .int .i64 0, .int .i64 0, .int .i64 0, .int .i64 0, .int .i64 0, .int .i64 0]) ?sx ?sy 38 ?old ?sg ?si ?so ?s1 ?_); (case sx => rfl); (case sy => rfl); (case old => exact #[.int .i64 0, .int .i64 0, .int .i64 0, .int .i64 0, .int .i64 0, .int .i64 0, .int .i64 0, .int .i64 0, .int .i64 0, .int .i64 0, .int .i64 0, .int .i64 0, .int .i64 0, .int .i64 0, .int .i64 0]); (case sg => exact h6); (case si => kernel_rfl); (case so => rfl); (case s1 => kernel_rfl)))
 exact dev_ret (r := (m0, false, 4)) rfl rfl rfl rfl (setRow_heap _ _ _ _ _ _ h6) H2.out.setRow2.drop.drop.drop

end Go.Proofs.YtlfhkjjjocmpbaaGreatDoor.Cc
