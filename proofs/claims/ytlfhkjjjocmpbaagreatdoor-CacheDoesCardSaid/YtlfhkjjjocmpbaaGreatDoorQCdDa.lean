import Derived.Test.YtlfhkjjjocmpbaaGreatDoorSx
import Derived.Test.YtlfhkjjjocmpbaaGreatDoorQCdD

namespace Go.Proofs.YtlfhkjjjocmpbaaGreatDoor.Cc
open Go Go.RowKit
open List (setIfInBounds_toArray set_cons_zero set_cons_succ)

variable {w0 w w' : World} {bx : Bx} {K : Kb} {c : Cfg} {core n : Int} {s : St}
set_option maxRecDepth 100000 in
set_option maxHeartbeats 4000000 in
theorem devict_put (h : OwnD w0 K c core n s bx w) (set way : Int) (hr : 0 ≤ set ∧ set < c.se ∧ 0 ≤ way ∧ way < c.wa) {xs xl : Int} {xd : Wd} {xk : Bool} (hx : s.A[set.toNat * c.wa.toNat + way.toNat]? = some ⟨xs, xl, xd, xk⟩) (e0 : (xs == 0) = false) (e1 : xk = false) (e2 : (xs == 1) = false) (e3 : ¬ c.wb ≤ (s.B.length : Int)) (hl : 0 ≤ xl) (hp : Wb.oi (Wb.fnd s.B xl) = -1) :
  Calls Tryz.prog 37 #[ptr K.k, .int .i64 set, .int .i64 way] w (RetT (⟨3, xl, core, xl % c.ho, 0, 0, 0, xd.w0, xd.w1, xd.w2, xd.w3, xd.w4, xd.w5, xd.w6, xd.w7⟩, true, 0) (OwnD w0 K c core n { setA c s xl 0 d0 with B := (Wb.putP c.wb s.B xl xd).2 } bx)) := by
 obtain ⟨S, rfl⟩ : ∃ S : Nat, set = S := ⟨set.toNat, by omega⟩
 obtain ⟨W, rfl⟩ : ∃ W : Nat, way = W := ⟨way.toNat, by omega⟩
 obtain ⟨q1, q2, q3, q4⟩ := hr
 have H0 := Lib.hid (h.add2 (.cells #[.int .i64 0, .int .i64 0, .int .i64 0, .int .i64 0, .int .i64 0, .int .i64 0, .int .i64 0, .int .i64 0, .int .i64 0, .int .i64 0, .int .i64 0, .int .i64 0, .int .i64 0, .int .i64 0, .int .i64 0] 38) (.cells #[.int .i64 0, .int .i64 0, .int .i64 0, .int .i64 0, .int .i64 0, .int .i64 0, .int .i64 0, .int .i64 0, .int .i64 0, .int .i64 0, .int .i64 0, .int .i64 0, .int .i64 0, .int .i64 0, .int .i64 0] 38))
 have hsh := h.short.1
 obtain ⟨i, hie⟩ : ∃ i, i = S * c.wa.toNat + W := ⟨_, rfl⟩
 rw [Int.toNat_natCast, Int.toNat_natCast, ← hie] at hx
 have hlt := (List.getElem?_eq_some_iff.1 hx).1
 have hmm : ((S : Int) * c.wa) = ((S * c.wa.toNat : Nat) : Int) := by
  rw [Int.natCast_mul, show ((c.wa.toNat : Nat) : Int) = c.wa by omega]
 have hm1 : IntKind.i64.wrap ((S : Int) * c.wa) = (S : Int) * c.wa   := wrap_small _ (by omega) (by omega)
 have hm2 : IntKind.i64.wrap ((S : Int) * c.wa + (W : Int)) = (i : Int) := by rw [hmm, hie, Int.natCast_add]; exact wrap_small _ (by omega) (by omega)
 have g0 : ¬ (S : Int) < 0 := by omega
 have g1 : ¬ c.se ≤ (S : Int) := by omega
 have g2 : ¬ (W : Int) < 0 := by omega
 have g3 : ¬ c.wa ≤ (W : Int) := by omega
 have g4 : (0 : Int) ≤ (i : Int) := by omega
 have g5 : (i : Int) < (s.A.length : Int) := by omega
 have hk := H0.out.kc
 have HE1 := Lib.hid e1
 clear e1
 obtain ⟨hh1, hh2⟩ := (ok_pows c h.nums.1).2.1.2
 have gho : ¬ c.ho = 0 := by omega
 have gmd : (xl.tmod c.ho) = xl % c.ho := Int.tmod_eq_emod_of_nonneg hl
 have HP := Lib.hid hp
 clear hp
 clear h hie hmm hlt hsh q1 q2 q3 q4
 go_enter Tryz.func37, Tryz.ntmps37
 go_upto_region 4 with fail
 obtain ⟨w1, hw1⟩ : ∃ w1, w1 = (w.alloc (.cells #[.int .i64 0, .int .i64 0, .int .i64 0, .int .i64 0, .int .i64 0, .int .i64 0, .int .i64 0, .int .i64 0, .int .i64 0, .int .i64 0, .int .i64 0, .int .i64 0, .int .i64 0, .int .i64 0, .int .i64 0] 38)).alloc (.cells #[.int .i64 0, .int .i64 0, .int .i64 0, .int .i64 0, .int .i64 0, .int .i64 0, .int .i64 0, .int .i64 0, .int .i64 0, .int .i64 0, .int .i64 0, .int .i64 0, .int .i64 0, .int .i64 0, .int .i64 0] 38) := ⟨_, rfl⟩
 rw [← hw1] at H0
 have H1 := H0
 change Code.wp _ _ _ _ ((w.alloc (.cells #[.int .i64 0, .int .i64 0, .int .i64 0, .int .i64 0, .int .i64 0, .int .i64 0, .int .i64 0, .int .i64 0, .int .i64 0, .int .i64 0, .int .i64 0, .int .i64 0, .int .i64 0, .int .i64 0, .int .i64 0] 38)).alloc (.cells #[.int .i64 0, .int .i64 0, .int .i64 0, .int .i64 0, .int .i64 0, .int .i64 0, .int .i64 0, .int .i64 0, .int .i64 0, .int .i64 0, .int .i64 0, .int .i64 0, .int .i64 0, .int .i64 0, .int .i64 0] 38))
 rw [← hw1]
 obtain ⟨g, hg⟩ := H1.out.acell
 have HG : Hid (∀ W, Below w1.heap.size w1 W → W.cell? ⟨K.a, 13, none⟩ = some (.slice (some ⟨g, 0, none⟩) s.A.length s.A.length) ∧ W.rangeAt g (i * 11) (Ar.yc ⟨xs, xl, xd, xk⟩)) := Lib.hid fun W hb => ⟨(hg W hb).1, (hg W hb).2 i _ hx⟩
 have HGa : Hid (∀ W, Below w1.drew.heap.size w1.drew W → W.cell? ⟨K.a, 13, none⟩ = some (.slice (some ⟨g, 0, none⟩) s.A.length s.A.length) ∧ W.rangeAt g (i * 11) (Ar.yc ⟨xs, xl, xd, xk⟩)) := Lib.hid fun W hb => HG.out W (((Below.refl w1.heap.size w1).drew).trans hb)
 clear hw1 hg hx hk H0
 refine wp_region_noPanic ?_
 refine wp_region_held_drew (S := (fun w' : World => (∀ o, w'.cell? ⟨K.k, o, none⟩ = (kcells c core K)[o]?) ∧ w'.cell? ⟨K.a, 13, none⟩ = some (.slice (some ⟨g, 0, none⟩) s.A.length s.A.length) ∧ w'.rangeAt g (i * 11) (Ar.yc ⟨xs, xl, xd, xk⟩))) (by kernel_rfl) ⟨H1.out.kc, (HG.out _ (Below.refl _ _)).1, (HG.out _ (Below.refl _ _)).2⟩ (fun hh0 => ?_)
 replace H1 := Lib.hid H1.out.drew
 generalize World.drew w1 = w1 at *
 refine tk 19 0 ⟨some 37, _, _, _, _, _⟩ (ptr K.k) rfl (by kernel_rfl) (by rfl) hh0 ?_ ?_
 ·intro w' _
  go_simp
 simp only [Act.put, setIfInBounds_toArray, set_cons_zero, set_cons_succ]
 refine tk 18 1 ⟨some 38, _, _, _, _, _⟩ (ptr K.k) rfl (by kernel_rfl) (by rfl) hh0 ?_ ?_
 ·intro w' _
  go_simp
 simp only [Act.put, setIfInBounds_toArray, set_cons_zero, set_cons_succ]
 refine tk 17 2 ⟨some 39, _, _, _, _, _⟩ (.pointer (some ⟨K.k, 14, none⟩)) rfl (by kernel_rfl) (by rfl) hh0 ?_ ?_
 ·intro w' _
  go_simp
 simp only [Act.put, setIfInBounds_toArray, set_cons_zero, set_cons_succ]
 refine tk 16 3 ⟨some 40, _, _, _, _, _⟩ (.pointer (some ⟨K.a, 0, none⟩)) rfl (by kernel_rfl) (by rfl) hh0 ?_ ?_
 ·rintro w' ⟨c0, -, -⟩
  go_simp
 simp only [Act.put, setIfInBounds_toArray, set_cons_zero, set_cons_succ]
 refine tk 15 4 ⟨some 41, _, _, _, _, _⟩ (.pointer (some ⟨K.a, 0, none⟩)) rfl (by kernel_rfl) (by rfl) hh0 ?_ ?_
 ·intro w' _
  go_simp
 simp only [Act.put, setIfInBounds_toArray, set_cons_zero, set_cons_succ]
 refine tk 14 5 ⟨some 42, _, _, _, _, _⟩ (.pointer (some ⟨K.a, 13, none⟩)) rfl (by kernel_rfl) (by rfl) hh0 ?_ ?_
 ·intro w' _
  go_simp
 simp only [Act.put, setIfInBounds_toArray, set_cons_zero, set_cons_succ]
 refine tk 13 6 ⟨some 43, _, _, _, _, _⟩ (.slice (some ⟨g, 0, none⟩) s.A.length s.A.length) rfl (by kernel_rfl) (by rfl) hh0 ?_ ?_
 ·rintro w' ⟨-, c0, -⟩
  go_simp
 simp only [Act.put, setIfInBounds_toArray, set_cons_zero, set_cons_succ]
 refine tk 12 7 ⟨some 44, _, _, _, _, _⟩ (.int .i64 (S : Int)) rfl (by kernel_rfl) (by rfl) hh0 ?_ ?_
 ·intro w' _
  go_simp
 simp only [Act.put, setIfInBounds_toArray, set_cons_zero, set_cons_succ]
 refine tk 11 8 ⟨some 45, _, _, _, _, _⟩ (ptr K.k) rfl (by kernel_rfl) (by rfl) hh0 ?_ ?_
 ·intro w' _
  go_simp
 simp only [Act.put, setIfInBounds_toArray, set_cons_zero, set_cons_succ]
 refine tk 10 9 ⟨some 46, _, _, _, _, _⟩ (ptr K.k) rfl (by kernel_rfl) (by rfl) hh0 ?_ ?_
 ·intro w' _
  go_simp
 simp only [Act.put, setIfInBounds_toArray, set_cons_zero, set_cons_succ]
 refine tk 9 10 ⟨some 47, _, _, _, _, _⟩ (ptr K.k) rfl (by kernel_rfl) (by rfl) hh0 ?_ ?_
 ·intro w' _
  go_simp
 simp only [Act.put, setIfInBounds_toArray, set_cons_zero, set_cons_succ]
 refine tk 8 11 ⟨some 48, _, _, _, _, _⟩ (.pointer (some ⟨K.k, 3, none⟩)) rfl (by kernel_rfl) (by rfl) hh0 ?_ ?_
 ·intro w' _
  go_simp
 simp only [Act.put, setIfInBounds_toArray, set_cons_zero, set_cons_succ]
 refine tk 7 12 ⟨some 49, _, _, _, _, _⟩ (.int .i64 c.wa) rfl (by kernel_rfl) (by rfl) hh0 ?_ ?_
 ·rintro w' ⟨c0, -, -⟩
  go_simp
 simp only [Act.put, setIfInBounds_toArray, set_cons_zero, set_cons_succ]
 refine tk 6 13 ⟨some 50, _, _, _, _, _⟩ (.int .i64 ((S : Int) * c.wa)) rfl (by kernel_rfl) (by rfl) hh0 ?_ ?_
 ·intro w' _
  go_simp
 simp only [Act.put, setIfInBounds_toArray, set_cons_zero, set_cons_succ]
 refine tk 5 14 ⟨some 51, _, _, _, _, _⟩ (.int .i64 (W : Int)) rfl (by kernel_rfl) (by rfl) hh0 ?_ ?_
 ·intro w' _
  go_simp
 simp only [Act.put, setIfInBounds_toArray, set_cons_zero, set_cons_succ]
 refine tk 4 15 ⟨some 52, _, _, _, _, _⟩ (.int .i64 (i : Int)) rfl (by kernel_rfl) (by rfl) hh0 ?_ ?_
 ·intro w' _
  go_simp
 simp only [Act.put, setIfInBounds_toArray, set_cons_zero, set_cons_succ]
 refine tk 3 16 ⟨some 53, _, _, _, _, _⟩ (.pointer (some ⟨g, i * 11, none⟩)) rfl (by kernel_rfl) (by rfl) hh0 ?_ ?_
 ·intro w' _
  go_simp
 simp only [Act.put, setIfInBounds_toArray, set_cons_zero, set_cons_succ]
 refine wpAnyH_take (fuel := 2) (i := 17) (oi := ⟨some 54, _, _, _, _, _⟩) (v := .agg (Ar.ycells ⟨xs, xl, xd, xk⟩)) rfl (by kernel_rfl) (by kernel_rfl) (by kernel_rfl) (fun _ _ _ h => h) (yieldsIf_load_mid (by rfl) 69 (.tmp 53) rfl g (i * 11) rfl (Ar.yc ⟨xs, xl, xd, xk⟩) _ (fun w hS => hS.2.2) Tryz.underlying69 rfl (by kernel_rfl)) hh0 ?_
 simp only [Act.put, setIfInBounds_toArray, set_cons_zero, set_cons_succ]
 refine rd 1 18 ⟨some 10, _, _, _, _, _⟩ rfl (by kernel_rfl) (fun P hP => ?_)
 go_simp
 have H1a := Lib.hid (H1.out.add (.cells #[.int .i64 0, .int .i64 0, .int .i64 0, .int .i64 0, .int .i64 0, .int .i64 0, .int .i64 0, .int .i64 0, .int .i64 0, .int .i64 0, .bool false] 69))
 show P _ _
 refine hP.out _ _ (⟨H1a.out.kc, (HGa.out _ (b_alloc _ _)).1, (HGa.out _ (b_alloc _ _)).2⟩) (fun hh1 => ?_)
 clear hP P hh0
 try simp only [Act.put, setIfInBounds_toArray, set_cons_zero, set_cons_succ]
 refine rd 0 19 ⟨none, _, _, _, _, _⟩ rfl (by kernel_rfl) (fun P hP => ?_)
 rw [if_pos (by rfl)]
 refine wp_store_row 69 (.tmp 10) (.tmp 54) rfl (w1.heap.size) (Ar.ycells ⟨xs, xl, xd, xk⟩) rfl rfl 69 (#[.int .i64 0, .int .i64 0, .int .i64 0, .int .i64 0, .int .i64 0, .int .i64 0, .int .i64 0, .int .i64 0, .int .i64 0, .int .i64 0, .bool false]) (H1a.out.box mz0) (by kernel_rfl) rfl (by kernel_rfl) ?_
 have H1as := Lib.hid (H1a.out.setRow (cs' := Ar.ycells ⟨xs, xl, xd, xk⟩))
 refine hP.out _ _ (⟨H1as.out.kc, (HGa.out _ (b_setRow (b_alloc _ _) (Nat.le_refl _) _)).1, (HGa.out _ (b_setRow (b_alloc _ _) (Nat.le_refl _) _)).2⟩) (fun hh2 => ?_)
 clear hP P hh1
 simp only [Act.put]
 refine wpAnyH_done (by kernel_rfl) ?_ _
 refine NoPanic.normal ?_
 clear hh2
 have H2 := H1as
 clear H1a HG HGa
 generalize World.setRow (World.alloc w1 _) _ _ = w2 at *
 generalize w1.heap.size = mw at *
 have e1 := HE1.out
 have hx2 := H2.out.cells mz0
 obtain ⟨fp, fc, hf⟩ := H2.out.bcell
 have HF : Hid (∀ o, w2.drew.cell? ⟨K.b, o, none⟩ = (#[.int .i64 c.wb, .slice fp s.B.length fc] : Array Value)[o]?) := Lib.hid fun o => hf o
 go_upto_region 12 with fail
 refine wp_region_noPanic ?_
 refine wp_region_held_drew (S := (fun w' : World => (∀ o, w'.cell? ⟨K.k, o, none⟩ = (kcells c core K)[o]?) ∧ (∀ o, w'.cell? ⟨mw, o, none⟩ = (Ar.ycells ⟨xs, xl, xd, xk⟩)[o]?) ∧ (∀ o, w'.cell? ⟨K.b, o, none⟩ = (#[.int .i64 c.wb, .slice fp s.B.length fc] : Array Value)[o]?))) (by kernel_rfl) ⟨H2.out.kc, H2.out.cells mz0, (by first | exact hf | exact HF.out)⟩ (fun hh0 => ?_)
 replace H2 := Lib.hid H2.out.drew
 generalize World.drew w2 = w2 at *
 refine tk 23 0 ⟨some 74, _, _, _, _, _⟩ (ptr K.k) rfl (by kernel_rfl) (by rfl) hh0 ?_ ?_
 ·intro w' _
  go_simp
 simp only [Act.put, setIfInBounds_toArray, set_cons_zero, set_cons_succ]
 refine tk 22 1 ⟨some 75, _, _, _, _, _⟩ (ptr K.k) rfl (by kernel_rfl) (by rfl) hh0 ?_ ?_
 ·intro w' _
  go_simp
 simp only [Act.put, setIfInBounds_toArray, set_cons_zero, set_cons_succ]
 refine tk 21 2 ⟨some 76, _, _, _, _, _⟩ (.pointer (some ⟨K.k, 16, none⟩)) rfl (by kernel_rfl) (by rfl) hh0 ?_ ?_
 ·intro w' _
  go_simp
 simp only [Act.put, setIfInBounds_toArray, set_cons_zero, set_cons_succ]
 refine tk 20 3 ⟨some 77, _, _, _, _, _⟩ (.pointer (some ⟨K.b, 0, none⟩)) rfl (by kernel_rfl) (by rfl) hh0 ?_ ?_
 ·rintro w' ⟨c0, -, -⟩
  go_simp
 simp only [Act.put, setIfInBounds_toArray, set_cons_zero, set_cons_succ]
 refine tk 19 4 ⟨some 78, _, _, _, _, _⟩ (.pointer (some ⟨K.b, 0, none⟩)) rfl (by kernel_rfl) (by rfl) hh0 ?_ ?_
 ·intro w' _
  go_simp
 simp only [Act.put, setIfInBounds_toArray, set_cons_zero, set_cons_succ]
 refine tk 18 5 ⟨some 79, _, _, _, _, _⟩ (.pointer (some ⟨K.b, 1, none⟩)) rfl (by kernel_rfl) (by rfl) hh0 ?_ ?_
 ·intro w' _
  go_simp
 simp only [Act.put, setIfInBounds_toArray, set_cons_zero, set_cons_succ]
 refine tk 17 6 ⟨some 80, _, _, _, _, _⟩ (.slice fp s.B.length fc) rfl (by kernel_rfl) (by rfl) hh0 ?_ ?_
 ·rintro w' ⟨-, -, c0⟩
  go_simp
 simp only [Act.put, setIfInBounds_toArray, set_cons_zero, set_cons_succ]
 refine tk 16 7 ⟨some 81, _, _, _, _, _⟩ (.int .i64 (s.B.length : Int)) rfl (by kernel_rfl) (by rfl) hh0 ?_ ?_
 ·intro w' _
  go_simp
 simp only [Act.put, setIfInBounds_toArray, set_cons_zero, set_cons_succ]
 refine tk 15 8 ⟨some 82, _, _, _, _, _⟩ (ptr K.k) rfl (by kernel_rfl) (by rfl) hh0 ?_ ?_
 ·intro w' _
  go_simp
 simp only [Act.put, setIfInBounds_toArray, set_cons_zero, set_cons_succ]
 refine tk 14 9 ⟨some 83, _, _, _, _, _⟩ (ptr K.k) rfl (by kernel_rfl) (by rfl) hh0 ?_ ?_
 ·intro w' _
  go_simp
 simp only [Act.put, setIfInBounds_toArray, set_cons_zero, set_cons_succ]
 refine tk 13 10 ⟨some 84, _, _, _, _, _⟩ (ptr K.k) rfl (by kernel_rfl) (by rfl) hh0 ?_ ?_
 ·intro w' _
  go_simp
 simp only [Act.put, setIfInBounds_toArray, set_cons_zero, set_cons_succ]
 refine tk 12 11 ⟨some 85, _, _, _, _, _⟩ (.pointer (some ⟨K.k, 9, none⟩)) rfl (by kernel_rfl) (by rfl) hh0 ?_ ?_
 ·intro w' _
  go_simp
 simp only [Act.put, setIfInBounds_toArray, set_cons_zero, set_cons_succ]
 refine tk 11 12 ⟨some 86, _, _, _, _, _⟩ (.int .i64 c.wb) rfl (by kernel_rfl) (by rfl) hh0 ?_ ?_
 ·rintro w' ⟨c0, -, -⟩
  go_simp
 simp only [Act.put, setIfInBounds_toArray, set_cons_zero, set_cons_succ]
 refine tk 10 13 ⟨some 87, _, _, _, _, _⟩ (.bool false) rfl (by kernel_rfl) (by rfl) hh0 ?_ ?_
 ·intro w' _
  go_simp
 simp only [Act.put, setIfInBounds_toArray, set_cons_zero, set_cons_succ]
 refine tk 9 14 ⟨some 88, _, _, _, _, _⟩ (.bool false) rfl (by kernel_rfl) (by rfl) hh0 ?_ ?_
 ·intro w' _
  go_simp
 simp only [Act.put, setIfInBounds_toArray, set_cons_zero, set_cons_succ]
 refine tk 8 15 ⟨some 89, _, _, _, _, _⟩ (ptr K.k) rfl (by kernel_rfl) (by rfl) hh0 ?_ ?_
 ·intro w' _
  go_simp
 simp only [Act.put, setIfInBounds_toArray, set_cons_zero, set_cons_succ]
 refine tk 7 16 ⟨some 90, _, _, _, _, _⟩ (ptr K.k) rfl (by kernel_rfl) (by rfl) hh0 ?_ ?_
 ·intro w' _
  go_simp
 simp only [Act.put, setIfInBounds_toArray, set_cons_zero, set_cons_succ]
 refine tk 6 17 ⟨some 91, _, _, _, _, _⟩ (.pointer (some ⟨K.k, 16, none⟩)) rfl (by kernel_rfl) (by rfl) hh0 ?_ ?_
 ·intro w' _
  go_simp
 simp only [Act.put, setIfInBounds_toArray, set_cons_zero, set_cons_succ]
 refine tk 5 18 ⟨some 92, _, _, _, _, _⟩ (.pointer (some ⟨K.b, 0, none⟩)) rfl (by kernel_rfl) (by rfl) hh0 ?_ ?_
 ·rintro w' ⟨c0, -, -⟩
  go_simp
 simp only [Act.put, setIfInBounds_toArray, set_cons_zero, set_cons_succ]
 refine tk 4 19 ⟨some 93, _, _, _, _, _⟩ (.pointer (some ⟨mw, 1, none⟩)) rfl (by kernel_rfl) (by rfl) hh0 ?_ ?_
 ·intro w' _
  go_simp
 simp only [Act.put, setIfInBounds_toArray, set_cons_zero, set_cons_succ]
 refine tk 3 20 ⟨some 94, _, _, _, _, _⟩ (.int .i64 xl) rfl (by kernel_rfl) (by rfl) hh0 ?_ ?_
 ·rintro w' ⟨-, c0, -⟩
  go_simp
 simp only [Act.put, setIfInBounds_toArray, set_cons_zero, set_cons_succ]
 refine rd 2 21 ⟨some 95, _, _, _, _, _⟩ rfl (by kernel_rfl) (fun P hP => ?_)
 go_simp
 refine (H2.out.dplace xl).mono ?_
 rintro e w3 ⟨rfl, rfl⟩
 rw [HP.out]
 show P _ _
 refine hP.out _ _ (⟨H2.out.kc, H2.out.cells mz0, (by first | exact hf | exact HF.out)⟩) (fun hh1 => ?_)
 clear hP P hh0
 try simp only [Act.put, setIfInBounds_toArray, set_cons_zero, set_cons_succ]
 refine tk 1 22 ⟨some 96, _, _, _, _, _⟩ (.bool false) rfl (by kernel_rfl) (by rfl) hh1 ?_ ?_
 ·intro w' _
  go_simp
 simp only [Act.put, setIfInBounds_toArray, set_cons_zero, set_cons_succ]
 refine tk 0 23 ⟨some 97, _, _, _, _, _⟩ (.bool false) rfl (by kernel_rfl) (by rfl) hh1 ?_ ?_
 ·intro w' _
  go_simp
 simp only [Act.put, setIfInBounds_toArray, set_cons_zero, set_cons_succ]
 refine wpAnyH_done (by kernel_rfl) ?_ _
 refine NoPanic.normal ?_
 clear hh1
 clear hx2 hf HF
 have hx2 := H2.out.cells mz0
 go_upto_region 14 with fail
 refine wp_region_noPanic ?_
 refine wp_region_held_drew (S := (fun w' : World => (∀ o, w'.cell? ⟨K.k, o, none⟩ = (kcells c core K)[o]?) ∧ (∀ o, w'.cell? ⟨mw, o, none⟩ = (Ar.ycells ⟨xs, xl, xd, xk⟩)[o]?))) (by kernel_rfl) ⟨H2.out.kc, H2.out.cells mz0⟩ (fun hh0 => ?_)
 replace H2 := Lib.hid H2.out.drew
 generalize World.drew w2 = w2 at *
 refine tk 8 0 ⟨some 99, _, _, _, _, _⟩ (ptr K.k) rfl (by kernel_rfl) (by rfl) hh0 ?_ ?_
 ·intro w' _
  go_simp
 simp only [Act.put, setIfInBounds_toArray, set_cons_zero, set_cons_succ]
 refine tk 7 1 ⟨some 100, _, _, _, _, _⟩ (ptr K.k) rfl (by kernel_rfl) (by rfl) hh0 ?_ ?_
 ·intro w' _
  go_simp
 simp only [Act.put, setIfInBounds_toArray, set_cons_zero, set_cons_succ]
 refine tk 6 2 ⟨some 101, _, _, _, _, _⟩ (.pointer (some ⟨K.k, 16, none⟩)) rfl (by kernel_rfl) (by rfl) hh0 ?_ ?_
 ·intro w' _
  go_simp
 simp only [Act.put, setIfInBounds_toArray, set_cons_zero, set_cons_succ]
 refine tk 5 3 ⟨some 102, _, _, _, _, _⟩ (.pointer (some ⟨K.b, 0, none⟩)) rfl (by kernel_rfl) (by rfl) hh0 ?_ ?_
 ·rintro w' ⟨c0, -⟩
  go_simp
 simp only [Act.put, setIfInBounds_toArray, set_cons_zero, set_cons_succ]
 refine tk 4 4 ⟨some 103, _, _, _, _, _⟩ (.pointer (some ⟨mw, 1, none⟩)) rfl (by kernel_rfl) (by rfl) hh0 ?_ ?_
 ·intro w' _
  go_simp
 simp only [Act.put, setIfInBounds_toArray, set_cons_zero, set_cons_succ]
 refine tk 3 5 ⟨some 104, _, _, _, _, _⟩ (.int .i64 xl) rfl (by kernel_rfl) (by rfl) hh0 ?_ ?_
 ·rintro w' ⟨-, c0⟩
  go_simp
 simp only [Act.put, setIfInBounds_toArray, set_cons_zero, set_cons_succ]
 refine tk 2 6 ⟨some 105, _, _, _, _, _⟩ (.pointer (some ⟨mw, 2, none⟩)) rfl (by kernel_rfl) (by rfl) hh0 ?_ ?_
 ·intro w' _
  go_simp
 simp only [Act.put, setIfInBounds_toArray, set_cons_zero, set_cons_succ]
 refine tk 1 7 ⟨some 106, _, _, _, _, _⟩ (.agg (dcells xd)) rfl (by kernel_rfl) (by rfl) hh0 ?_ ?_
 ·rintro w' ⟨-, c0⟩
  go_simp
 simp only [Act.put, setIfInBounds_toArray, set_cons_zero, set_cons_succ]
 refine rd 0 8 ⟨some 107, _, _, _, _, _⟩ rfl (by kernel_rfl) (fun P hP => ?_)
 go_simp
 refine (H2.out.dput xl xd).mono ?_
 rintro e w4 ⟨⟨i4, rfl⟩, ho⟩
 have H4 := Lib.hid ho
 clear ho
 show P _ _
 refine hP.out _ _ (⟨H4.out.kc, H4.out.cells mz0⟩) (fun hh1 => ?_)
 clear hP P hh0
 try simp only [Act.put, setIfInBounds_toArray, set_cons_zero, set_cons_succ]
 refine wpAnyH_done (by kernel_rfl) ?_ _
 refine NoPanic.normal ?_
 clear hh1
 clear hx2 H2
 have hx2 := H4.out.cells mz0
 go_upto_region 15 with fail
 refine wp_region_noPanic ?_
 refine wp_region_held_drew (S := (fun w' : World => (∀ o, w'.cell? ⟨K.k, o, none⟩ = (kcells c core K)[o]?) ∧ (∀ o, w'.cell? ⟨mw, o, none⟩ = (Ar.ycells ⟨xs, xl, xd, xk⟩)[o]?))) (by kernel_rfl) ⟨H4.out.kc, H4.out.cells mz0⟩ (fun hh0 => ?_)
 replace H4 := Lib.hid H4.out.drew
 generalize World.drew w4 = w4 at *
 refine tk 7 0 ⟨some 108, _, _, _, _, _⟩ (ptr K.k) rfl (by kernel_rfl) (by rfl) hh0 ?_ ?_
 ·intro w' _
  go_simp
 simp only [Act.put, setIfInBounds_toArray, set_cons_zero, set_cons_succ]
 refine tk 6 1 ⟨some 109, _, _, _, _, _⟩ (ptr K.k) rfl (by kernel_rfl) (by rfl) hh0 ?_ ?_
 ·intro w' _
  go_simp
 simp only [Act.put, setIfInBounds_toArray, set_cons_zero, set_cons_succ]
 refine tk 5 2 ⟨some 110, _, _, _, _, _⟩ (.pointer (some ⟨K.k, 14, none⟩)) rfl (by kernel_rfl) (by rfl) hh0 ?_ ?_
 ·intro w' _
  go_simp
 simp only [Act.put, setIfInBounds_toArray, set_cons_zero, set_cons_succ]
 refine tk 4 3 ⟨some 111, _, _, _, _, _⟩ (.pointer (some ⟨K.a, 0, none⟩)) rfl (by kernel_rfl) (by rfl) hh0 ?_ ?_
 ·rintro w' ⟨c0, -⟩
  go_simp
 simp only [Act.put, setIfInBounds_toArray, set_cons_zero, set_cons_succ]
 refine tk 3 4 ⟨some 112, _, _, _, _, _⟩ (.pointer (some ⟨mw, 1, none⟩)) rfl (by kernel_rfl) (by rfl) hh0 ?_ ?_
 ·intro w' _
  go_simp
 simp only [Act.put, setIfInBounds_toArray, set_cons_zero, set_cons_succ]
 refine tk 2 5 ⟨some 113, _, _, _, _, _⟩ (.int .i64 xl) rfl (by kernel_rfl) (by rfl) hh0 ?_ ?_
 ·rintro w' ⟨-, c0⟩
  go_simp
 simp only [Act.put, setIfInBounds_toArray, set_cons_zero, set_cons_succ]
 refine tk 1 6 ⟨some 114, _, _, _, _, _⟩ (.agg (#[.int .i64 0, .int .i64 0, .int .i64 0, .int .i64 0, .int .i64 0, .int .i64 0, .int .i64 0, .int .i64 0])) rfl (by kernel_rfl) (by rfl) hh0 ?_ ?_
 ·intro w' _
  go_simp
 simp only [Act.put, setIfInBounds_toArray, set_cons_zero, set_cons_succ]
 refine rd 0 7 ⟨some 115, _, _, _, _, _⟩ rfl (by kernel_rfl) (fun P hP => ?_)
 go_simp
 refine (H4.out.dset xl 0 d0).mono ?_
 rintro e w5 ⟨⟨i5, rfl⟩, ho⟩
 have H5 := Lib.hid ho
 clear ho
 show P _ _
 refine hP.out _ _ (⟨H5.out.kc, H5.out.cells mz0⟩) (fun hh1 => ?_)
 clear hP P hh0
 try simp only [Act.put, setIfInBounds_toArray, set_cons_zero, set_cons_succ]
 refine wpAnyH_done (by kernel_rfl) ?_ _
 refine NoPanic.normal ?_
 clear hh1
 clear hx2 H4
 have hx2 := H5.out.cells mz0
 go_upto_region 16 with fail
 refine wp_region_noPanic ?_
 refine wp_region_held_drew (S := (fun w' : World => (∀ o, w'.cell? ⟨K.k, o, none⟩ = (kcells c core K)[o]?) ∧ (∀ o, w'.cell? ⟨mw, o, none⟩ = (Ar.ycells ⟨xs, xl, xd, xk⟩)[o]?))) (by kernel_rfl) ⟨H5.out.kc, H5.out.cells mz0⟩ (fun hh0 => ?_)
 replace H5 := Lib.hid H5.out.drew
 generalize World.drew w5 = w5 at *
 refine tk 19 0 ⟨some 116, _, _, _, _, _⟩ (.pointer (some ⟨mw, 1, none⟩)) rfl (by kernel_rfl) (by rfl) hh0 ?_ ?_
 ·intro w' _
  go_simp
 simp only [Act.put, setIfInBounds_toArray, set_cons_zero, set_cons_succ]
 refine tk 18 1 ⟨some 117, _, _, _, _, _⟩ (.int .i64 xl) rfl (by kernel_rfl) (by rfl) hh0 ?_ ?_
 ·rintro w' ⟨-, c0⟩
  go_simp
 simp only [Act.put, setIfInBounds_toArray, set_cons_zero, set_cons_succ]
 refine tk 17 2 ⟨some 118, _, _, _, _, _⟩ (ptr K.k) rfl (by kernel_rfl) (by rfl) hh0 ?_ ?_
 ·intro w' _
  go_simp
 simp only [Act.put, setIfInBounds_toArray, set_cons_zero, set_cons_succ]
 refine tk 16 3 ⟨some 119, _, _, _, _, _⟩ (ptr K.k) rfl (by kernel_rfl) (by rfl) hh0 ?_ ?_
 ·intro w' _
  go_simp
 simp only [Act.put, setIfInBounds_toArray, set_cons_zero, set_cons_succ]
 refine tk 15 4 ⟨some 120, _, _, _, _, _⟩ (.pointer (some ⟨K.k, 13, none⟩)) rfl (by kernel_rfl) (by rfl) hh0 ?_ ?_
 ·intro w' _
  go_simp
 simp only [Act.put, setIfInBounds_toArray, set_cons_zero, set_cons_succ]
 refine tk 14 5 ⟨some 121, _, _, _, _, _⟩ (.int .i64 core) rfl (by kernel_rfl) (by rfl) hh0 ?_ ?_
 ·rintro w' ⟨c0, -⟩
  go_simp
 simp only [Act.put, setIfInBounds_toArray, set_cons_zero, set_cons_succ]
 refine tk 13 6 ⟨some 122, _, _, _, _, _⟩ (.pointer (some ⟨mw, 1, none⟩)) rfl (by kernel_rfl) (by rfl) hh0 ?_ ?_
 ·intro w' _
  go_simp
 simp only [Act.put, setIfInBounds_toArray, set_cons_zero, set_cons_succ]
 refine tk 12 7 ⟨some 123, _, _, _, _, _⟩ (.int .i64 xl) rfl (by kernel_rfl) (by rfl) hh0 ?_ ?_
 ·rintro w' ⟨-, c0⟩
  go_simp
 simp only [Act.put, setIfInBounds_toArray, set_cons_zero, set_cons_succ]
 refine tk 11 8 ⟨some 124, _, _, _, _, _⟩ (ptr K.k) rfl (by kernel_rfl) (by rfl) hh0 ?_ ?_
 ·intro w' _
  go_simp
 simp only [Act.put, setIfInBounds_toArray, set_cons_zero, set_cons_succ]
 refine tk 10 9 ⟨some 125, _, _, _, _, _⟩ (ptr K.k) rfl (by kernel_rfl) (by rfl) hh0 ?_ ?_
 ·intro w' _
  go_simp
 simp only [Act.put, setIfInBounds_toArray, set_cons_zero, set_cons_succ]
 refine tk 9 10 ⟨some 126, _, _, _, _, _⟩ (ptr K.k) rfl (by kernel_rfl) (by rfl) hh0 ?_ ?_
 ·intro w' _
  go_simp
 simp only [Act.put, setIfInBounds_toArray, set_cons_zero, set_cons_succ]
 refine tk 8 11 ⟨some 127, _, _, _, _, _⟩ (.pointer (some ⟨K.k, 1, none⟩)) rfl (by kernel_rfl) (by rfl) hh0 ?_ ?_
 ·intro w' _
  go_simp
 simp only [Act.put, setIfInBounds_toArray, set_cons_zero, set_cons_succ]
 refine tk 7 12 ⟨some 128, _, _, _, _, _⟩ (.int .i64 c.ho) rfl (by kernel_rfl) (by rfl) hh0 ?_ ?_
 ·rintro w' ⟨c0, -⟩
  go_simp
 simp only [Act.put, setIfInBounds_toArray, set_cons_zero, set_cons_succ]
 refine tk 6 13 ⟨some 129, _, _, _, _, _⟩ (.int .i64 (xl % c.ho)) rfl (by kernel_rfl) (by rfl) hh0 ?_ ?_
 ·intro w' _
  go_simp
 simp only [Act.put, setIfInBounds_toArray, set_cons_zero, set_cons_succ]
 refine tk 5 14 ⟨some 130, _, _, _, _, _⟩ (.pointer (some ⟨mw, 2, none⟩)) rfl (by kernel_rfl) (by rfl) hh0 ?_ ?_
 ·intro w' _
  go_simp
 simp only [Act.put, setIfInBounds_toArray, set_cons_zero, set_cons_succ]
 refine tk 4 15 ⟨some 131, _, _, _, _, _⟩ (.agg (dcells xd)) rfl (by kernel_rfl) (by rfl) hh0 ?_ ?_
 ·rintro w' ⟨-, c0⟩
  go_simp
 simp only [Act.put, setIfInBounds_toArray, set_cons_zero, set_cons_succ]
 refine tk 3 16 ⟨some 132, _, _, _, _, _⟩ (.agg (#[.int .i64 3, .int .i64 xl, .int .i64 core, .int .i64 (xl % c.ho), .int .i64 0, .int .i64 0, .int .i64 0, .int .i64 xd.w0, .int .i64 xd.w1, .int .i64 xd.w2, .int .i64 xd.w3, .int .i64 xd.w4, .int .i64 xd.w5, .int .i64 xd.w6, .int .i64 xd.w7])) rfl (by kernel_rfl) (by rfl) hh0 ?_ ?_
 ·intro w' _
  go_simp
 simp only [Act.put, setIfInBounds_toArray, set_cons_zero, set_cons_succ]
 refine rd 2 17 ⟨none, _, _, _, _, _⟩ rfl (by kernel_rfl) (fun P hP => ?_)
 rw [if_pos (by rfl)]
 refine wp_store_row 38 (.tmp 6) (.tmp 132) rfl (w.heap.size) (#[.int .i64 3, .int .i64 xl, .int .i64 core, .int .i64 (xl % c.ho), .int .i64 0, .int .i64 0, .int .i64 0, .int .i64 xd.w0, .int .i64 xd.w1, .int .i64 xd.w2, .int .i64 xd.w3, .int .i64 xd.w4, .int .i64 xd.w5, .int .i64 xd.w6, .int .i64 xd.w7]) rfl rfl 38 (#[.int .i64 0, .int .i64 0, .int .i64 0, .int .i64 0, .int .i64 0, .int .i64 0, .int .i64 0, .int .i64 0, .int .i64 0, .int .i64 0, .int .i64 0, .int .i64 0, .int .i64 0, .int .i64 0, .int .i64 0]) (H5.out.box mz2) (by kernel_rfl) rfl (by kernel_rfl) ?_
 have H5s := Lib.hid (H5.out.setRow2 (cs' := #[.int .i64 3, .int .i64 xl, .int .i64 core, .int .i64 (xl % c.ho), .int .i64 0, .int .i64 0, .int .i64 0, .int .i64 xd.w0, .int .i64 xd.w1, .int .i64 xd.w2, .int .i64 xd.w3, .int .i64 xd.w4, .int .i64 xd.w5, .int .i64 xd.w6, .int .i64 xd.w7]))
 refine hP.out _ _ (⟨H5s.out.kc, H5s.out.cells mz0⟩) (fun hh1 => ?_)
 clear hP P hh0
 simp only [Act.put]
 refine tk 1 18 ⟨some 7, _, _, _, _, _⟩ (.bool true) rfl (by kernel_rfl) (by rfl) hh1 ?_ ?_
 ·intro w' _
  go_simp
 simp only [Act.put, setIfInBounds_toArray, set_cons_zero, set_cons_succ]
 refine tk 0 19 ⟨some 8, _, _, _, _, _⟩ (.int .i64 0) rfl (by kernel_rfl) (by rfl) hh1 ?_ ?_
 ·intro w' _
  go_simp
 simp only [Act.put, setIfInBounds_toArray, set_cons_zero, set_cons_succ]
 refine wpAnyH_done (by kernel_rfl) ?_ _
 refine NoPanic.normal ?_
 clear hh1
 go_wp2
 exact dev_ret (r := (⟨3, xl, core, xl % c.ho, 0, 0, 0, xd.w0, xd.w1, xd.w2, xd.w3, xd.w4, xd.w5, xd.w6, xd.w7⟩, true, 0)) rfl rfl rfl rfl (H5s.out.box mz2) H5s.out.drop.drop.drop

theorem Own.devict (h : OwnD w0 K c core n s bx w) (hi : Inv c s) (set way : Int) :
  Calls Tryz.prog 37 #[ptr K.k, .int .i64 set, .int .i64 way] w (RetT (evictP c core s set way).1 (OwnD w0 K c core n (evictP c core s set way).2 bx)) := by
 have hok := h.nums.1
 by_cases hr : 0 ≤ set ∧ set < c.se ∧ 0 ≤ way ∧ way < c.wa
 ·have hsz := hi.sA
  have hlt : set.toNat * c.wa.toNat + way.toNat < s.A.length := by
   rw [hsz.len]
   have := Nat.mul_le_mul_right c.wa.toNat (show set.toNat + 1 ≤ c.se.toNat by omega)
   rw [Nat.add_mul, Nat.one_mul] at this
   omega
  rcases hx0 : s.A[set.toNat * c.wa.toNat + way.toNat]'hlt with ⟨xs, xl, xd, xk⟩
  have hx : s.A[set.toNat * c.wa.toNat + way.toNat]? = some ⟨xs, xl, xd, xk⟩ := by rw [List.getElem?_eq_getElem hlt, hx0]
  have hat : atP c s set way = (⟨xs, xl, xd, xk⟩, true) := by
   unfold atP
   rw [if_pos hr, List.getD_eq_getElem?_getD, hx]
   rfl
  unfold evictP
  rw [hat]
  dsimp only
  by_cases e0 : xs = 0
  ·have b0 : (xs == 0) = true := by simpa using e0
   rw [if_pos (by simp [b0])]
   exact devict_inv h set way hr hx b0
  ·have b0 : (xs == 0) = false := by simpa using e0
   rw [if_neg (by simp [b0])]
   rcases xk with _ | _
   ·rw [if_neg (by simp)]
    have htk : Ar.tk ⟨xs, xl, xd, false⟩ = true := tk_st e0
    by_cases e2 : xs = 1
    ·have b2 : (xs == 1) = true := by simpa using e2
     rw [if_neg (by simp [e2]), if_pos e2]
     exact devict_shared h set way hr hx b0 rfl b2
    ·have b2 : (xs == 1) = false := by simpa using e2
     have hgl := h.nums.2.2.2.2.2.2.len
     by_cases e3 : c.wb - (s.B.length : Int) = 0
     ·rw [if_pos (by simp [e2, e3])]
      exact devict_full h set way hr hx b0 rfl b2 (by omega)
     ·rw [if_neg (by simp [e3]), if_neg e2]
      have hln := (hi.gA.ins _ _ hx htk).1
      obtain ⟨-, l0, l1⟩ := ok_of_lnOk hln
      have hf : Wb.fnd s.B xl = none := hi.bfnd (List.mem_of_getElem? hx) htk
      have hmm : msg 3 xl core (lnH c xl) 0 0 0 xd = ⟨3, xl, core, xl % c.ho, 0, 0, 0, xd.w0, xd.w1, xd.w2, xd.w3, xd.w4, xd.w5, xd.w6, xd.w7⟩ := by
       have h1 : lnOk c xl = true := hln
       simp [msg, lnH, h1]
      rw [hmm]
      exact devict_put h set way hr hx b0 rfl b2 (by omega) l0 (by rw [hf]; rfl)
   ·rw [if_pos rfl]
    exact devict_lock h set way hr hx b0 rfl
 ·have hat : (atP c s set way).2 = false := by unfold atP; rw [if_neg hr]
  unfold evictP
  rw [if_pos (by simp [hat])]
  exact devict_arg h set way hr

end Go.Proofs.YtlfhkjjjocmpbaaGreatDoor.Cc
