/-
  What Evict does.
-/
import Derived.Test.YtlfhkjjjocmpbaaGreatDoorCcF
namespace Go.Proofs.YtlfhkjjjocmpbaaGreatDoor.Cc
open Go Go.RowKit

variable {w0 w w' : World} {bx : Bx} {K : Kb} {c : Cfg} {core n : Int} {s : St}
theorem ev_ret {wr : World} {r : Rp} {P : World → Prop} {a : Act} {g : Nat} (hp : a.tmps.getD 6 undef = .pointer (some ⟨g, 0, none⟩)) (hq : a.tmps.getD 7 undef = .bool r.2.1) (hn : a.tmps.getD 8 undef = .int .i64 r.2.2) (hd : a.defers = []) (hg : wr.heap[g]? = some (.cells (mcells r.1) 38 (0, 0))) (hb : P wr) :
    bodyPost Tryz.prog Tryz.f22 (RetT r P) Exit.ret a wr :=
  bodyPost_ret (v := .tuple #[mv r.1, a.tmps.getD 7 undef, a.tmps.getD 8 undef]) (Ar.results_cell_three Tryz.results22 _ _ g 38 _ (0, 0) _ hp hg Tryz.underlying38 rfl (by kernel_rfl)) hd ⟨by rw [hq, hn], hb⟩

theorem ev_none (h : OwnP w0 K c core n s bx w) (set way : Int) {x : Ar.Wy} (hx : atP c s set way = (x, false)) :
    Calls Tryz.prog 22 #[ptr K.k, .int .i64 set, .int .i64 way] w (RetT (m0, false, 5) (OwnP w0 K c core n s bx)) := by
  have H0 := Lib.hid (h.add (.cells #[.int .i64 0, .int .i64 0, .int .i64 0, .int .i64 0, .int .i64 0, .int .i64 0, .int .i64 0, .int .i64 0, .int .i64 0, .int .i64 0, .int .i64 0, .int .i64 0, .int .i64 0, .int .i64 0, .int .i64 0] 38))
  have HF := Lib.hid (H0.out.way set way)
  rw [hx] at HF
  clear h hx
  go_enter Tryz.func22, Tryz.ntmps22
  go_wp2_with fail
  refine HF.out.mono ?_
  rintro e w1 ⟨rfl, hb1⟩
  have H1 := Lib.hid ((H0.out.step hb1).add (.cells (Ar.ycells x) 66)).swap
  have h6 := H1.out.box (List.mem_cons_self ..)
  clear hb1
  go_wp2_with ((with_reducible refine wpList_store_row (o := ⟨none, _, _, _, _, _⟩) rfl 38 (.tmp 6) (.tmp 31) rfl (w.heap.size) (mcells m0) ?sx ?sy 38 ?old ?sg ?si ?so ?s1 ?_); (case sx => rfl); (case sy => rfl); (case old => exact #[.int .i64 0, .int .i64 0, .int .i64 0, .int .i64 0, .int .i64 0, .int .i64 0, .int .i64 0, .int .i64 0, .int .i64 0, .int .i64 0, .int .i64 0, .int .i64 0, .int .i64 0, .int .i64 0, .int .i64 0]); (case sg => exact h6); (case si => kernel_rfl); (case so => rfl); (case s1 => kernel_rfl))
  exact ev_ret rfl rfl rfl rfl (setRow_heap _ _ _ _ _ _ h6) H1.out.setRow.drop.drop
theorem ev_inv (h : OwnP w0 K c core n s bx w) (set way : Int) {x : Ar.Wy} (hx : atP c s set way = (x, true)) (e0 : (x.st == 0) = true) :
    Calls Tryz.prog 22 #[ptr K.k, .int .i64 set, .int .i64 way] w (RetT (m0, false, 5) (OwnP w0 K c core n s bx)) := by
  have H0 := Lib.hid (h.add (.cells #[.int .i64 0, .int .i64 0, .int .i64 0, .int .i64 0, .int .i64 0, .int .i64 0, .int .i64 0, .int .i64 0, .int .i64 0, .int .i64 0, .int .i64 0, .int .i64 0, .int .i64 0, .int .i64 0, .int .i64 0] 38))
  have HF := Lib.hid (H0.out.way set way)
  rw [hx] at HF
  clear h hx
  go_enter Tryz.func22, Tryz.ntmps22
  go_wp2_with fail
  refine HF.out.mono ?_
  rintro e w1 ⟨rfl, hb1⟩
  have H1 := Lib.hid ((H0.out.step hb1).add (.cells (Ar.ycells x) 66)).swap
  have h6 := H1.out.box (List.mem_cons_self ..)
  clear hb1
  go_wp2_with ((with_reducible refine wpList_store_row (o := ⟨none, _, _, _, _, _⟩) rfl 38 (.tmp 6) (.tmp 31) rfl (w.heap.size) (mcells m0) ?sx ?sy 38 ?old ?sg ?si ?so ?s1 ?_); (case sx => rfl); (case sy => rfl); (case old => exact #[.int .i64 0, .int .i64 0, .int .i64 0, .int .i64 0, .int .i64 0, .int .i64 0, .int .i64 0, .int .i64 0, .int .i64 0, .int .i64 0, .int .i64 0, .int .i64 0, .int .i64 0, .int .i64 0, .int .i64 0]); (case sg => exact h6); (case si => kernel_rfl); (case so => rfl); (case s1 => kernel_rfl))
  exact ev_ret rfl rfl rfl rfl (setRow_heap _ _ _ _ _ _ h6) H1.out.setRow.drop.drop
theorem ev_lock (h : OwnP w0 K c core n s bx w) (set way : Int) {st ln : Int} {wd : Wd} (hx : atP c s set way = (⟨st, ln, wd, true⟩, true)) (e0 : (st == 0) = false) :
    Calls Tryz.prog 22 #[ptr K.k, .int .i64 set, .int .i64 way] w (RetT (m0, false, 6) (OwnP w0 K c core n s bx)) := by
  have H0 := Lib.hid (h.add (.cells #[.int .i64 0, .int .i64 0, .int .i64 0, .int .i64 0, .int .i64 0, .int .i64 0, .int .i64 0, .int .i64 0, .int .i64 0, .int .i64 0, .int .i64 0, .int .i64 0, .int .i64 0, .int .i64 0, .int .i64 0] 38))
  have HF := Lib.hid (H0.out.way set way)
  rw [hx] at HF
  clear h hx
  go_enter Tryz.func22, Tryz.ntmps22
  go_wp2_with fail
  refine HF.out.mono ?_
  rintro e w1 ⟨rfl, hb1⟩
  have H1 := Lib.hid ((H0.out.step hb1).add (.cells (Ar.ycells ⟨st, ln, wd, true⟩) 66)).swap
  have h6 := H1.out.box (List.mem_cons_self ..)
  clear hb1
  go_wp2_with ((with_reducible refine wpList_store_row (o := ⟨none, _, _, _, _, _⟩) rfl 38 (.tmp 6) (.tmp 35) rfl (w.heap.size) (mcells m0) ?sx ?sy 38 ?old ?sg ?si ?so ?s1 ?_); (case sx => rfl); (case sy => rfl); (case old => exact #[.int .i64 0, .int .i64 0, .int .i64 0, .int .i64 0, .int .i64 0, .int .i64 0, .int .i64 0, .int .i64 0, .int .i64 0, .int .i64 0, .int .i64 0, .int .i64 0, .int .i64 0, .int .i64 0, .int .i64 0]); (case sg => exact h6); (case si => kernel_rfl); (case so => rfl); (case s1 => kernel_rfl))
  exact ev_ret rfl rfl rfl rfl (setRow_heap _ _ _ _ _ _ h6) H1.out.setRow.drop.drop
set_option maxHeartbeats 1000000 in
theorem ev_full (h : OwnP w0 K c core n s bx w) (set way : Int) {st ln : Int} {wd : Wd} (hx : atP c s set way = (⟨st, ln, wd, false⟩, true)) (e0 : (st == 0) = false) (e1 : (st != 1) = true) (ef : (c.wb - s.B.length == 0) = true) :
    Calls Tryz.prog 22 #[ptr K.k, .int .i64 set, .int .i64 way] w (RetT (m0, false, 4) (OwnP w0 K c core n s bx)) := by
  have H0 := Lib.hid (h.add (.cells #[.int .i64 0, .int .i64 0, .int .i64 0, .int .i64 0, .int .i64 0, .int .i64 0, .int .i64 0, .int .i64 0, .int .i64 0, .int .i64 0, .int .i64 0, .int .i64 0, .int .i64 0, .int .i64 0, .int .i64 0] 38))
  have HF := Lib.hid (H0.out.way set way)
  rw [hx] at HF
  have HL := Lib.hid (fun w1 bx (h : OwnP w0 K c core n s bx w1) => h.left)
  clear h hx
  generalize c.wb - (s.B.length : Int) = lf at *
  go_enter Tryz.func22, Tryz.ntmps22
  go_wp2_with fail
  refine HF.out.mono ?_
  rintro e w1 ⟨rfl, hb1⟩
  have H1 := Lib.hid ((H0.out.step hb1).add (.cells (Ar.ycells ⟨st, ln, wd, false⟩) 66)).swap
  have hk1 := H1.out.kc
  clear hb1
  go_wp2_with fail
  refine (HL.out _ _ H1.out).mono ?_
  rintro e w2 ⟨rfl, hb2⟩
  have H2 := Lib.hid (H1.out.step hb2)
  have h6 := H2.out.box (List.mem_cons_self ..)
  clear hb2 hk1
  go_wp2_with ((with_reducible refine wpList_store_row (o := ⟨none, _, _, _, _, _⟩) rfl 38 (.tmp 6) (.tmp 46) rfl (w.heap.size) (mcells m0) ?sx ?sy 38 ?old ?sg ?si ?so ?s1 ?_); (case sx => rfl); (case sy => rfl); (case old => exact #[.int .i64 0, .int .i64 0, .int .i64 0, .int .i64 0, .int .i64 0, .int .i64 0, .int .i64 0, .int .i64 0, .int .i64 0, .int .i64 0, .int .i64 0, .int .i64 0, .int .i64 0, .int .i64 0, .int .i64 0]); (case sg => exact h6); (case si => kernel_rfl); (case so => rfl); (case s1 => kernel_rfl))
  exact ev_ret rfl rfl rfl rfl (setRow_heap _ _ _ _ _ _ h6) H2.out.setRow.drop.drop
set_option maxHeartbeats 1000000 in
theorem ev_shared (h : OwnP w0 K c core n s bx w) (set way : Int) {ln : Int} {wd : Wd} (hx : atP c s set way = (⟨1, ln, wd, false⟩, true)) :
    Calls Tryz.prog 22 #[ptr K.k, .int .i64 set, .int .i64 way] w (RetT (m0, false, 0) (OwnP w0 K c core n (setA c s ln 0 d0) bx)) := by
  have H0 := Lib.hid (h.add (.cells #[.int .i64 0, .int .i64 0, .int .i64 0, .int .i64 0, .int .i64 0, .int .i64 0, .int .i64 0, .int .i64 0, .int .i64 0, .int .i64 0, .int .i64 0, .int .i64 0, .int .i64 0, .int .i64 0, .int .i64 0] 38))
  have HF := Lib.hid (H0.out.way set way)
  rw [hx] at HF
  clear h hx
  go_enter Tryz.func22, Tryz.ntmps22
  go_wp2_with fail
  refine HF.out.mono ?_
  rintro e w1 ⟨rfl, hb1⟩
  have H1 := Lib.hid ((H0.out.step hb1).add (.cells (Ar.ycells ⟨1, ln, wd, false⟩) 66))
  have hk1 := H1.out.kc
  have hy1 := H1.out.cells (List.mem_cons_self ..)
  clear hb1
  go_wp2_with fail
  go_region_held3 (fun w' => (∀ o, w'.cell? ⟨K.k, o, none⟩ = (kcells c core K)[o]?) ∧ (∀ o, w'.cell? ⟨w1.heap.size, o, none⟩ = (Ar.ycells ⟨1, ln, wd, false⟩)[o]?))
    (first | exact ⟨H2.out.kc, H2.out.cells (List.mem_cons_self ..)⟩ | exact ⟨hk1, hy1⟩ | go_keep)
    (first
      | (go_at_call 50; refine ((by first | exact H1.out | exact H1.out.drew : OwnP w0 K c core n s _ _).set ln 0 d0).mono ?_; rintro e w2 ⟨⟨i2, rfl⟩, ho⟩; have H2 := Lib.hid ho; clear ho))
  have H3 := Lib.hid H2.out.swap
  have h6 := H3.out.box (List.mem_cons_self ..)
  go_wp2_with ((with_reducible refine wpList_store_row (o := ⟨none, _, _, _, _, _⟩) rfl 38 (.tmp 6) (.tmp 57) rfl (w.heap.size) (mcells m0) ?sx ?sy 38 ?old ?sg ?si ?so ?s1 ?_); (case sx => rfl); (case sy => rfl); (case old => exact #[.int .i64 0, .int .i64 0, .int .i64 0, .int .i64 0, .int .i64 0, .int .i64 0, .int .i64 0, .int .i64 0, .int .i64 0, .int .i64 0, .int .i64 0, .int .i64 0, .int .i64 0, .int .i64 0, .int .i64 0]); (case sg => exact h6); (case si => kernel_rfl); (case so => rfl); (case s1 => kernel_rfl))
  exact ev_ret rfl rfl rfl rfl (setRow_heap _ _ _ _ _ _ h6) H3.out.setRow.drop.drop

end Go.Proofs.YtlfhkjjjocmpbaaGreatDoor.Cc
