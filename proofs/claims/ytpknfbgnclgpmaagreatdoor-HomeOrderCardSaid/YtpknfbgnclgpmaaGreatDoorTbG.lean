/-
  Next, where something comes of the request, and where nothing does as it is the owner's.
-/
import Derived.Test.YtpknfbgnclgpmaaGreatDoorTbF
namespace Go.Proofs.YtpknfbgnclgpmaaGreatDoor.Sh
open Go Go.RowKit Go.Sort

/-- The cells of an asking that is new. -/
abbrev zqc : Array Value := #[.int .i64 0, .int .i64 0, .int .i64 0, .slice none 0 0, .bool false, .int .i64 0, .int .i64 0, .int .i64 0, .int .i64 0, .int .i64 0, .int .i64 0, .int .i64 0, .int .i64 0, .int .i64 0, .int .i64 0, .int .i64 0, .int .i64 0, .int .i64 0, .int .i64 0, .int .i64 0, .int .i64 0, .int .i64 0, .int .i64 0, .int .i64 0, .int .i64 0, .int .i64 0, .int .i64 0, .int .i64 0]
/-- Next's first four blocks, its rule's and its asking's. -/
structure Ny (w : World) (e : En) (p : Option Addr) (cap : Nat) (m : Msg) (v : W8) (rb qb : Nat) (R : Array Value) (wr : World) : Prop where
  nx : Nx w e p cap m v wr
  r : wr.heap[rb]? = some (.cells R 124 (0, 0))
  q : wr.heap[qb]? = some (.cells (qcells e p cap m v) 129 (0, 0))
theorem Ny.past {w : World} {e : En} {p : Option Addr} {cap : Nat} {m : Msg} {v : W8} {rb qb : Nat} {R : Array Value} {wr wr' : World} {B : Nat} (h : Ny w e p cap m v rb qb R wr) (h1 : w.heap.size + 4 ≤ B) (h2 : rb < B) (h3 : qb < B) (hb : Below B wr wr') : Ny w e p cap m v rb qb R wr' :=
  ⟨h.nx.past h1 hb, (hb.block _ h2).trans h.r, (hb.block _ h3).trans h.q⟩
theorem Ny.step {w : World} {e : En} {p : Option Addr} {cap : Nat} {m : Msg} {v : W8} {rb qb : Nat} {R : Array Value} {wr wr' : World} (h : Ny w e p cap m v rb qb R wr) (hb : Below wr.heap.size wr wr') : Ny w e p cap m v rb qb R wr' :=
  h.past h.nx.size (lt_of_block h.r) (lt_of_block h.q) hb
theorem Ny.made {w : World} {e : En} {p : Option Addr} {cap : Nat} {m : Msg} {v : W8} {rb : Nat} {R : Array Value} {w3 : World} (N : Nx w e p cap m v w3) (_ : w.heap.size + 4 ≤ rb) (hR : w3.heap[rb]? = some (.cells R 124 (0, 0))) (Q : Array Value) (hQ : Q = qcells e p cap m v := by rfl) :
    Ny w e p cap m v rb w3.heap.size R ((w3.alloc (.cells zqc 129)).setRow w3.heap.size Q) := by
  subst hQ
  have h1 := lt_of_block hR
  have N4 := N.step (balloc w3 (.cells zqc 129))
  refine ⟨N4.past (B := w3.heap.size) N.size (below_setRow (Below.refl _ _) (Nat.le_refl _) _), ?_, setRow_heap _ _ _ _ _ _ (heap_alloc_new w3 _)⟩
  rw [setRow_other _ _ _ _ (by omega)]
  exact ((balloc w3 _).block _ h1).trans hR

theorem eq_nil (w : World) : (binOp BinOp.eql 121 Value.nilFunc Value.nilFunc).run Tryz.prog w = .ok (.bool true) w := by kernel_rfl
theorem eq_func (K : Nat) (w : World) : (binOp BinOp.eql 121 (fv K) Value.nilFunc).run Tryz.prog w = .ok (.bool false) w := by kernel_rfl

set_option maxRecDepth 100000 in
set_option maxHeartbeats 4000000 in
/-- Nothing comes of it. -/
theorem next_none (e : En) (p : Option Addr) (cap : Nat) (m : Msg) (v : W8) (w : World) (hl : e.s.l.length ≤ 5000) (hn : NumsIn w p e.s.l) (hg : goodQ e m = true) {f0 f1 f2 F3 : Value} (hR : ruleT m.kd = #[f0, f1, f2, F3]) (ho : (#[f0, f1, f2, F3]).all (·.oneCell') = true) (hF : firstF #[f0, f1, f2, F3] e m = .nilFunc) :
    Calls Tryz.prog 23 #[ev e p cap, mv m, .agg (wcells v)] w (GaveTF w zT 7) := by
  obtain ⟨h1, h2, h3⟩ := good_all hg
  have N0 := Nx.box w e p cap m v
  have HN := Lib.hid hn
  have HR := Lib.hid hR
  have HM := Lib.hid h1
  have HK := Lib.hid h2
  have HC := Lib.hid h3
  have HF := Lib.hid hF
  have HO := Lib.hid ho
  have heq := eq_nil
  clear hn hg hR h1 h2 h3 hF ho
  go_enter Tryz.func23, Tryz.ntmps23
  go_wp2_with (first
    | (go_at_call 51; refine (ruleOf_is HR.out HK.out _).mono ?_; rintro _ w1 ⟨rfl, hb1⟩; have NA := N0.step hb1; have hrb := NA.size; clear hb1 N0)
    | ((with_reducible refine wpList_store_row (o := ⟨none, _, _, _, _, _⟩) rfl 124 (.tmp 8) (.tmp 17) rfl w1.heap.size #[f0, f1, f2, F3] ?sx ?sy 124 ?old ?sg ?si ?so ?s1 ?_); (case sx => rfl); (case sy => rfl); (case sg => exact heap_alloc_new w1 _); (case si => kernel_rfl); (case so => rfl); (case s1 => exact HO.out); have hR1 := setRow_heap _ w1.heap.size _ #[f0, f1, f2, F3] 124 (0, 0) (heap_alloc_new w1 (.cells #[.nilFunc, .nilFunc, .nilFunc, .nilFunc] 124)); have N1 := (NA.step (balloc w1 (.cells #[.nilFunc, .nilFunc, .nilFunc, .nilFunc] 124))).past (Nat.le_refl _) (below_setRow (Below.refl _ _) hrb #[f0, f1, f2, F3]); generalize World.setRow _ w1.heap.size #[f0, f1, f2, F3] = wr at *; generalize w1.heap.size = rb at *; have hcA := fun o => blk_cell N1.a o; have hcB := fun o => blk_cell N1.b o; clear NA)
    | (go_at_call 52; refine (tmay_is HM.out p cap _ hl (HN.out.step N1.below)).mono ?_; rintro _ w2 ⟨rfl, hb2⟩; have N2 := N1.step hb2; have hR2 := (hb2.block _ (lt_of_block hR1)).trans hR1; clear hcA hcB; have hcA := fun o => blk_cell N2.a o; have hcB := fun o => blk_cell N2.b o; clear hb2 N1 hR1)
    | (go_at_call 53; refine (tcore_is HC.out p cap _).mono ?_; rintro _ w3 ⟨rfl, hb3⟩; have N3 := N2.step hb3; have hR3 := (hb3.block _ (lt_of_block hR2)).trans hR2; clear hcA hcB; have hcA := fun o => blk_cell N3.a o; have hcB := fun o => blk_cell N3.b o; have hcC := fun o => blk_cell N3.c o; clear hb3 N2 hR2)
    | ((with_reducible refine wpList_store_row (o := ⟨none, _, _, _, _, _⟩) rfl 129 (.tmp 10) (.tmp 37) rfl w3.heap.size (qcells e p cap m v) ?sx ?sy 129 zqc ?sg ?si ?so ?s1 ?_); (case sx => rfl); (case sy => rfl); (case sg => exact heap_alloc_new w3 _); (case si => kernel_rfl); (case so => rfl); (case s1 => kernel_rfl); have Y4 := Ny.made N3 hrb hR3 (qcells e p cap m v); generalize World.setRow _ w3.heap.size (qcells e p cap m v) = w4 at *; generalize w3.heap.size = qb at *; clear hcA hcB hcC N3 hR3; have hcQ := fun o => blk_cell Y4.q o; have hcR := fun o => blk_cell Y4.r o; have hcA := fun o => blk_cell Y4.nx.a o)
    | ((with_reducible refine wpList_load_at (op := ⟨some 39, _, _, _, _, _⟩) rfl 129 (.tmp 10) rfl qb 0 ?sx (qcells e p cap m v) _ ?sc Tryz.underlying129 ?sd ?si ?_); (case sx => rfl); (case sc => exact range_of hcQ); (case sd => rfl); (case si => kernel_rfl))
    | (go_at_call 54; refine (first_any f0 f1 f2 F3 e p cap m v _).mono ?_; rintro _ w5 ⟨rfl, hb5⟩; rw [HF.out]; have Y5 := Y4.step hb5; clear hb5 hcQ hcR hcA Y4)
    | ((with_reducible refine wpList_store_row (o := ⟨none, _, _, _, _, _⟩) rfl 82 (.tmp 6) (.tmp 43) rfl (w.heap.size + 3) ztc ?sx ?sy 82 ztc ?sg ?si ?so ?s1 ?_); (case sx => rfl); (case sy => rfl); (case sg => exact Y5.nx.d); (case si => kernel_rfl); (case so => rfl); (case s1 => kernel_rfl)))
  exact turn_ret (t := zT) (p := none) (cap := 0) (q := none) (qc := 0) Tryz.results23 rfl rfl rfl (setRow_heap _ _ _ _ _ _ Y5.nx.d) (NumsIn.nil _ _) (MsIn.nil _ _) (below_setRow Y5.nx.below (by omega) _) (fun h => absurd rfl h) (fun _ h => by cases h)

set_option maxRecDepth 100000 in
set_option maxHeartbeats 4000000 in
/-- Something comes of it: what is sent first, and what is laid then, are called by value. -/
theorem next_way (e : En) (p : Option Addr) (cap : Nat) (m : Msg) (v : W8) (w : World) (hl : e.s.l.length ≤ 5000) (hn : NumsIn w p e.s.l) (hg : goodQ e m = true) {f0 f1 f2 F3 : Value} {K1 K2 : Nat} (hR : ruleT m.kd = #[f0, f1, f2, F3]) (ho : (#[f0, f1, f2, F3]).all (·.oneCell') = true) (h3f : F3 = fv K2) (hF : firstF #[f0, f1, f2, F3] e m = fv K1)
    (he1 : ∀ args w, (callFunc K1 args).run Tryz.prog w = .ok (.enter K1 args) w) (he2 : ∀ args w, (callFunc K2 args).run Tryz.prog w = .ok (.enter K2 args) w) (X : Msg) (f : Tn → Tn)
    (hX : ∀ w, NumsIn w p e.s.l → Calls Tryz.prog K1 #[qv e p cap m v] w (GaveX w X))
    (hT : ∀ w B b t p' cap' v', Tu w B b t p' cap' v' → B ≤ w.heap.size → t.sent.length ≤ 100 → NumsIn w p e.s.l → Calls Tryz.prog K2 #[qv e p cap m v, .pointer (some ⟨b, 0, none⟩)] w (TuGave w B b v' (f t))) :
    Calls Tryz.prog 23 #[ev e p cap, mv m, .agg (wcells v)] w (GaveTF w (f ((baseT e).send m X)) 0) := by
  obtain ⟨h1, h2, h3⟩ := good_all hg
  subst h3f
  have N0 := Nx.box w e p cap m v
  have HN := Lib.hid hn
  have HR := Lib.hid hR
  have HM := Lib.hid h1
  have HK := Lib.hid h2
  have HC := Lib.hid h3
  have HF := Lib.hid hF
  have HO := Lib.hid ho
  have HX := Lib.hid hX
  have HT := Lib.hid hT
  have heq := eq_func K1
  clear hn hg hR h1 h2 h3 hF ho hX hT
  go_enter Tryz.func23, Tryz.ntmps23
  go_wp2_with (first
    | (go_at_call 51; refine (ruleOf_is HR.out HK.out _).mono ?_; rintro _ w1 ⟨rfl, hb1⟩; have NA := N0.step hb1; have hrb := NA.size; clear hb1 N0)
    | ((with_reducible refine wpList_store_row (o := ⟨none, _, _, _, _, _⟩) rfl 124 (.tmp 8) (.tmp 17) rfl w1.heap.size #[f0, f1, f2, fv K2] ?sx ?sy 124 ?old ?sg ?si ?so ?s1 ?_); (case sx => rfl); (case sy => rfl); (case sg => exact heap_alloc_new w1 _); (case si => kernel_rfl); (case so => rfl); (case s1 => exact HO.out); have hR1 := setRow_heap _ w1.heap.size _ #[f0, f1, f2, fv K2] 124 (0, 0) (heap_alloc_new w1 (.cells #[.nilFunc, .nilFunc, .nilFunc, .nilFunc] 124)); have N1 := (NA.step (balloc w1 (.cells #[.nilFunc, .nilFunc, .nilFunc, .nilFunc] 124))).past (Nat.le_refl _) (below_setRow (Below.refl _ _) hrb #[f0, f1, f2, fv K2]); generalize World.setRow _ w1.heap.size #[f0, f1, f2, fv K2] = wr at *; generalize w1.heap.size = rb at *; have hcA := fun o => blk_cell N1.a o; have hcB := fun o => blk_cell N1.b o; clear NA)
    | (go_at_call 52; refine (tmay_is HM.out p cap _ hl (HN.out.step N1.below)).mono ?_; rintro _ w2 ⟨rfl, hb2⟩; have N2 := N1.step hb2; have hR2 := (hb2.block _ (lt_of_block hR1)).trans hR1; clear hcA hcB; have hcA := fun o => blk_cell N2.a o; have hcB := fun o => blk_cell N2.b o; clear hb2 N1 hR1)
    | (go_at_call 53; refine (tcore_is HC.out p cap _).mono ?_; rintro _ w3 ⟨rfl, hb3⟩; have N3 := N2.step hb3; have hR3 := (hb3.block _ (lt_of_block hR2)).trans hR2; clear hcA hcB; have hcA := fun o => blk_cell N3.a o; have hcB := fun o => blk_cell N3.b o; have hcC := fun o => blk_cell N3.c o; clear hb3 N2 hR2)
    | ((with_reducible refine wpList_store_row (o := ⟨none, _, _, _, _, _⟩) rfl 129 (.tmp 10) (.tmp 37) rfl w3.heap.size (qcells e p cap m v) ?sx ?sy 129 zqc ?sg ?si ?so ?s1 ?_); (case sx => rfl); (case sy => rfl); (case sg => exact heap_alloc_new w3 _); (case si => kernel_rfl); (case so => rfl); (case s1 => kernel_rfl); have Y4 := Ny.made N3 hrb hR3 (qcells e p cap m v); generalize World.setRow _ w3.heap.size (qcells e p cap m v) = w4 at *; generalize w3.heap.size = qb at *; clear hcA hcB hcC N3 hR3; have hcQ := fun o => blk_cell Y4.q o; have hcR := fun o => blk_cell Y4.r o; have hcA := fun o => blk_cell Y4.nx.a o)
    | ((with_reducible refine wpList_load_at (op := ⟨some 39, _, _, _, _, _⟩) rfl 129 (.tmp 10) rfl qb 0 ?sx (qcells e p cap m v) _ ?sc Tryz.underlying129 ?sd ?si ?_); (case sx => rfl); (case sc => exact range_of hcQ); (case sd => rfl); (case si => kernel_rfl))
    | (go_at_call 54; refine (first_any f0 f1 f2 (fv K2) e p cap m v _).mono ?_; rintro _ w5 ⟨rfl, hb5⟩; rw [HF.out]; have Y5 := Y4.step hb5; clear hb5 hcQ hcR hcA Y4; have hcA := fun o => blk_cell (Y5.step (balloc w5 (.cells ztc 82))).nx.a o)
    | (go_at_call 55; refine (copied_any e p cap _ hl (HN.out.step (bstep Y5.nx.below (balloc w5 (.cells ztc 82))))).mono ?_; rintro _ w6 ⟨qe, ce, rfl, hi6, hb6, hf6⟩; have hz6 : (w5.alloc (.cells ztc 82)).heap.size = w5.heap.size + 1 := (by simp); have hbB := (balloc w5 (.cells ztc 82)).trans (hb6.mono (by omega)); have hT6 := (hb6.block w5.heap.size (by omega)).trans (heap_alloc_new w5 (.cells ztc 82)); have Y6 := Y5.step hbB; have hB6 := hb6.size)
    | ((with_reducible refine wpList_store_blk (op := ⟨none, _, _, _, _, _⟩) rfl 65 (.tmp 46) (.tmp 45) rfl w5.heap.size 0 (ecells e qe ce) ?sx ?sy 82 ztc (tcells (baseT e) qe ce (.slice none 0 0)) ?sg ?sl ?ss ?sn ?si ?s1 ?_); (case sx => rfl); (case sy => rfl); (case sg => exact hT6); (case sl => simp); (case ss => rfl); (case sn => (intro i hi; match i, hi with | 0, _ => rfl | 1, _ => rfl | 2, _ => rfl | 3, _ => rfl | 4, _ => rfl | 5, _ => rfl | 6, _ => rfl)); (case si => kernel_rfl); (case s1 => kernel_rfl); intro w7 hst; have T7 := Tu.fresh hst hi6 (fun a ha => by have := hf6 a ha; omega); have Y7 := Y6.past (B := w5.heap.size) Y5.nx.size (lt_of_block Y5.r) (lt_of_block Y5.q) hst.below; have hB7 : w5.heap.size ≤ w7.heap.size := (by have := hst.size; omega); have hrB := lt_of_block Y5.r; have hqB := lt_of_block Y5.q; have hxB := Y5.nx.size; clear hst hT6 hi6 hf6 hb6 hz6 hbB Y6 Y5 hB6; generalize w5.heap.size = B at *))
  have Y8 := Y7.step (below_drew _)
  have T8 := T7.step (below_drew _)
  have hB8 : B ≤ w7.drew.heap.size := hB7
  refine wp_region_noPanic ?_
  refine wp_region_held_drew (S := fun w' => ∀ o, w'.cell? ⟨qb, o, none⟩ = (qcells e p cap m v)[o]?) (by kernel_rfl) (fun o => blk_cell Y8.q o) (fun hh => ?_)
  refine wpAnyH_take (fuel := 4) (i := 0) (oi := ⟨some 47, _, _, _, _, _⟩) (v := .agg (qcells e p cap m v)) rfl (by kernel_rfl) (by kernel_rfl) (by kernel_rfl) (fun _ _ _ h => h) (yields_load_at (by rfl) 129 (.tmp 10) rfl qb 0 rfl (qcells e p cap m v) _ (fun w' c0 => range_of c0) Tryz.underlying129 rfl (by kernel_rfl)) hh ?_
  simp only [Act.put, List.setIfInBounds_toArray, List.set_cons_zero, List.set_cons_succ]
  refine wpAnyH_take (fuel := 3) (i := 1) (oi := ⟨some 48, _, _, _, _, _⟩) (v := fv K1) rfl (by kernel_rfl) (by kernel_rfl) (by kernel_rfl) (fun _ _ _ h => h) (Or.inl ⟨by rfl, ?_⟩) hh ?_
  · intro w' _
    go_simp
  simp only [Act.put, List.setIfInBounds_toArray, List.set_cons_zero, List.set_cons_succ]
  refine wpAnyH_take (fuel := 2) (i := 2) (oi := ⟨some 49, _, _, _, _, _⟩) (v := .agg (qcells e p cap m v)) rfl (by kernel_rfl) (by kernel_rfl) (by kernel_rfl) (fun _ _ _ h => h) (yields_load_at (by rfl) 129 (.tmp 10) rfl qb 0 rfl (qcells e p cap m v) _ (fun w' c0 => range_of c0) Tryz.underlying129 rfl (by kernel_rfl)) hh ?_
  simp only [Act.put, List.setIfInBounds_toArray, List.set_cons_zero, List.set_cons_succ]
  refine wpAnyH_ready (fuel := 1) (rs := [3]) (by kernel_rfl) (by simp) ?_
  refine AllReadyH.cons (o := ⟨some 50, _, _, _, _, _⟩) rfl (fun K hK => ?_) AllReadyH.nil
  go_simp
  refine (HX.out _ (HN.out.step Y8.nx.below)).mono ?_
  rintro _ w9 ⟨rfl, hb9⟩
  have Y9 := Y8.step hb9
  have T9 := T8.step hb9
  have hB9 := Nat.le_trans hB8 hb9.size
  clear T8
  show K _ _
  refine hK.out _ _ (fun o => blk_cell Y9.q o) (fun hh2 => ?_)
  clear hK K hh
  try simp only [Act.put, List.setIfInBounds_toArray, List.set_cons_zero, List.set_cons_succ]
  refine wpAnyH_ready (fuel := 0) (rs := [4]) (by kernel_rfl) (by simp) ?_
  refine AllReadyH.cons (o := ⟨some 51, _, _, _, _, _⟩) rfl (fun K hK => ?_) AllReadyH.nil
  go_simp
  refine (send_any T9 e p cap m v X hB9 (by simp [baseT])).mono ?_
  rintro _ w10 hg10
  obtain ⟨⟨u10, rfl⟩, p10, c10, v10, T10, C10, -⟩ := hg10
  have hb10 := C10.below T9 hB9
  have Y10 := Y9.past hxB hrB hqB hb10
  have hB10 := Nat.le_trans hB9 C10.size
  clear T9 C10 hb10
  show K _ _
  refine hK.out _ _ (fun o => blk_cell Y10.q o) (fun hh3 => ?_)
  clear hK K hh2
  try simp only [Act.put, List.setIfInBounds_toArray, List.set_cons_zero, List.set_cons_succ]
  refine wpAnyH_done (by kernel_rfl) ?_ _
  refine NoPanic.normal ?_
  clear hh3
  have hs10 : ((baseT e).send m X).sent.length ≤ 100 := by simp [baseT, Tn.send]
  generalize (baseT e).send m X = t10 at *
  have hcQ := fun o => blk_cell Y10.q o
  have hcR := fun o => blk_cell Y10.r o
  clear Y7 Y8 Y9 T7 hB7 hB8 hB9 hcA
  go_wp2_with ((with_reducible refine wpList_load_at (op := ⟨some 54, _, _, _, _, _⟩) rfl 129 (.tmp 10) rfl qb 0 ?sx (qcells e p cap m v) _ ?sc Tryz.underlying129 ?sd ?si ?_); (case sx => rfl); (case sc => exact range_of hcQ); (case sd => rfl); (case si => kernel_rfl))
  refine (HT.out _ B B t10 p10 c10 v10 T10 hB10 hs10 (HN.out.step Y10.nx.below)).mono ?_
  rintro _ w11 hg11
  obtain ⟨⟨u11, rfl⟩, p11, c11, v11, T11, C11, -⟩ := hg11
  have hb11 := C11.below T10 hB10
  have Y11 := Y10.past hxB hrB hqB hb11
  generalize f t10 = t11 at *
  obtain ⟨q, qc, rfl, -⟩ := own_msgs T11.row
  have hc11 := fun o => blk_cell T11.blk o
  have T12 := T11.past (g := w.heap.size + 3) (by omega) (tcells t11 p11 c11 (.slice q t11.sent.length qc))
  obtain ⟨_, _, e12, hm12⟩ := own_msgs T12.row
  simp only [Value.slice.injEq, true_and] at e12
  obtain ⟨rfl, rfl⟩ := e12
  have HM12 := Lib.hid hm12
  have HN12 := Lib.hid T12.nums
  have HS12 := Lib.hid T12.sep
  have HQ12 : Hid (∀ a, q = some a → w.heap.size ≤ a.block) := Lib.hid (fun a ha => by have := (T12.row.lt a.block (by rw [ha]; rfl)).1; omega)
  have HB11 := Lib.hid Y11.nx.below
  clear hb11 C11 T10 Y10 hcQ hcR T12 hm12
  go_wp2_with ((with_reducible refine wpList_store_row (o := ⟨none, _, _, _, _, _⟩) rfl 82 (.tmp 6) (.tmp 56) rfl (w.heap.size + 3) (tcells t11 p11 c11 (.slice q t11.sent.length qc)) ?sx ?sy 82 ztc ?sg ?si ?so ?s1 ?_); (case sx => rfl); (case sy => rfl); (case sg => exact Y11.nx.d); (case si => kernel_rfl); (case so => rfl); (case s1 => kernel_rfl))
  exact turn_ret Tryz.results23 rfl rfl rfl (setRow_heap _ _ _ _ _ _ Y11.nx.d) HN12.out HM12.out (below_setRow HB11.out (by omega) _) (fun h a ha => by have := (HS12.out h a ha).2.2; omega) HQ12.out

end Go.Proofs.YtpknfbgnclgpmaaGreatDoor.Sh
