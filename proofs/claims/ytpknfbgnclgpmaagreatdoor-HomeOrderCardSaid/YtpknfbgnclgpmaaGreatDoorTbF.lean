/-
  What comes of a request: copied, Next.
-/
import Derived.Test.YtpknfbgnclgpmaaGreatDoorLayTb
namespace Go.Proofs.YtpknfbgnclgpmaaGreatDoor.Sh
open Go Go.RowKit Go.Sort

abbrev zec : Array Value := #[.int .i64 0, .int .i64 0, .int .i64 0, .slice none 0 0, .bool false]
abbrev ztc : Array Value := #[.int .i64 0, .int .i64 0, .int .i64 0, .slice none 0 0, .bool false, .slice none 0 0, .bool false]
/-- What a call gives that tells an entry whose pointers are new. -/
def GaveE (w : World) (e : En) (r : Ending) (w' : World) : Prop := ∃ q c, r = .returned (ev e q c) ∧ NumsIn w' q e.s.l ∧ Below w.heap.size w w' ∧ ∀ a, q = some a → w.heap.size ≤ a.block

set_option maxRecDepth 100000 in
set_option maxHeartbeats 1000000 in
theorem copied_any (e : En) (p : Option Addr) (cap : Nat) (w : World) (hl : e.s.l.length ≤ 5000) (h : NumsIn w p e.s.l) :
    Calls Tryz.prog 55 #[ev e p cap] w (GaveE w e) := by
  have K := H2.box w (ecells e p cap) zec 65 65
  have H := Lib.hid h
  clear h
  have hz0 : ((w.alloc (.cells (ecells e p cap) 65)).alloc (.cells zec 65)).heap.size = w.heap.size + 2 := by simp
  have HZ := Lib.hid hz0
  clear hz0
  go_enter Tryz.func55, Tryz.ntmps55
  go_wp2_with (fail)
  refine (clone_any p cap e.s.l _ (by omega) (H.out.step K.below)).mono ?_
  rintro _ w1 ⟨q, c', rfl, hown, hb1⟩
  rw [HZ.out] at hown
  obtain ⟨_, _, e1, hin⟩ := own_in hown
  cases e1
  have hfr : ∀ a, q = some a → w.heap.size + 2 ≤ a.block := fun a ha => (hown.lt a.block (by rw [ha]; rfl)).1
  have K2 := K.step hb1
  have hc2 := K2.cellsA
  have hf2 := blk_free K2.a 3
  have K3 : H2 w (ecells e q c') zec 65 65 (w1.setCell ⟨w.heap.size, 3, none⟩ (.slice q e.s.l.length c')) := K2.setA 3 _
  have HN := Lib.hid (hin.one w.heap.size 3 (fun a ha => by have := hfr a ha; omega) (.slice q e.s.l.length c'))
  have HF := Lib.hid hfr
  have hc3 := K3.cellsA
  clear K hb1 hown hin hfr
  go_wp2_with ((with_reducible refine wpList_store_row (o := ⟨none, _, _, _, _, _⟩) rfl 65 (.tmp 2) (.tmp 9) rfl (w.heap.size + 1) (ecells e q c') ?sx ?sy 65 zec ?sg ?si ?so ?s1 ?_); (case sx => rfl); (case sy => rfl); (case sg => exact K3.b); (case si => kernel_rfl); (case so => rfl); (case s1 => kernel_rfl))
  exact bodyPost_ret (v := .agg (ecells e q c')) (results_cell_row Tryz.results55 _ _ (w.heap.size + 1) 65 _ (0, 0) _ rfl (setRow_heap _ _ _ _ _ _ K3.b) Tryz.underlying65 rfl (by kernel_rfl)) rfl
    ⟨q, c', rfl, HN.out.row _ (fun a ha => by have := HF.out a ha; omega) _, below_setRow K3.below (by omega) _, fun a ha => by have := HF.out a ha; omega⟩

/-- A turn that is new: the entry is laid, nothing is sent yet. -/
theorem Tu.fresh {w w' : World} {B : Nat} {e : En} {p : Option Addr} {cap : Nat} (h : Stb B (tcells (baseT e) p cap (.slice none 0 0)) 82 w w') (hn : NumsIn w p e.s.l) (hf : ∀ a, p = some a → B < a.block) : Tu w' B B (baseT e) p cap (.slice none 0 0) :=
  ⟨h.blk, hn.keep (by rw [h.size]; exact Nat.le_refl _) fun _ a ha _ => h.other _ (by have := hf a ha; omega), World.ownsRow_nil _ _ _ _, by simp [Value.ownBlock], Nat.le_refl _, fun _ a ha => ⟨by have := hf a ha; omega, by simp [Value.ownBlock], by have := hf a ha; omega⟩⟩
/-- Where a slice's messages lie. -/
def MsIn (w : World) (p : Option Addr) (l : List Msg) : Prop := ∀ i x, l[i]? = some x → ∃ k, p = some ⟨k, 0, none⟩ ∧ k < w.heap.size ∧ w.rangeAt k (i * 15) (mcells x).toList
theorem MsIn.step {w w' : World} {p : Option Addr} {l : List Msg} (h : MsIn w p l) (hb : Below w.heap.size w w') : MsIn w' p l := fun i x hx => by
  obtain ⟨k, e, hk, hr⟩ := h i x hx
  exact ⟨k, e, Nat.lt_of_lt_of_le hk hb.size, fun j v hv => (hb.cell (p := ⟨k, i * 15 + j, none⟩) hk).trans (hr j v hv)⟩
theorem MsIn.nil (w : World) (p : Option Addr) : MsIn w p [] := fun i x hx => by simp at hx
theorem own_msgs {w : World} {base : Nat} {u : Value} {l : List Msg} (h : w.ownsRow base 38 15 u l.length (tcs l)) : ∃ p cap, u = .slice p l.length cap ∧ MsIn w p l := by
  rcases h.2 with ⟨rfl, h0⟩ | ⟨k, cap, cur, rfl, _, hk, _⟩
  · refine ⟨none, 0, by rw [h0], fun i x hx => ?_⟩
    have := (List.getElem?_eq_some_iff.1 hx).1
    omega
  · refine ⟨_, cap, rfl, fun i x hx => ⟨k, rfl, lt_of_block hk, fun j v hv => ?_⟩⟩
    obtain ⟨hi, rfl⟩ := List.getElem?_eq_some_iff.1 hx
    have hj : j < 15 := by
      have := (List.getElem?_eq_some_iff.1 hv).1
      simpa using this
    rw [h.cellAt (i * 15 + j) (by omega), tcs_at l i j hi hj]
    simpa using hv

/-- What Next gives. -/
def GaveT (w : World) (t : Tn) (err : Int) (r : Ending) (w' : World) : Prop :=
  ∃ p cap q qc, r = .returned (.tuple #[.agg (tcells t p cap (.slice q t.sent.length qc)), .int .i64 err]) ∧ NumsIn w' p t.e.s.l ∧ MsIn w' q t.sent ∧ Below w.heap.size w w'
/-- The same, and that the entry's pointers are new. -/
def GaveTF (w : World) (t : Tn) (err : Int) (r : Ending) (w' : World) : Prop :=
  ∃ p cap q qc, r = .returned (.tuple #[.agg (tcells t p cap (.slice q t.sent.length qc)), .int .i64 err]) ∧ NumsIn w' p t.e.s.l ∧ MsIn w' q t.sent ∧ Below w.heap.size w w' ∧ (t.e.s.l ≠ [] → ∀ a, p = some a → w.heap.size ≤ a.block) ∧ ∀ a, q = some a → w.heap.size ≤ a.block
theorem GaveTF.plain {w w' : World} {t : Tn} {err : Int} {r : Ending} (h : GaveTF w t err r w') : GaveT w t err r w' := by
  obtain ⟨p, cap, q, qc, h1, h2, h3, h4, -⟩ := h
  exact ⟨p, cap, q, qc, h1, h2, h3, h4⟩
theorem turn_ret {w wr : World} {t : Tn} {err : Int} {a : Act} {fn : Func} {g : Nat} {p q : Option Addr} {cap qc : Nat} {t1 t2 : Tmp} (hres : fn.results = #[.cell t1 82, .tmp t2]) (hp : a.tmps.getD t1 undef = .pointer (some ⟨g, 0, none⟩)) (hq : a.tmps.getD t2 undef = .int .i64 err) (hd : a.defers = [])
    (hg : wr.heap[g]? = some (.cells (tcells t p cap (.slice q t.sent.length qc)) 82 (0, 0))) (hn : NumsIn wr p t.e.s.l) (hm : MsIn wr q t.sent) (hb : Below w.heap.size w wr) (hf : t.e.s.l ≠ [] → ∀ a, p = some a → w.heap.size ≤ a.block) (hfq : ∀ a, q = some a → w.heap.size ≤ a.block) : bodyPost Tryz.prog fn (GaveTF w t err) Exit.ret a wr :=
  bodyPost_ret (v := .tuple #[.agg (tcells t p cap (.slice q t.sent.length qc)), a.tmps.getD t2 undef]) (results_cell_two hres _ _ g 82 _ (0, 0) _ hp hg Tryz.underlying82 rfl (by kernel_rfl)) hd ⟨p, cap, q, qc, by rw [hq], hn, hm, hb, hf, hfq⟩

/-- Next's first four blocks: an entry, a request, words, and the turn that it tells. -/
structure Nx (w : World) (e : En) (p : Option Addr) (cap : Nat) (m : Msg) (v : W8) (wr : World) : Prop where
  a : wr.heap[w.heap.size]? = some (.cells (ecells e p cap) 65 (0, 0))
  b : wr.heap[w.heap.size + 1]? = some (.cells (mcells m) 38 (0, 0))
  c : wr.heap[w.heap.size + 2]? = some (.cells (wcells v) 36 (0, 0))
  d : wr.heap[w.heap.size + 3]? = some (.cells ztc 82 (0, 0))
  size : w.heap.size + 4 ≤ wr.heap.size
  below : Below w.heap.size w wr
theorem Nx.past {w : World} {e : En} {p : Option Addr} {cap : Nat} {m : Msg} {v : W8} {wr wr' : World} {B : Nat} (h : Nx w e p cap m v wr) (hB : w.heap.size + 4 ≤ B) (hb : Below B wr wr') : Nx w e p cap m v wr' :=
  ⟨(hb.block _ (by omega)).trans h.a, (hb.block _ (by omega)).trans h.b, (hb.block _ (by omega)).trans h.c, (hb.block _ (by omega)).trans h.d, Nat.le_trans h.size hb.size, h.below.trans (hb.mono (by omega))⟩
theorem Nx.step {w : World} {e : En} {p : Option Addr} {cap : Nat} {m : Msg} {v : W8} {wr wr' : World} (h : Nx w e p cap m v wr) (hb : Below wr.heap.size wr wr') : Nx w e p cap m v wr' := h.past h.size hb
theorem Nx.box (w : World) (e : En) (p : Option Addr) (cap : Nat) (m : Msg) (v : W8) : Nx w e p cap m v ((((w.alloc (.cells (ecells e p cap) 65)).alloc (.cells (mcells m) 38)).alloc (.cells (wcells v) 36)).alloc (.cells ztc 82)) := by
  have h0 := heap_alloc_new w (.cells (ecells e p cap) 65)
  have b0 := balloc w (.cells (ecells e p cap) 65)
  have z0 : (w.alloc (.cells (ecells e p cap) 65)).heap.size = w.heap.size + 1 := by simp
  generalize w.alloc (.cells (ecells e p cap) 65) = w1 at *
  have h1 := heap_alloc_new w1 (.cells (mcells m) 38)
  have b1 := balloc w1 (.cells (mcells m) 38)
  have z1 : (w1.alloc (.cells (mcells m) 38)).heap.size = w1.heap.size + 1 := by simp
  generalize w1.alloc (.cells (mcells m) 38) = w2 at *
  have h2 := heap_alloc_new w2 (.cells (wcells v) 36)
  have b2 := balloc w2 (.cells (wcells v) 36)
  have z2 : (w2.alloc (.cells (wcells v) 36)).heap.size = w2.heap.size + 1 := by simp
  generalize w2.alloc (.cells (wcells v) 36) = w3 at *
  have h3 := heap_alloc_new w3 (.cells ztc 82)
  have b3 := balloc w3 (.cells ztc 82)
  have z3 : (w3.alloc (.cells ztc 82)).heap.size = w3.heap.size + 1 := by simp
  generalize w3.alloc (.cells ztc 82) = w4 at *
  rw [z0] at h1
  rw [z1, z0] at h2
  rw [z2, z1, z0] at h3
  exact ⟨(b3.block _ (by omega)).trans ((b2.block _ (by omega)).trans ((b1.block _ (by omega)).trans h0)), (b3.block _ (by omega)).trans ((b2.block _ (by omega)).trans h1), (b3.block _ (by omega)).trans h2, h3, by omega, bstep (bstep (bstep b0 b1) b2) b3⟩
theorem tmay_is {e : En} {b : Bool} (h : e.may = b) (p : Option Addr) (cap : Nat) (w : World) (hl : e.s.l.length ≤ 5000) (hn : NumsIn w p e.s.l) :
    Calls Tryz.prog 52 #[ev e p cap] w fun r w' => r = .returned (.bool b) ∧ Below w.heap.size w w' := by
  subst h
  exact tmay_any e p cap w hl hn
theorem tcore_is {e : En} {x : Int} {b : Bool} (h : hasB e.s.c x = b) (p : Option Addr) (cap : Nat) (w : World) :
    Calls Tryz.prog 53 #[ev e p cap, .int .i64 x] w fun r w' => r = .returned (.bool b) ∧ Below w.heap.size w w' := by
  subst h
  exact tcore_any e p cap x w
theorem ruleOf_is {k : Int} {f0 f1 f2 f3 : Value} {b : Bool} (h : ruleT k = #[f0, f1, f2, f3]) (hb : isReq k = b) (w : World) :
    Calls Tryz.prog 51 #[.int .i64 k] w fun r w' => r = .returned (.tuple #[.agg #[f0, f1, f2, f3], .bool b]) ∧ Below w.heap.size w w' := by
  subst hb
  rw [← h]
  exact ruleOf_any k w
theorem rule_form (k : Int) : ∃ f0 f1 f2 f3, ruleT k = #[f0, f1, f2, f3] ∧ (#[f0, f1, f2, f3]).all (·.oneCell') = true := by
  unfold ruleT
  split
  · exact ⟨_, _, _, _, rfl, by kernel_rfl⟩
  split
  · exact ⟨_, _, _, _, rfl, by kernel_rfl⟩
  split
  · exact ⟨_, _, _, _, rfl, by kernel_rfl⟩
  · exact ⟨_, _, _, _, rfl, by kernel_rfl⟩


set_option maxRecDepth 100000 in
set_option maxHeartbeats 4000000 in
/-- Next refuses. -/
theorem next_bad (e : En) (p : Option Addr) (cap : Nat) (m : Msg) (v : W8) (w : World) (hl : e.s.l.length ≤ 5000) (hn : NumsIn w p e.s.l) (hg : goodQ e m = false) :
    Calls Tryz.prog 23 #[ev e p cap, mv m, .agg (wcells v)] w (GaveTF w zT 1) := by
  obtain ⟨f0, f1, f2, f3, hR, ho⟩ := rule_form m.kd
  have HO := Lib.hid ho
  have N0 := Nx.box w e p cap m v
  have HN := Lib.hid hn
  have hd : (e.may = false) ∨ (e.may = true ∧ isReq m.kd = false) ∨ (e.may = true ∧ isReq m.kd = true ∧ hasB e.s.c m.fr = false) := by
    unfold goodQ at hg
    rcases Bool.eq_false_or_eq_true e.may with h1 | h1
    · right
      rcases Bool.eq_false_or_eq_true (isReq m.kd) with h2 | h2
      · right
        exact ⟨h1, h2, by rw [h1, h2] at hg; simpa using hg⟩
      · left; exact ⟨h1, h2⟩
    · left; exact h1
  have HR := Lib.hid hR
  clear hn hg hR ho
  rcases hd with h1 | ⟨h1, h2⟩ | ⟨h1, h2, h3⟩
  · rcases Bool.eq_false_or_eq_true (isReq m.kd) with hk | hk
    all_goals
      have HM := Lib.hid h1
      have HK := Lib.hid hk
      clear h1 hk
      go_enter Tryz.func23, Tryz.ntmps23
      go_wp2_with (first
        | (go_at_call 51; refine (ruleOf_is HR.out HK.out _).mono ?_; rintro _ w1 ⟨rfl, hb1⟩; have NA := N0.step hb1; have hrb := NA.size; clear hb1 N0)
        | ((with_reducible refine wpList_store_row (o := ⟨none, _, _, _, _, _⟩) rfl 124 (.tmp 8) (.tmp 17) rfl w1.heap.size #[f0, f1, f2, f3] ?sx ?sy 124 ?old ?sg ?si ?so ?s1 ?_); (case sx => rfl); (case sy => rfl); (case sg => exact heap_alloc_new w1 _); (case si => kernel_rfl); (case so => rfl); (case s1 => exact HO.out); have hR1 := setRow_heap _ w1.heap.size _ #[f0, f1, f2, f3] 124 (0, 0) (heap_alloc_new w1 (.cells #[.nilFunc, .nilFunc, .nilFunc, .nilFunc] 124)); have N1 := (NA.step (balloc w1 (.cells #[.nilFunc, .nilFunc, .nilFunc, .nilFunc] 124))).past (Nat.le_refl _) (below_setRow (Below.refl _ _) hrb #[f0, f1, f2, f3]); generalize World.setRow _ w1.heap.size #[f0, f1, f2, f3] = wr at *; generalize w1.heap.size = rb at *; have hcA := fun o => blk_cell N1.a o; have hcB := fun o => blk_cell N1.b o; clear NA)
        | (go_at_call 52; refine (tmay_is HM.out p cap _ hl (HN.out.step N1.below)).mono ?_; rintro _ w2 ⟨rfl, hb2⟩; have N2 := N1.step hb2; have hR2 := (hb2.block _ (lt_of_block hR1)).trans hR1; clear hcA hcB; have hcA := fun o => blk_cell N2.a o; have hcB := fun o => blk_cell N2.b o; clear hb2 N1 hR1)
        | ((with_reducible refine wpList_store_row (o := ⟨none, _, _, _, _, _⟩) rfl 82 (.tmp 6) (.tmp 33) rfl (w.heap.size + 3) ztc ?sx ?sy 82 ztc ?sg ?si ?so ?s1 ?_); (case sx => rfl); (case sy => rfl); (case sg => exact N2.d); (case si => kernel_rfl); (case so => rfl); (case s1 => kernel_rfl)))
      exact turn_ret (t := zT) (p := none) (cap := 0) (q := none) (qc := 0) Tryz.results23 rfl rfl rfl (setRow_heap _ _ _ _ _ _ N2.d) (NumsIn.nil _ _) (MsIn.nil _ _) (below_setRow N2.below (by omega) _) (fun h => absurd rfl h) (fun _ h => by cases h)
  · have HM := Lib.hid h1
    have HK := Lib.hid h2
    clear h1 h2
    go_enter Tryz.func23, Tryz.ntmps23
    go_wp2_with (first
      | (go_at_call 51; refine (ruleOf_is HR.out HK.out _).mono ?_; rintro _ w1 ⟨rfl, hb1⟩; have NA := N0.step hb1; have hrb := NA.size; clear hb1 N0)
      | ((with_reducible refine wpList_store_row (o := ⟨none, _, _, _, _, _⟩) rfl 124 (.tmp 8) (.tmp 17) rfl w1.heap.size #[f0, f1, f2, f3] ?sx ?sy 124 ?old ?sg ?si ?so ?s1 ?_); (case sx => rfl); (case sy => rfl); (case sg => exact heap_alloc_new w1 _); (case si => kernel_rfl); (case so => rfl); (case s1 => exact HO.out); have hR1 := setRow_heap _ w1.heap.size _ #[f0, f1, f2, f3] 124 (0, 0) (heap_alloc_new w1 (.cells #[.nilFunc, .nilFunc, .nilFunc, .nilFunc] 124)); have N1 := (NA.step (balloc w1 (.cells #[.nilFunc, .nilFunc, .nilFunc, .nilFunc] 124))).past (Nat.le_refl _) (below_setRow (Below.refl _ _) hrb #[f0, f1, f2, f3]); generalize World.setRow _ w1.heap.size #[f0, f1, f2, f3] = wr at *; generalize w1.heap.size = rb at *; have hcA := fun o => blk_cell N1.a o; have hcB := fun o => blk_cell N1.b o; clear NA)
      | (go_at_call 52; refine (tmay_is HM.out p cap _ hl (HN.out.step N1.below)).mono ?_; rintro _ w2 ⟨rfl, hb2⟩; have N2 := N1.step hb2; have hR2 := (hb2.block _ (lt_of_block hR1)).trans hR1; clear hcA hcB; have hcA := fun o => blk_cell N2.a o; have hcB := fun o => blk_cell N2.b o; clear hb2 N1 hR1)
      | ((with_reducible refine wpList_store_row (o := ⟨none, _, _, _, _, _⟩) rfl 82 (.tmp 6) (.tmp 33) rfl (w.heap.size + 3) ztc ?sx ?sy 82 ztc ?sg ?si ?so ?s1 ?_); (case sx => rfl); (case sy => rfl); (case sg => exact N2.d); (case si => kernel_rfl); (case so => rfl); (case s1 => kernel_rfl)))
    exact turn_ret (t := zT) (p := none) (cap := 0) (q := none) (qc := 0) Tryz.results23 rfl rfl rfl (setRow_heap _ _ _ _ _ _ N2.d) (NumsIn.nil _ _) (MsIn.nil _ _) (below_setRow N2.below (by omega) _) (fun h => absurd rfl h) (fun _ h => by cases h)
  · have HM := Lib.hid h1
    have HK := Lib.hid h2
    have HC := Lib.hid h3
    clear h1 h2 h3
    go_enter Tryz.func23, Tryz.ntmps23
    go_wp2_with (first
      | (go_at_call 51; refine (ruleOf_is HR.out HK.out _).mono ?_; rintro _ w1 ⟨rfl, hb1⟩; have NA := N0.step hb1; have hrb := NA.size; clear hb1 N0)
      | ((with_reducible refine wpList_store_row (o := ⟨none, _, _, _, _, _⟩) rfl 124 (.tmp 8) (.tmp 17) rfl w1.heap.size #[f0, f1, f2, f3] ?sx ?sy 124 ?old ?sg ?si ?so ?s1 ?_); (case sx => rfl); (case sy => rfl); (case sg => exact heap_alloc_new w1 _); (case si => kernel_rfl); (case so => rfl); (case s1 => exact HO.out); have hR1 := setRow_heap _ w1.heap.size _ #[f0, f1, f2, f3] 124 (0, 0) (heap_alloc_new w1 (.cells #[.nilFunc, .nilFunc, .nilFunc, .nilFunc] 124)); have N1 := (NA.step (balloc w1 (.cells #[.nilFunc, .nilFunc, .nilFunc, .nilFunc] 124))).past (Nat.le_refl _) (below_setRow (Below.refl _ _) hrb #[f0, f1, f2, f3]); generalize World.setRow _ w1.heap.size #[f0, f1, f2, f3] = wr at *; generalize w1.heap.size = rb at *; have hcA := fun o => blk_cell N1.a o; have hcB := fun o => blk_cell N1.b o; clear NA)
      | (go_at_call 52; refine (tmay_is HM.out p cap _ hl (HN.out.step N1.below)).mono ?_; rintro _ w2 ⟨rfl, hb2⟩; have N2 := N1.step hb2; have hR2 := (hb2.block _ (lt_of_block hR1)).trans hR1; clear hcA hcB; have hcA := fun o => blk_cell N2.a o; have hcB := fun o => blk_cell N2.b o; clear hb2 N1 hR1)
      | (go_at_call 53; refine (tcore_is HC.out p cap _).mono ?_; rintro _ w3 ⟨rfl, hb3⟩; have N3 := N2.step hb3; have hR3 := (hb3.block _ (lt_of_block hR2)).trans hR2; clear hcA hcB; have hcA := fun o => blk_cell N3.a o; have hcB := fun o => blk_cell N3.b o; clear hb3 N2 hR2)
      | ((with_reducible refine wpList_store_row (o := ⟨none, _, _, _, _, _⟩) rfl 82 (.tmp 6) (.tmp 33) rfl (w.heap.size + 3) ztc ?sx ?sy 82 ztc ?sg ?si ?so ?s1 ?_); (case sx => rfl); (case sy => rfl); (case sg => exact N3.d); (case si => kernel_rfl); (case so => rfl); (case s1 => kernel_rfl)))
    exact turn_ret (t := zT) (p := none) (cap := 0) (q := none) (qc := 0) Tryz.results23 rfl rfl rfl (setRow_heap _ _ _ _ _ _ N3.d) (NumsIn.nil _ _) (MsIn.nil _ _) (below_setRow N3.below (by omega) _) (fun h => absurd rfl h) (fun _ h => by cases h)

end Go.Proofs.YtpknfbgnclgpmaaGreatDoor.Sh
