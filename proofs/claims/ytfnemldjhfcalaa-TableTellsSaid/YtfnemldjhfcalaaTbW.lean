/-
  awake of layer 13 is true.
-/
import Derived.Test.YtfnemldjhfcalaaTbS
namespace Go.Proofs.Ytfnemldjhfcalaa
open Go Go.RowKit Go.Sort

/-- Boxes that stand. -/
structure Bx (w : World) (G : List (Nat × Array Value × TypeId)) (wr : World) : Prop where
  box : ∀ p ∈ G, wr.heap[p.1]? = some (.cells p.2.1 p.2.2 (0, 0))
  below : Below w.heap.size w wr
theorem Bx.step {w wr wr' : World} {G : List (Nat × Array Value × TypeId)} (h : Bx w G wr) (hb : Below wr.heap.size wr wr') : Bx w G wr' :=
  ⟨fun p hp => (hb.block _ (lt_of_block (h.box p hp))).trans (h.box p hp), bstep h.below hb⟩
theorem Bx.add {w wr : World} {G : List (Nat × Array Value × TypeId)} (h : Bx w G wr) (A : Array Value) (t : TypeId) : Bx w ((wr.heap.size, A, t) :: G) (wr.alloc (.cells A t)) := by
  have hb := balloc wr (.cells A t)
  refine ⟨fun p hp => ?_, bstep h.below hb⟩
  rcases List.mem_cons.1 hp with rfl | hp
  · exact heap_alloc_new wr _
  · exact (hb.block _ (lt_of_block (h.box p hp))).trans (h.box p hp)
theorem Bx.addAt {w wr : World} {G : List (Nat × Array Value × TypeId)} (h : Bx w G wr) (A : Array Value) (t : TypeId) (g : Nat) (hg : g = wr.heap.size) : Bx w ((g, A, t) :: G) (wr.alloc (.cells A t)) := by
  subst hg
  exact h.add A t
theorem NumsIn.litAt (w : World) (x y : Int) (g : Nat) (hg : g = w.heap.size) : NumsIn (w.alloc (.cells #[.int .i64 x, .int .i64 y] 3)) (some ⟨g, 0, none⟩) [x, y] := by
  subst hg
  exact NumsIn.lit
theorem Bx.cells {w wr : World} {G : List (Nat × Array Value × TypeId)} (h : Bx w G wr) {g : Nat} {A : Array Value} {t : TypeId} (hg : (g, A, t) ∈ G) : ∀ o, wr.cell? ⟨g, o, none⟩ = A[o]? := fun o => blk_cell (h.box _ hg) o
theorem Bx.start (w : World) : Bx w [] w := ⟨fun _ h => (by cases h), Below.refl _ _⟩

theorem next_is {e : En} {m : Msg} {v : W8} {t : Tn} {err : Int} (h : nextT e m v = (t, err)) (p : Option Addr) (cap : Nat) (w : World) (hn : NumsIn w p e.s.l) (hl : e.s.l.length ≤ 5000) :
    Calls Try.prog 9 #[ev e p cap, mv m, .agg (wcells v)] w (GaveT w t err) := by
  have := next_any e p cap m v w hl hn
  rw [h] at this
  exact this
theorem tnew_is {c m : Int} {e : En} {err : Int} (h : newE c m = (e, err)) (w : World) : Calls Try.prog 7 #[.int .i64 c, .int .i64 m] w (GaveN w e err) := by
  have := tnew_any c m w
  rw [h] at this
  exact this
theorem MsIn.lit {w : World} {L : List Msg} {A : Array Value} (t : TypeId) (h : A.toList = tcs L) : MsIn (w.alloc (.cells A t)) (some ⟨w.heap.size, 0, none⟩) L := fun i x hx => by
  refine ⟨w.heap.size, rfl, by simp, fun j v hv => ?_⟩
  obtain ⟨hi, rfl⟩ := List.getElem?_eq_some_iff.1 hx
  have hj : j < 15 := by
    have := (List.getElem?_eq_some_iff.1 hv).1
    simpa using this
  have h1 := tcs_at L i j hi hj
  rw [← h] at h1
  refine (World.cell?_alloc_mark w A t (0, 0) (i * 15 + j)).trans ?_
  simp at h1 hv
  rw [h1]
  exact hv

abbrev eE : En := ⟨-1, ⟨4, 2, [], false⟩⟩
abbrev eX : En := ⟨2, ⟨4, 2, [0, 1], false⟩⟩
abbrev w0 : W8 := ⟨0, 0, 0, 0, 0, 0, 0, 0⟩
abbrev w5 : W8 := ⟨5, 0, 0, 0, 0, 0, 0, 0⟩
abbrev rq (k l f : Int) : Msg := ⟨k, l, f, 0, 0, 0, 0, 0, 0, 0, 0, 0, 0, 0, 0⟩
abbrev lT : List Msg := [⟨5, 6, 0, 2, 1, 1, 0, 0, 0, 0, 0, 0, 0, 0, 0⟩, ⟨6, 6, 0, 0, 1, 0, 0, 0, 0, 0, 0, 0, 0, 0, 0⟩]
abbrev tT : Tn := ⟨⟨1, ⟨4, 2, [], false⟩⟩, lT, false⟩
abbrev lU : List Msg := [⟨7, 0, 0, 3, 0, 0, 2, 5, 0, 0, 0, 0, 0, 0, 0⟩]
abbrev tU : Tn := ⟨⟨3, ⟨4, 2, [], false⟩⟩, lU, false⟩
abbrev lV : List Msg := [⟨10, 0, 0, 2, 0, 0, 0, 0, 0, 0, 0, 0, 0, 0, 0⟩]
abbrev tV : Tn := ⟨⟨-1, ⟨4, 2, [0, 1], false⟩⟩, lV, true⟩
abbrev tZ : Tn := ⟨⟨0, ⟨0, 0, [], false⟩⟩, [], false⟩
theorem aw1 : newE 4 2 = (eE, 0) := by rfl
theorem aw2 : newE 0 0 = (⟨0, ⟨0, 0, [], false⟩⟩, 1) := by rfl
theorem aw3 : nextT eX (rq 2 6 1) w0 = (tT, 0) := by rfl
theorem aw4 : nextT eE (rq 1 0 3) w5 = (tU, 0) := by rfl
theorem aw5 : nextT eX (rq 3 0 2) w0 = (tV, 0) := by rfl
theorem aw6 : nextT eX (rq 1 0 2) w0 = (tZ, 7) := by rfl
theorem aw7 : nextT eX (rq 6 0 2) w0 = (tZ, 1) := by rfl

set_option maxRecDepth 100000 in
set_option maxHeartbeats 8000000 in
theorem tawake_any (w : World) : Calls Try.prog 6 #[] w fun e w' => e = .returned (.bool true) ∧ Below w.heap.size w w' := by
  go_enter Try.func6, Try.ntmps6
  go_wp2_with fail
  refine (tnew_is aw1 _).mono ?_
  rintro _ w1 ⟨p1, c1, rfl, hi1, hb1⟩
  have BX_1 := Lib.hid ((Bx.start w).step hb1)
  have n1_1 := Lib.hid hi1
  clear hb1
  clear hi1
  have hal := balloc w1 (.cells (#[.int .i64 (-1), .int .i64 4, .int .i64 2, .slice p1 0 c1, .bool false]) 26)
  have BX_2 := Lib.hid (BX_1.out.addAt (#[.int .i64 (-1), .int .i64 4, .int .i64 2, .slice p1 0 c1, .bool false]) 26 (w1.heap.size) rfl)
  have n1_2 := Lib.hid (n1_1.out.step hal)
  clear n1_1 BX_1
  clear hal
  go_wp2_with fail
  refine (tnew_is aw2 _).mono ?_
  rintro _ w2 ⟨p2, c2, rfl, -, hb2⟩
  have BX_3 := Lib.hid (BX_2.out.step hb2)
  have n1_3 := Lib.hid (n1_2.out.step hb2)
  clear n1_2 BX_2
  clear hb2
  have hal := balloc w2 (.cells (#[.int .i64 0, .int .i64 0, .int .i64 0, .slice p2 0 c2, .bool false]) 26)
  have BX_4 := Lib.hid (BX_3.out.addAt (#[.int .i64 0, .int .i64 0, .int .i64 0, .slice p2 0 c2, .bool false]) 26 (w2.heap.size) rfl)
  have n1_4 := Lib.hid (n1_3.out.step hal)
  clear n1_3 BX_3
  clear hal
  have hx := NumsIn.litAt (w2.alloc (.cells (#[.int .i64 0, .int .i64 0, .int .i64 0, .slice p2 0 c2, .bool false]) 26)) 0 1 (w2.heap.size + 1) (by simp)
  have hal := balloc (w2.alloc (.cells (#[.int .i64 0, .int .i64 0, .int .i64 0, .slice p2 0 c2, .bool false]) 26)) (.cells (#[.int .i64 0, .int .i64 1]) 3)
  have BX_5 := Lib.hid (BX_4.out.addAt (#[.int .i64 0, .int .i64 1]) 3 (w2.heap.size + 1) (by simp))
  have n1_5 := Lib.hid (n1_4.out.step hal)
  clear n1_4 BX_4
  have nx_5 := Lib.hid hx
  clear hal
  clear hx
  have hal := balloc ((w2.alloc (.cells (#[.int .i64 0, .int .i64 0, .int .i64 0, .slice p2 0 c2, .bool false]) 26)).alloc (.cells (#[.int .i64 0, .int .i64 1]) 3)) (.cells (#[.int .i64 2, .int .i64 4, .int .i64 2, .slice (some ⟨w2.heap.size + 1, 0, none⟩) 2 2, .bool false]) 26)
  have BX_6 := Lib.hid (BX_5.out.addAt (#[.int .i64 2, .int .i64 4, .int .i64 2, .slice (some ⟨w2.heap.size + 1, 0, none⟩) 2 2, .bool false]) 26 (w2.heap.size + 1 + 1) (by simp))
  have n1_6 := Lib.hid (n1_5.out.step hal)
  have nx_6 := Lib.hid (nx_5.out.step hal)
  clear n1_5 nx_5 BX_5
  clear hal
  have hc := BX_6.out.cells (.head _)
  go_wp2_with fail
  refine (next_is aw3 (some ⟨w2.heap.size + 1, 0, none⟩) 2 _ nx_6.out (by simp)).mono ?_
  rintro _ w3 ⟨p3, c3, q3, k3, rfl, hn, hm, hb3⟩
  have BX_7 := Lib.hid (BX_6.out.step hb3)
  have n1_7 := Lib.hid (n1_6.out.step hb3)
  have nx_7 := Lib.hid (nx_6.out.step hb3)
  clear n1_6 nx_6 BX_6
  have nt_7 := Lib.hid hn
  have mt_7 := Lib.hid hm
  clear hb3
  clear hc hn hm
  have hal := balloc w3 (.cells (#[.int .i64 1, .int .i64 4, .int .i64 2, .slice p3 0 c3, .bool false, .slice q3 2 k3, .bool false]) 42)
  have BX_8 := Lib.hid (BX_7.out.addAt (#[.int .i64 1, .int .i64 4, .int .i64 2, .slice p3 0 c3, .bool false, .slice q3 2 k3, .bool false]) 42 (w3.heap.size) rfl)
  have n1_8 := Lib.hid (n1_7.out.step hal)
  have nx_8 := Lib.hid (nx_7.out.step hal)
  have nt_8 := Lib.hid (nt_7.out.step hal)
  have mt_8 := Lib.hid (mt_7.out.step hal)
  clear n1_7 nx_7 nt_7 mt_7 BX_7
  clear hal
  have hc := BX_8.out.cells (.tail _ (.tail _ (.tail _ (.tail _ (.head _)))))
  go_wp2_with fail
  refine (next_is aw4 p1 c1 _ n1_8.out (by simp)).mono ?_
  rintro _ w4 ⟨p4, c4, q4, k4, rfl, hn, hm, hb4⟩
  have BX_9 := Lib.hid (BX_8.out.step hb4)
  have n1_9 := Lib.hid (n1_8.out.step hb4)
  have nx_9 := Lib.hid (nx_8.out.step hb4)
  have nt_9 := Lib.hid (nt_8.out.step hb4)
  have mt_9 := Lib.hid (mt_8.out.step hb4)
  clear n1_8 nx_8 nt_8 mt_8 BX_8
  have nu_9 := Lib.hid hn
  have mu_9 := Lib.hid hm
  clear hb4
  clear hc hn hm
  have hal := balloc w4 (.cells (#[.int .i64 3, .int .i64 4, .int .i64 2, .slice p4 0 c4, .bool false, .slice q4 1 k4, .bool false]) 42)
  have BX_10 := Lib.hid (BX_9.out.addAt (#[.int .i64 3, .int .i64 4, .int .i64 2, .slice p4 0 c4, .bool false, .slice q4 1 k4, .bool false]) 42 (w4.heap.size) rfl)
  have n1_10 := Lib.hid (n1_9.out.step hal)
  have nx_10 := Lib.hid (nx_9.out.step hal)
  have nt_10 := Lib.hid (nt_9.out.step hal)
  have mt_10 := Lib.hid (mt_9.out.step hal)
  have nu_10 := Lib.hid (nu_9.out.step hal)
  have mu_10 := Lib.hid (mu_9.out.step hal)
  clear n1_9 nx_9 nt_9 mt_9 nu_9 mu_9 BX_9
  clear hal
  have hc := BX_10.out.cells (.tail _ (.tail _ (.head _)))
  go_wp2_with fail
  refine (next_is aw5 (some ⟨w2.heap.size + 1, 0, none⟩) 2 _ nx_10.out (by simp)).mono ?_
  rintro _ w5 ⟨p5, c5, q5, k5, rfl, hn, hm, hb5⟩
  obtain ⟨gv, rfl, -, -⟩ := hm 0 _ rfl
  have BX_11 := Lib.hid (BX_10.out.step hb5)
  have n1_11 := Lib.hid (n1_10.out.step hb5)
  have nx_11 := Lib.hid (nx_10.out.step hb5)
  have nt_11 := Lib.hid (nt_10.out.step hb5)
  have mt_11 := Lib.hid (mt_10.out.step hb5)
  have nu_11 := Lib.hid (nu_10.out.step hb5)
  have mu_11 := Lib.hid (mu_10.out.step hb5)
  clear n1_10 nx_10 nt_10 mt_10 nu_10 mu_10 BX_10
  have nv_11 := Lib.hid hn
  have mv_11 := Lib.hid hm
  clear hb5
  clear hc hn hm
  have hal := balloc w5 (.cells (#[.int .i64 (-1), .int .i64 4, .int .i64 2, .slice p5 2 c5, .bool false, .slice (some ⟨gv, 0, none⟩) 1 k5, .bool true]) 42)
  have BX_12 := Lib.hid (BX_11.out.addAt (#[.int .i64 (-1), .int .i64 4, .int .i64 2, .slice p5 2 c5, .bool false, .slice (some ⟨gv, 0, none⟩) 1 k5, .bool true]) 42 (w5.heap.size) rfl)
  have n1_12 := Lib.hid (n1_11.out.step hal)
  have nx_12 := Lib.hid (nx_11.out.step hal)
  have nt_12 := Lib.hid (nt_11.out.step hal)
  have mt_12 := Lib.hid (mt_11.out.step hal)
  have nu_12 := Lib.hid (nu_11.out.step hal)
  have mu_12 := Lib.hid (mu_11.out.step hal)
  have nv_12 := Lib.hid (nv_11.out.step hal)
  have mv_12 := Lib.hid (mv_11.out.step hal)
  clear n1_11 nx_11 nt_11 mt_11 nu_11 mu_11 nv_11 mv_11 BX_11
  clear hal
  have hc := BX_12.out.cells (.tail _ (.tail _ (.tail _ (.head _))))
  go_wp2_with fail
  refine (next_is aw6 (some ⟨w2.heap.size + 1, 0, none⟩) 2 _ nx_12.out (by simp)).mono ?_
  rintro _ w6 ⟨p6, c6, q6, k6, rfl, -, -, hb6⟩
  have BX_13 := Lib.hid (BX_12.out.step hb6)
  have n1_13 := Lib.hid (n1_12.out.step hb6)
  have nx_13 := Lib.hid (nx_12.out.step hb6)
  have nt_13 := Lib.hid (nt_12.out.step hb6)
  have mt_13 := Lib.hid (mt_12.out.step hb6)
  have nu_13 := Lib.hid (nu_12.out.step hb6)
  have mu_13 := Lib.hid (mu_12.out.step hb6)
  have nv_13 := Lib.hid (nv_12.out.step hb6)
  have mv_13 := Lib.hid (mv_12.out.step hb6)
  clear n1_12 nx_12 nt_12 mt_12 nu_12 mu_12 nv_12 mv_12 BX_12
  clear hb6
  clear hc
  have hal := balloc w6 (.cells (#[.int .i64 0, .int .i64 0, .int .i64 0, .slice p6 0 c6, .bool false, .slice q6 0 k6, .bool false]) 42)
  have BX_14 := Lib.hid (BX_13.out.addAt (#[.int .i64 0, .int .i64 0, .int .i64 0, .slice p6 0 c6, .bool false, .slice q6 0 k6, .bool false]) 42 (w6.heap.size) rfl)
  have n1_14 := Lib.hid (n1_13.out.step hal)
  have nx_14 := Lib.hid (nx_13.out.step hal)
  have nt_14 := Lib.hid (nt_13.out.step hal)
  have mt_14 := Lib.hid (mt_13.out.step hal)
  have nu_14 := Lib.hid (nu_13.out.step hal)
  have mu_14 := Lib.hid (mu_13.out.step hal)
  have nv_14 := Lib.hid (nv_13.out.step hal)
  have mv_14 := Lib.hid (mv_13.out.step hal)
  clear n1_13 nx_13 nt_13 mt_13 nu_13 mu_13 nv_13 mv_13 BX_13
  clear hal
  have hc := BX_14.out.cells (.tail _ (.tail _ (.tail _ (.tail _ (.head _)))))
  go_wp2_with fail
  refine (next_is aw7 (some ⟨w2.heap.size + 1, 0, none⟩) 2 _ nx_14.out (by simp)).mono ?_
  rintro _ w7 ⟨p7, c7, q7, k7, rfl, -, -, hb7⟩
  have BX_15 := Lib.hid (BX_14.out.step hb7)
  have n1_15 := Lib.hid (n1_14.out.step hb7)
  have nx_15 := Lib.hid (nx_14.out.step hb7)
  have nt_15 := Lib.hid (nt_14.out.step hb7)
  have mt_15 := Lib.hid (mt_14.out.step hb7)
  have nu_15 := Lib.hid (nu_14.out.step hb7)
  have mu_15 := Lib.hid (mu_14.out.step hb7)
  have nv_15 := Lib.hid (nv_14.out.step hb7)
  have mv_15 := Lib.hid (mv_14.out.step hb7)
  clear n1_14 nx_14 nt_14 mt_14 nu_14 mu_14 nv_14 mv_14 BX_14
  clear hb7
  clear hc
  have hal := balloc w7 (.cells (#[.int .i64 0, .int .i64 0, .int .i64 0, .slice p7 0 c7, .bool false, .slice q7 0 k7, .bool false]) 42)
  have BX_16 := Lib.hid (BX_15.out.addAt (#[.int .i64 0, .int .i64 0, .int .i64 0, .slice p7 0 c7, .bool false, .slice q7 0 k7, .bool false]) 42 (w7.heap.size) rfl)
  have n1_16 := Lib.hid (n1_15.out.step hal)
  have nx_16 := Lib.hid (nx_15.out.step hal)
  have nt_16 := Lib.hid (nt_15.out.step hal)
  have mt_16 := Lib.hid (mt_15.out.step hal)
  have nu_16 := Lib.hid (nu_15.out.step hal)
  have mu_16 := Lib.hid (mu_15.out.step hal)
  have nv_16 := Lib.hid (nv_15.out.step hal)
  have mv_16 := Lib.hid (mv_15.out.step hal)
  clear n1_15 nx_15 nt_15 mt_15 nu_15 mu_15 nv_15 mv_15 BX_15
  clear hal
  have hc_e := BX_16.out.cells (.tail _ (.tail _ (.tail _ (.tail _ (.tail _ (.tail _ (.tail _ (.tail _ (.head _)))))))))
  have hc_x := BX_16.out.cells (.tail _ (.tail _ (.tail _ (.tail _ (.tail _ (.head _))))))
  have hc_t := BX_16.out.cells (.tail _ (.tail _ (.tail _ (.tail _ (.head _)))))
  have hc_u := BX_16.out.cells (.tail _ (.tail _ (.tail _ (.head _))))
  have hc_v := BX_16.out.cells (.tail _ (.tail _ (.head _)))
  go_wp2_with fail
  refine (tsame_yes tT.e p3 none c3 0 _ (by simp) nt_16.out (NumsIn.nil _ _)).mono ?_
  rintro _ w8 ⟨rfl, hb8⟩
  have BX_17 := Lib.hid (BX_16.out.step hb8)
  have n1_17 := Lib.hid (n1_16.out.step hb8)
  have nx_17 := Lib.hid (nx_16.out.step hb8)
  have nt_17 := Lib.hid (nt_16.out.step hb8)
  have mt_17 := Lib.hid (mt_16.out.step hb8)
  have nu_17 := Lib.hid (nu_16.out.step hb8)
  have mu_17 := Lib.hid (mu_16.out.step hb8)
  have nv_17 := Lib.hid (nv_16.out.step hb8)
  have mv_17 := Lib.hid (mv_16.out.step hb8)
  clear n1_16 nx_16 nt_16 mt_16 nu_16 mu_16 nv_16 mv_16 BX_16
  clear hb8
  clear hc_e hc_x hc_t hc_u hc_v
  have hc_e := BX_17.out.cells (.tail _ (.tail _ (.tail _ (.tail _ (.tail _ (.tail _ (.tail _ (.tail _ (.head _)))))))))
  have hc_x := BX_17.out.cells (.tail _ (.tail _ (.tail _ (.tail _ (.tail _ (.head _))))))
  have hc_t := BX_17.out.cells (.tail _ (.tail _ (.tail _ (.tail _ (.head _)))))
  have hc_u := BX_17.out.cells (.tail _ (.tail _ (.tail _ (.head _))))
  have hc_v := BX_17.out.cells (.tail _ (.tail _ (.head _)))
  have hl := MsIn.lit (w := w8) (L := lT) (A := #[.int .i64 5, .int .i64 6, .int .i64 0, .int .i64 2, .int .i64 1, .int .i64 1, .int .i64 0, .int .i64 0, .int .i64 0, .int .i64 0, .int .i64 0, .int .i64 0, .int .i64 0, .int .i64 0, .int .i64 0, .int .i64 6, .int .i64 6, .int .i64 0, .int .i64 0, .int .i64 1, .int .i64 0, .int .i64 0, .int .i64 0, .int .i64 0, .int .i64 0, .int .i64 0, .int .i64 0, .int .i64 0, .int .i64 0, .int .i64 0]) 30 rfl
  have hal := balloc w8 (.cells (#[.int .i64 5, .int .i64 6, .int .i64 0, .int .i64 2, .int .i64 1, .int .i64 1, .int .i64 0, .int .i64 0, .int .i64 0, .int .i64 0, .int .i64 0, .int .i64 0, .int .i64 0, .int .i64 0, .int .i64 0, .int .i64 6, .int .i64 6, .int .i64 0, .int .i64 0, .int .i64 1, .int .i64 0, .int .i64 0, .int .i64 0, .int .i64 0, .int .i64 0, .int .i64 0, .int .i64 0, .int .i64 0, .int .i64 0, .int .i64 0]) 30)
  have BX_18 := Lib.hid (BX_17.out.addAt (#[.int .i64 5, .int .i64 6, .int .i64 0, .int .i64 2, .int .i64 1, .int .i64 1, .int .i64 0, .int .i64 0, .int .i64 0, .int .i64 0, .int .i64 0, .int .i64 0, .int .i64 0, .int .i64 0, .int .i64 0, .int .i64 6, .int .i64 6, .int .i64 0, .int .i64 0, .int .i64 1, .int .i64 0, .int .i64 0, .int .i64 0, .int .i64 0, .int .i64 0, .int .i64 0, .int .i64 0, .int .i64 0, .int .i64 0, .int .i64 0]) 30 (w8.heap.size) rfl)
  have n1_18 := Lib.hid (n1_17.out.step hal)
  have nx_18 := Lib.hid (nx_17.out.step hal)
  have nt_18 := Lib.hid (nt_17.out.step hal)
  have mt_18 := Lib.hid (mt_17.out.step hal)
  have nu_18 := Lib.hid (nu_17.out.step hal)
  have mu_18 := Lib.hid (mu_17.out.step hal)
  have nv_18 := Lib.hid (nv_17.out.step hal)
  have mv_18 := Lib.hid (mv_17.out.step hal)
  clear n1_17 nx_17 nt_17 mt_17 nu_17 mu_17 nv_17 mv_17 BX_17
  have ml_18 := Lib.hid hl
  clear hal
  clear hl
  go_wp2_with fail
  refine (msame_any q3 _ k3 2 2 lT _ rfl (by simp) mt_18.out ml_18.out).mono ?_
  rintro _ w9 ⟨rfl, hb9⟩
  have BX_19 := Lib.hid (BX_18.out.step hb9)
  have n1_19 := Lib.hid (n1_18.out.step hb9)
  have nx_19 := Lib.hid (nx_18.out.step hb9)
  have nt_19 := Lib.hid (nt_18.out.step hb9)
  have mt_19 := Lib.hid (mt_18.out.step hb9)
  have nu_19 := Lib.hid (nu_18.out.step hb9)
  have mu_19 := Lib.hid (mu_18.out.step hb9)
  have nv_19 := Lib.hid (nv_18.out.step hb9)
  have mv_19 := Lib.hid (mv_18.out.step hb9)
  have ml_19 := Lib.hid (ml_18.out.step hb9)
  clear n1_18 nx_18 nt_18 mt_18 nu_18 mu_18 nv_18 mv_18 ml_18 BX_18
  clear hb9
  clear hc_e hc_x hc_t hc_u hc_v
  have hc_e := BX_19.out.cells (.tail _ (.tail _ (.tail _ (.tail _ (.tail _ (.tail _ (.tail _ (.tail _ (.tail _ (.head _))))))))))
  have hc_x := BX_19.out.cells (.tail _ (.tail _ (.tail _ (.tail _ (.tail _ (.tail _ (.head _)))))))
  have hc_t := BX_19.out.cells (.tail _ (.tail _ (.tail _ (.tail _ (.tail _ (.head _))))))
  have hc_u := BX_19.out.cells (.tail _ (.tail _ (.tail _ (.tail _ (.head _)))))
  have hc_v := BX_19.out.cells (.tail _ (.tail _ (.tail _ (.head _))))
  have hl := MsIn.lit (w := w9) (L := lU) (A := #[.int .i64 7, .int .i64 0, .int .i64 0, .int .i64 3, .int .i64 0, .int .i64 0, .int .i64 2, .int .i64 5, .int .i64 0, .int .i64 0, .int .i64 0, .int .i64 0, .int .i64 0, .int .i64 0, .int .i64 0]) 30 rfl
  have hal := balloc w9 (.cells (#[.int .i64 7, .int .i64 0, .int .i64 0, .int .i64 3, .int .i64 0, .int .i64 0, .int .i64 2, .int .i64 5, .int .i64 0, .int .i64 0, .int .i64 0, .int .i64 0, .int .i64 0, .int .i64 0, .int .i64 0]) 30)
  have BX_20 := Lib.hid (BX_19.out.addAt (#[.int .i64 7, .int .i64 0, .int .i64 0, .int .i64 3, .int .i64 0, .int .i64 0, .int .i64 2, .int .i64 5, .int .i64 0, .int .i64 0, .int .i64 0, .int .i64 0, .int .i64 0, .int .i64 0, .int .i64 0]) 30 (w9.heap.size) rfl)
  have n1_20 := Lib.hid (n1_19.out.step hal)
  have nx_20 := Lib.hid (nx_19.out.step hal)
  have nt_20 := Lib.hid (nt_19.out.step hal)
  have mt_20 := Lib.hid (mt_19.out.step hal)
  have nu_20 := Lib.hid (nu_19.out.step hal)
  have mu_20 := Lib.hid (mu_19.out.step hal)
  have nv_20 := Lib.hid (nv_19.out.step hal)
  have mv_20 := Lib.hid (mv_19.out.step hal)
  have ml_20 := Lib.hid (ml_19.out.step hal)
  clear n1_19 nx_19 nt_19 mt_19 nu_19 mu_19 nv_19 mv_19 ml_19 BX_19
  have mk_20 := Lib.hid hl
  clear hal
  clear hl
  go_wp2_with fail
  refine (msame_any q4 _ k4 1 1 lU _ rfl (by simp) mu_20.out mk_20.out).mono ?_
  rintro _ w10 ⟨rfl, hb10⟩
  have BX_21 := Lib.hid (BX_20.out.step hb10)
  have n1_21 := Lib.hid (n1_20.out.step hb10)
  have nx_21 := Lib.hid (nx_20.out.step hb10)
  have nt_21 := Lib.hid (nt_20.out.step hb10)
  have mt_21 := Lib.hid (mt_20.out.step hb10)
  have nu_21 := Lib.hid (nu_20.out.step hb10)
  have mu_21 := Lib.hid (mu_20.out.step hb10)
  have nv_21 := Lib.hid (nv_20.out.step hb10)
  have mv_21 := Lib.hid (mv_20.out.step hb10)
  have ml_21 := Lib.hid (ml_20.out.step hb10)
  have mk_21 := Lib.hid (mk_20.out.step hb10)
  clear n1_20 nx_20 nt_20 mt_20 nu_20 mu_20 nv_20 mv_20 ml_20 mk_20 BX_20
  clear hb10
  clear hc_e hc_x hc_t hc_u hc_v
  have hc_e := BX_21.out.cells (.tail _ (.tail _ (.tail _ (.tail _ (.tail _ (.tail _ (.tail _ (.tail _ (.tail _ (.tail _ (.head _)))))))))))
  have hc_x := BX_21.out.cells (.tail _ (.tail _ (.tail _ (.tail _ (.tail _ (.tail _ (.tail _ (.head _))))))))
  have hc_t := BX_21.out.cells (.tail _ (.tail _ (.tail _ (.tail _ (.tail _ (.tail _ (.head _)))))))
  have hc_u := BX_21.out.cells (.tail _ (.tail _ (.tail _ (.tail _ (.tail _ (.head _))))))
  have hc_v := BX_21.out.cells (.tail _ (.tail _ (.tail _ (.tail _ (.head _)))))
  obtain ⟨gq, eq, -, hq⟩ := mv_21.out 0 _ rfl
  cases eq
  have hq0 := (cells15 hq).1
  simp only [Nat.zero_mul] at hq0
  clear hq
  go_wp2_with fail
  refine (tmay_is (e := eX) (b := true) rfl (some ⟨w2.heap.size + 1, 0, none⟩) 2 _ (by simp) nx_21.out).mono ?_
  rintro _ w11 ⟨rfl, hb11⟩
  have BX_22 := Lib.hid (BX_21.out.step hb11)
  have n1_22 := Lib.hid (n1_21.out.step hb11)
  have nx_22 := Lib.hid (nx_21.out.step hb11)
  have nt_22 := Lib.hid (nt_21.out.step hb11)
  have mt_22 := Lib.hid (mt_21.out.step hb11)
  have nu_22 := Lib.hid (nu_21.out.step hb11)
  have mu_22 := Lib.hid (mu_21.out.step hb11)
  have nv_22 := Lib.hid (nv_21.out.step hb11)
  have mv_22 := Lib.hid (mv_21.out.step hb11)
  have ml_22 := Lib.hid (ml_21.out.step hb11)
  have mk_22 := Lib.hid (mk_21.out.step hb11)
  clear n1_21 nx_21 nt_21 mt_21 nu_21 mu_21 nv_21 mv_21 ml_21 mk_21 BX_21
  clear hb11
  clear hq0
  clear hc_e hc_x hc_t hc_u hc_v
  have hc_e := BX_22.out.cells (.tail _ (.tail _ (.tail _ (.tail _ (.tail _ (.tail _ (.tail _ (.tail _ (.tail _ (.tail _ (.head _)))))))))))
  have hc_x := BX_22.out.cells (.tail _ (.tail _ (.tail _ (.tail _ (.tail _ (.tail _ (.tail _ (.head _))))))))
  have hc_t := BX_22.out.cells (.tail _ (.tail _ (.tail _ (.tail _ (.tail _ (.tail _ (.head _)))))))
  have hc_u := BX_22.out.cells (.tail _ (.tail _ (.tail _ (.tail _ (.tail _ (.head _))))))
  have hc_v := BX_22.out.cells (.tail _ (.tail _ (.tail _ (.tail _ (.head _)))))
  go_wp2_with fail
  refine (tmay_is (e := zE) (b := false) rfl none 0 _ (by simp [zE, z0]) (NumsIn.nil _ _)).mono ?_
  rintro _ w12 ⟨rfl, hb12⟩
  have BX_23 := Lib.hid (BX_22.out.step hb12)
  have n1_23 := Lib.hid (n1_22.out.step hb12)
  have nx_23 := Lib.hid (nx_22.out.step hb12)
  have nt_23 := Lib.hid (nt_22.out.step hb12)
  have mt_23 := Lib.hid (mt_22.out.step hb12)
  have nu_23 := Lib.hid (nu_22.out.step hb12)
  have mu_23 := Lib.hid (mu_22.out.step hb12)
  have nv_23 := Lib.hid (nv_22.out.step hb12)
  have mv_23 := Lib.hid (mv_22.out.step hb12)
  have ml_23 := Lib.hid (ml_22.out.step hb12)
  have mk_23 := Lib.hid (mk_22.out.step hb12)
  clear n1_22 nx_22 nt_22 mt_22 nu_22 mu_22 nv_22 mv_22 ml_22 mk_22 BX_22
  clear hb12
  clear hc_e hc_x hc_t hc_u hc_v
  go_wp2_with fail
  go_ret
  exact ⟨rfl, BX_23.out.below⟩

end Go.Proofs.Ytfnemldjhfcalaa
