/-
  Whether two lists are the same; a set in a box; awake of layer 8 is true.
-/
import Derived.Test.YtlkeecghofldeaaShG
namespace Go.Proofs.Ytlkeecghofldeaa
open Go Go.RowKit Go.Sort

theorem beq_split (l m : List Int) (he : l.length = m.length) : (l == m) = true ↔ ∀ j, j < l.length → l.getD j 0 = m.getD j 0 := by
  rw [beq_iff_eq]
  constructor
  · rintro rfl j _; rfl
  · intro h
    refine List.ext_getElem he fun j h1 h2 => ?_
    have := h j h1
    simpa [List.getD_eq_getElem?_getD, h1, h2] using this

/-- Same. -/
theorem same_any (p q : Option Addr) (cp cq : Nat) (l m : List Int) (w : World) (hl : l.length ≤ 5000) (h1 : NumsIn w p l) (h2 : NumsIn w q m) :
    Calls Try.prog 16 #[.slice p l.length cp, .slice q m.length cq] w fun e w' => e = .returned (.bool (l == m)) ∧ ∃ n, w' = w.drewN n := by
  have H1 := Lib.hid h1
  have H2 := Lib.hid h2
  clear h1 h2
  by_cases hlen : l.length = m.length
  · have HB := Lib.hid (beq_split l m hlen)
    have hne : ((l.length : Int) != (m.length : Int)) = false := by simp [hlen]
    have HL := Lib.hid hlen
    clear hlen
    go_enter Try.func16, Try.ntmps16
    go_wp2
    go_loopw [5] (fun i wr => ∃ k : Nat, k ≤ l.length ∧ i = .int .i64 k ∧ (∀ j, j < k → l.getD j 0 = m.getD j 0) ∧ ∃ n, wr = w.drewN n) (fun i _ => l.length - (intOf i).toNat)
    case atStart => exact ⟨0, Nat.zero_le _, rfl, fun j hj => by omega, 0, rfl⟩
    case round =>
      obtain ⟨k, hk, rfl, hno, n, rfl⟩ := hrel
      have HN := Lib.hid hno
      clear hno
      by_cases hlt : k < l.length
      · obtain ⟨g, off, rfl, hg, hc⟩ := H1.out k hlt
        have hlm : k < m.length := by have := HL.out; omega
        obtain ⟨g', off', rfl, hg', hc'⟩ := H2.out k hlm
        obtain ⟨y, hy⟩ : ∃ y, y = l.getD k 0 := ⟨_, rfl⟩
        obtain ⟨z, hz⟩ : ∃ z, z = m.getD k 0 := ⟨_, rfl⟩
        rw [← hy] at hc
        rw [← hz] at hc'
        have HY := Lib.hid hy
        have HZ := Lib.hid hz
        clear hy hz
        by_cases he : y = z
        · have he' : (y != z) = false := by simpa using he
          have HE := Lib.hid he
          clear he
          go_wp2
          go_quiet (fail)
          go_wp2
          go_roundw
          case rel => exact ⟨k + 1, by omega, by go_num, fun j hj => by rcases Nat.lt_or_ge j k with h | h; exact HN.out j h; (rw [show j = k by omega, ← HY.out, ← HZ.out]; exact HE.out), _, rfl⟩
          case measure => simp [intOf]; omega
        · have he' : (y != z) = true := by simpa using he
          have HE := Lib.hid he
          clear he
          go_wp2
          go_quiet (fail)
          go_wp2
          go_ret
          refine ⟨ret_bool ?_, n + nq, by simp⟩
          cases hb : (l == m) with
          | false => rfl
          | true => exact absurd (HY.out ▸ HZ.out ▸ HB.out.1 hb k hlt) HE.out
      · go_wp2
        go_ret
        exact ⟨ret_bool (HB.out.2 fun j hj => HN.out j (by omega)).symm, _, rfl⟩
  · have hne : ((l.length : Int) != (m.length : Int)) = true := by simp; omega
    have HB : Hid ((l == m) = false) := Lib.hid (by rw [beq_eq_false_iff_ne]; exact fun e => hlen (by rw [e]))
    clear hlen
    go_enter Try.func16, Try.ntmps16
    go_wp2
    go_ret
    exact ⟨ret_bool HB.out.symm, 0, rfl⟩

/-- A set in a block of the caller's own; the row of its pointers is none of some blocks. -/
def Box (G : Nat → Prop) (g : Nat) (s : St) (wr : World) : Prop := ∃ p cap, wr.heap[g]? = some (.cells (sval s p cap) 24 (0, 0)) ∧ NumsIn wr p s.l ∧ (s.l ≠ [] → ∀ a, p = some a → ¬ G a.block)
theorem Box.step {G : Nat → Prop} {g : Nat} {s : St} {wr wr' : World} (h : Box G g s wr) (hb : Below wr.heap.size wr wr') : Box G g s wr' := by
  obtain ⟨p, cap, h1, h2, h3⟩ := h
  exact ⟨p, cap, (hb.block g (lt_of_block h1)).trans h1, h2.step hb, h3⟩
theorem Box.new {G : Nat → Prop} {w w1 : World} {s : St} {p : Option Addr} {cap : Nat} (hin : NumsIn w1 p s.l) (hf : ∀ a, p = some a → w.heap.size ≤ a.block) (hG : ∀ k, G k → k < w.heap.size) : Box G w1.heap.size s (w1.alloc (.cells (sval s p cap) 24)) :=
  ⟨p, cap, heap_alloc_new w1 _, hin.step (balloc w1 _), fun _ a ha hg => by have := hf a ha; have := hG _ hg; omega⟩
abbrev no : Nat → Prop := fun _ => False

theorem Box.cells {G : Nat → Prop} {g : Nat} {s : St} {wr : World} (h : Box G g s wr) : ∃ p cap, (∀ o, wr.cell? ⟨g, o, none⟩ = (sval s p cap)[o]?) ∧ NumsIn wr p s.l ∧ g < wr.heap.size := by
  obtain ⟨p, cap, h1, h2, _⟩ := h
  exact ⟨p, cap, fun o => blk_cell h1 o, h2, lt_of_block h1⟩
theorem new_is {c m : Int} {s : St} {e : Int} (h : newS c m = (s, e)) (w : World) : Calls Try.prog 8 #[.int .i64 c, .int .i64 m] w (GaveS w s e) := by
  have := new_any c m w
  rw [h] at this
  exact this
theorem add_is {s s' : St} {x e : Int} (h : addS s x = (s', e)) (p : Option Addr) (cap : Nat) (w : World) (hi : NumsIn w p s.l) (hl : s.l.length ≤ 5000) :
    Calls Try.prog 11 #[.agg (sval s p cap), .int .i64 x] w (GaveS w s' e) := by
  have := add_any s p cap x w hi hl
  rw [h] at this
  exact this
theorem may_is {s : St} {b : Bool} (h : s.may = b) (p : Option Addr) (cap : Nat) (w : World) (hi : NumsIn w p s.l) (hl : s.l.length ≤ 5000) :
    Calls Try.prog 13 #[.agg (sval s p cap)] w fun e w' => e = .returned (.bool b) ∧ Below w.heap.size w w' := by
  subst h
  exact may_any s.c s.m p cap s.l s.al w hl hi
theorem has_is {s : St} {x : Int} {b : Bool} (h : hasAll s.c s.m s.l s.al x = b) (p : Option Addr) (cap : Nat) (w : World) (hi : NumsIn w p s.l) (hl : s.l.length ≤ 5000) :
    Calls Try.prog 14 #[.agg (sval s p cap), .int .i64 x] w fun e w' => e = .returned (.bool b) ∧ Below w.heap.size w w' := by
  subst h
  exact has_any s.c s.m p cap s.l s.al x w hl hi
theorem targets_is {s : St} {but l : List Int} (h : targetsS s but = l) (p : Option Addr) (cap : Nat) (pb : Option Addr) (cb : Nat) (w : World) (hi : NumsIn w p s.l) (hb : NumsIn w pb but) (hl : s.l.length ≤ 5000) (hl2 : but.length ≤ 5000) :
    Calls Try.prog 17 #[.agg (sval s p cap), .slice pb but.length cb] w (GaveL w l) := by
  subst h
  exact targets_any s p cap pb cb but w hi hb hl hl2
theorem clear_is {s s' : St} (h : (newS s.c s.m).1 = s') (p : Option Addr) (n cap : Nat) (w : World) :
    Calls Try.prog 19 #[.agg (sv s.c s.m p n cap s.al)] w (Gave1 w s') := by
  subst h
  exact clear_any s p n cap w
theorem NumsIn.lit {w : World} {x y : Int} : NumsIn (w.alloc (.cells #[.int .i64 x, .int .i64 y] 3)) (some ⟨w.heap.size, 0, none⟩) [x, y] := NumsIn.of_cells (by simp) fun j hj => by
  have hc := World.cell?_alloc_mark w #[.int .i64 x, .int .i64 y] 3 (0, 0) j
  rcases (show j = 0 ∨ j = 1 by simp at hj; omega) with rfl | rfl <;> exact hc

/-- The two boxes that the last test reads. -/
structure Aw (w : World) (g g' : Nat) (s s' : St) (p : Option Addr) (c : Nat) (p' : Option Addr) (c' : Nat) (wr : World) : Prop where
  c1 : ∀ o, wr.cell? ⟨g, o, none⟩ = (sval s p c)[o]?
  c2 : ∀ o, wr.cell? ⟨g', o, none⟩ = (sval s' p' c')[o]?
  n1 : NumsIn wr p s.l
  n2 : NumsIn wr p' s'.l
  lt1 : g < wr.heap.size
  lt2 : g' < wr.heap.size
  below : Below w.heap.size w wr
theorem Aw.step {w wr w' : World} {g g' : Nat} {s s' : St} {p : Option Addr} {c : Nat} {p' : Option Addr} {c' : Nat} (h : Aw w g g' s s' p c p' c' wr) (hb : Below wr.heap.size wr w') : Aw w g g' s s' p c p' c' w' :=
  ⟨fun o => (hb.cell (p := ⟨g, o, none⟩) h.lt1).trans (h.c1 o), fun o => (hb.cell (p := ⟨g', o, none⟩) h.lt2).trans (h.c2 o), h.n1.step hb, h.n2.step hb, Nat.lt_of_lt_of_le h.lt1 hb.size, Nat.lt_of_lt_of_le h.lt2 hb.size, bstep h.below hb⟩

abbrev sZ : St := ⟨0, 0, [], false⟩
abbrev sA : St := ⟨4, 2, [], false⟩
abbrev sB : St := ⟨4, 2, [3], false⟩
abbrev sC : St := ⟨4, 2, [1, 3], false⟩
abbrev sD : St := ⟨4, 2, [], true⟩
theorem aw1 : newS 4 2 = (sA, 0) := by rfl
theorem aw2 : newS 0 2 = (sZ, 1) := by rfl
theorem aw3 : addS sA 3 = (sB, 0) := by rfl
theorem aw4 : addS sB 1 = (sC, 0) := by rfl
theorem aw5 : addS sC 0 = (sD, 0) := by rfl
theorem aw6 : addS sA 4 = (sZ, 5) := by rfl

set_option maxRecDepth 100000 in
set_option maxHeartbeats 8000000 in
/-- awake: the calls whose answers the document fixes. -/
theorem awake_any (w : World) : Calls Try.prog 7 #[] w fun e w' => e = .returned (.bool true) ∧ Below w.heap.size w w' := by
  have hf3 : ∀ p c w, (Instr.field 24 (.agg (sval sA p c)) 3).run Try.prog w = .ok (.bool false) w := fun p c w => by kernel_rfl
  have hf0 : ∀ p c w, (Instr.field 24 (.agg (sval sA p c)) 0).run Try.prog w = .ok (.int .i64 4) w := fun p c w => by kernel_rfl
  go_enter Try.func7, Try.ntmps7
  go_wp2_with fail
  refine (new_is aw1 _).mono ?_
  rintro e w1 ⟨v, rfl, p1, c1, rfl, hin1, hb1, hf1⟩
  have hbA := balloc w1 (.cells #[.int .i64 4, .int .i64 2, .slice p1 0 c1, .bool false] 24)
  have B1 : Box no w1.heap.size sA (w1.alloc (.cells #[.int .i64 4, .int .i64 2, .slice p1 0 c1, .bool false] 24)) := Box.new hin1 hf1 (fun _ h => h.elim)
  have HB1 := Lib.hid (bstep hb1 hbA)
  have HX1 := Lib.hid B1
  clear hin1 hb1 hf1 hbA B1
  go_wp2_with fail
  refine (new_is aw2 _).mono ?_
  rintro e w2 ⟨v, rfl, p2, c2, rfl, -, hb2, -⟩
  have hbA := balloc w2 (.cells #[.int .i64 0, .int .i64 0, .slice p2 0 c2, .bool false] 24)
  have HB2 := Lib.hid (bstep (bstep HB1.out hb2) hbA)
  have HX2 := Lib.hid ((HX1.out.step hb2).step hbA)
  clear hbA hb2 HB1 HX1
  obtain ⟨p, cap, hc2, hi2, hg2⟩ := HX2.out.cells
  go_wp2_with fail
  refine (add_is aw3 p cap _ hi2 (by simp)).mono ?_
  rintro e w3 ⟨v, rfl, p3, c3, rfl, hin3, hb3, hf3⟩
  have hbA := balloc w3 (.cells #[.int .i64 4, .int .i64 2, .slice p3 1 c3, .bool false] 24)
  have B3 : Box no w3.heap.size sB (w3.alloc (.cells #[.int .i64 4, .int .i64 2, .slice p3 1 c3, .bool false] 24)) := Box.new hin3 hf3 (fun _ h => h.elim)
  have HB3 := Lib.hid (bstep (bstep HB2.out hb3) hbA)
  have HX3 := Lib.hid ((HX2.out.step hb3).step hbA)
  have hi3 := hin3.step hbA
  clear hbA hb3 HB2 HX2 hin3 hf3 hc2 hi2 hg2 B3
  go_wp2_with fail
  refine (add_is aw4 p3 c3 _ hi3 (by simp)).mono ?_
  rintro e w4 ⟨v, rfl, p4, c4, rfl, hin4, hb4, hf4⟩
  have hbA := balloc w4 (.cells #[.int .i64 4, .int .i64 2, .slice p4 2 c4, .bool false] 24)
  have B4 : Box no w4.heap.size sC (w4.alloc (.cells #[.int .i64 4, .int .i64 2, .slice p4 2 c4, .bool false] 24)) := Box.new hin4 hf4 (fun _ h => h.elim)
  have HB4 := Lib.hid (bstep (bstep HB3.out hb4) hbA)
  have HX4 := Lib.hid ((HX3.out.step hb4).step hbA)
  have HB := Lib.hid B4
  have hi4 := hin4.step hbA
  clear hbA hb4 HB3 HX3 hin4 hf4 hi3 B4
  go_wp2_with fail
  refine (add_is aw5 p4 c4 _ hi4 (by simp)).mono ?_
  rintro e w5 ⟨v, rfl, p5, c5, rfl, hin5, hb5, hf5⟩
  have hbA := balloc w5 (.cells #[.int .i64 4, .int .i64 2, .slice p5 0 c5, .bool true] 24)
  have B5 : Box no w5.heap.size sD (w5.alloc (.cells #[.int .i64 4, .int .i64 2, .slice p5 0 c5, .bool true] 24)) := Box.new hin5 hf5 (fun _ h => h.elim)
  have HB5 := Lib.hid (bstep (bstep HB4.out hb5) hbA)
  have HX5 := Lib.hid ((HX4.out.step hb5).step hbA)
  have HBB := Lib.hid ((HB.out.step hb5).step hbA)
  have HD := Lib.hid B5
  clear hbA hb5 HB4 HX4 HB hin5 hf5 hi4 B5
  obtain ⟨p, cap, hc5, hi5, hg5⟩ := HX5.out.cells
  go_wp2_with fail
  refine (add_is aw6 p cap _ hi5 (by simp)).mono ?_
  rintro e w6 ⟨v, rfl, p6, c6, rfl, -, hb6, -⟩
  have hbA := balloc w6 (.cells #[.int .i64 0, .int .i64 0, .slice p6 0 c6, .bool false] 24)
  have HB6 := Lib.hid (bstep (bstep HB5.out hb6) hbA)
  have HB_6 := Lib.hid ((HBB.out.step hb6).step hbA)
  have HD6 := Lib.hid ((HD.out.step hb6).step hbA)
  clear hbA hb6 HB5 HX5 HBB HD hc5 hi5 hg5
  obtain ⟨pb, cb, hcb, hib, hgb⟩ := HB_6.out.cells
  obtain ⟨pd, cd, hcd, hid_, hgd⟩ := HD6.out.cells
  have HA0 := Lib.hid (Aw.mk hcb hcd hib hid_ hgb hgd HB6.out)
  have hz6 : (w6.alloc (.cells #[.int .i64 0, .int .i64 0, .slice p6 0 c6, .bool false] 24)).heap.size = w6.heap.size + 1 := by simp
  have hl6 := NumsIn.lit (w := w6.alloc (.cells #[.int .i64 0, .int .i64 0, .slice p6 0 c6, .bool false] 24)) (x := 1) (y := 3)
  rw [hz6] at hl6
  have HL6 := Lib.hid hl6
  clear HB_6 HD6 hcb hcd hib hid_ hgb hgd HB6 hz6 hl6
  have HA1 := Lib.hid (HA0.out.step (balloc _ (.cells #[.int .i64 1, .int .i64 3] 3)))
  have hb0 := HA0.out.c1
  have hd0 := HA0.out.c2
  go_wp2_with fail
  refine (same_any pb (some ⟨w6.heap.size + 1, 0, none⟩) cb 2 [1, 3] [1, 3] _ (by simp) HA1.out.n1 HL6.out).mono ?_
  rintro e w7 ⟨rfl, n7, rfl⟩
  have HA2 := Lib.hid (HA1.out.step (below_drewN (Below.refl _ _) n7))
  clear hb0 hd0 HA0 HA1 HL6
  generalize World.drewN _ n7 = w7 at HA2 ⊢
  have hb2 := HA2.out.c1
  have hd2 := HA2.out.c2
  go_wp2_with fail
  refine (may_is (s := sC) (b := true) rfl pb cb _ HA2.out.n1 (by simp)).mono ?_
  rintro e w8 ⟨rfl, hb8⟩
  have HA3 := Lib.hid (HA2.out.step hb8)
  clear hb8 HA2
  clear hb2 hd2
  have hb3 := HA3.out.c1
  have hd3 := HA3.out.c2
  go_wp2_with fail
  refine (may_is (s := sZ) (b := false) rfl none 0 _ (NumsIn.nil _ _) (by simp)).mono ?_
  rintro e w9 ⟨rfl, hb9⟩
  have HA4 := Lib.hid (HA3.out.step hb9)
  clear hb9 HA3
  clear hb3 hd3
  have hb4 := HA4.out.c1
  have hd4 := HA4.out.c2
  go_wp2_with fail
  refine (has_is (s := sC) (x := 3) (b := true) rfl pb cb _ HA4.out.n1 (by simp)).mono ?_
  rintro e w10 ⟨rfl, hb10⟩
  have HA5 := Lib.hid (HA4.out.step hb10)
  clear hb10 HA4
  clear hb4 hd4
  have hb5 := HA5.out.c1
  have hd5 := HA5.out.c2
  go_wp2_with fail
  refine (has_is (s := sC) (x := 0) (b := false) rfl pb cb _ HA5.out.n1 (by simp)).mono ?_
  rintro e w11 ⟨rfl, hb11⟩
  have HA6 := Lib.hid (HA5.out.step hb11)
  clear hb11 HA5
  clear hb5 hd5
  have hb6 := HA6.out.c1
  have hd6 := HA6.out.c2
  go_wp2_with fail
  refine (has_is (s := sD) (x := 2) (b := true) rfl pd cd _ HA6.out.n2 (by simp)).mono ?_
  rintro e w12 ⟨rfl, hb12⟩
  have HA7 := Lib.hid (HA6.out.step hb12)
  clear hb12 HA6
  clear hb6 hd6
  have HA8 := Lib.hid (HA7.out.step (balloc w12 (.cells #[.int .i64 1, .int .i64 3] 3)))
  have hb7 := HA7.out.c1
  have hd7 := HA7.out.c2
  go_wp2_with fail
  refine (targets_is (s := sD) (but := [1, 3]) (l := [0, 2]) (by rfl) pd cd (some ⟨w12.heap.size, 0, none⟩) 2 _ HA8.out.n2 NumsIn.lit (by simp) (by simp)).mono ?_
  rintro e w13 ⟨pt, ct, rfl, hit, hb13⟩
  have HA9 := Lib.hid ((HA8.out.step hb13).step (balloc w13 (.cells #[.int .i64 0, .int .i64 2] 3)))
  have HT := Lib.hid (hit.step (balloc w13 (.cells #[.int .i64 0, .int .i64 2] 3)))
  clear hb13 HA8 HA7 hit
  clear hb7 hd7
  have hb9 := HA9.out.c1
  have hd9 := HA9.out.c2
  go_wp2_with fail
  refine (same_any pt (some ⟨w13.heap.size, 0, none⟩) ct 2 [0, 2] [0, 2] _ (by simp) HT.out NumsIn.lit).mono ?_
  rintro e w14 ⟨rfl, n14, rfl⟩
  have HA10 := Lib.hid (HA9.out.step (below_drewN (Below.refl _ _) n14))
  clear HA9 HT
  generalize World.drewN _ n14 = w14 at HA10 ⊢
  clear hb9 hd9
  have hb10 := HA10.out.c1
  have hd10 := HA10.out.c2
  go_wp2_with fail
  refine (clear_is (s := sD) (s' := sA) rfl pd 0 cd _).mono ?_
  rintro e w15 ⟨v, rfl, pq, cq, rfl, -, hb15, -⟩
  have HA11 := Lib.hid (HA10.out.step hb15)
  clear hb15 HA10
  clear hb10 hd10
  have hb11 := HA11.out.c1
  have hd11 := HA11.out.c2
  go_wp2_with fail
  refine (clear_is (s := sD) (s' := sA) rfl pd 0 cd _).mono ?_
  rintro e w16 ⟨v, rfl, pr, cr, rfl, -, hb16, -⟩
  have HA12 := Lib.hid (HA11.out.step hb16)
  clear hb16 HA11
  clear hb11 hd11
  go_wp2_with fail
  go_ret
  exact ⟨rfl, HA12.out.below⟩

end Go.Proofs.Ytlkeecghofldeaa
