/-
  What readProgram does.
-/
import Derived.Test.YtjnbpohjdgnknaaDoorScB
namespace Go.Proofs.YtjnbpohjdgnknaaDoor
open Go Go.RowKit

theorem next_n {b1 b2 : Nat} (n : Nat) (r : List UInt8) (w : World) (h : Nx w b1 b2 r) (hn : n ≤ r.length) :
    Calls Tryd.prog 38 #[.int .i64 n, .pointer (some ⟨b1, 0, none⟩), .pointer (some ⟨b2, 0, none⟩)] w fun e w' => e = .returned (.tuple #[.string ⟨(r.take n).toArray⟩, .bool true]) ∧ Nx w' b1 b2 (r.drop n) ∧ Only b2 w w' := by
  have := next_take (b1 := b1) (b2 := b2) (r.take n) (r.drop n) w (by rwa [List.take_append_drop])
  rwa [List.length_take, Nat.min_eq_left hn] at this

/-- The call's own first block still holds these cells, and nothing that was there has changed but one block. -/
structure Kx (w : World) (L : Array Value) (b : Nat) (w1 : World) : Prop where
  cell : ∀ o, w1.cell? ⟨w.heap.size, o, none⟩ = L[o]?
  size : w.heap.size < w1.heap.size
  kept : Kept b w.heap.size w w1
theorem Kept.step {b base : Nat} {w w1 w2 : World} (h : Kept b base w w1) (hb : Below w1.heap.size w1 w2) (h1 : base ≤ w1.heap.size) (h2 : b ≤ w1.heap.size) : Kept b base w w2 :=
  h.trans ⟨hb.mono h2, fun c hc _ => hb.block c (by omega)⟩
theorem Kx.box (w : World) (L : Array Value) (t : TypeId) (b : Nat) (hb : b < w.heap.size) : Kx w L b (w.alloc (.cells L t)) :=
  ⟨fun o => World.cell?_alloc_mark w _ t (0, 0) o, by simp, ⟨(Below.refl _ _).alloc (by omega) _, fun c hc _ => Below.heap_alloc _ _ _ hc⟩⟩
theorem Kx.step {w w1 w2 : World} {L : Array Value} {b : Nat} (h : Kx w L b w1) (hb : Below w1.heap.size w1 w2) (hl : b < w.heap.size) : Kx w L b w2 :=
  ⟨fun o => (hb.cell (p := ⟨w.heap.size, o, none⟩) h.size).trans (h.cell o), Nat.lt_of_lt_of_le h.size hb.size, h.kept.step hb (by have := h.size; omega) (by have := h.size; omega)⟩
theorem cell_of_heap {w w' : World} {b : Nat} (h : w'.heap[b]? = w.heap[b]?) (o : Nat) : w'.cell? ⟨b, o, none⟩ = w.cell? ⟨b, o, none⟩ := by
  unfold World.cell?
  simp only [h]
theorem Kx.only {w w1 w2 : World} {L : Array Value} {b : Nat} (h : Kx w L b w1) (ho : Only b w1 w2) (hl : b < w.heap.size) : Kx w L b w2 :=
  ⟨fun o => (cell_of_heap (ho.other w.heap.size (by omega)) o).trans (h.cell o), by rw [ho.size]; exact h.size, h.kept.trans (ho.kept _)⟩

theorem cnt_err {r : List UInt8} {x : Int} (h : cntM r = .error x) : x = 2 ∨ x = 3 := by
  unfold cntM at h
  split at h
  · injection h with h; omega
  · split at h
    · cases h
    · split at h
      · injection h with h; omega
      · split at h
        · injection h with h; omega
        · cases h
theorem prs_len (s : List UInt8) : (prs s).1.length ≤ 64 := by
  unfold prs
  split
  · simp
  · split
    · simp
    · split <;> simp <;> omega

/-- What a call gives that reads a program. -/
def GaveP (b1 b2 : Nat) (o : Except Int (List Op × List UInt8)) (w : World) (e : Ending) (w' : World) : Prop :=
  Kept b2 w.heap.size w w' ∧ match o with
    | .error x => e = .returned (.tuple #[.slice none 0 0, .int .i64 x])
    | .ok (l, r) => ∃ v, e = .returned (.tuple #[v, .int .i64 0]) ∧ w'.ownsRow w.heap.size 52 3 v l.length (opCells l) ∧ Nx w' b1 b2 r

abbrev cL (c : Cfg) : Array Value := #[.int .i64 c.co, .int .i64 c.ho, .int .i64 c.se, .int .i64 c.wa, .int .i64 c.wo, .int .i64 c.li, .int .i64 c.po, .int .i64 c.ms, .int .i64 c.bu, .int .i64 c.wb, .int .i64 c.r0, .int .i64 c.r1, .int .i64 c.r2]

set_option maxRecDepth 100000 in
set_option maxHeartbeats 2000000 in
theorem program_any (c : Cfg) (b1 b2 : Nat) (r : List UInt8) (w : World) (hc : c.fits) (h : Nx w b1 b2 r) :
    Calls Tryd.prog 40 #[cv c, nextV b1 b2] w (GaveP b1 b2 (progM c r) w) := by
  have hb2 := h.lt
  have HC := Lib.hid hc
  have K0 := Lib.hid (Kx.box w (cL c) 24 b2 hb2)
  have H := Lib.hid (h.kept ((Below.refl _ w).alloc (Nat.le_refl _) (.cells (cL c) 24)))
  clear h hc
  cases hq : cntM r with
  | error x =>
    have HE : Hid (progM c r = .error x) := Lib.hid (by unfold progM; rw [hq]; rfl)
    have HQ := Lib.hid hq
    rcases cnt_err hq with rfl | rfl
    all_goals
      clear hq
      go_enter Tryd.func40, Tryd.ntmps40
      go_wp2_with (go_at_call 49; refine (count_any b1 b2 r _ H.out).mono ?_; rintro e w1 ⟨ho1, h1⟩; rw [HQ.out] at h1; subst h1)
      go_ret2
      rw [HE.out]
      exact ⟨(K0.out.only ho1 hb2).kept, rfl⟩
  | ok p =>
    obtain ⟨n, r'⟩ := p
    have hn := (cnt_inv hq).2
    have HQ := Lib.hid hq
    by_cases hs : r'.length < n
    · have HE : Hid (progM c r = .error 3) := Lib.hid (by unfold progM; rw [hq]; simp only [progK]; rw [if_pos hs])
      clear hq
      go_enter Tryd.func40, Tryd.ntmps40
      go_wp2_with fail
      refine (count_any b1 b2 r _ H.out).mono ?_
      rintro e w1 ⟨ho1, h1⟩
      rw [HQ.out] at h1
      obtain ⟨rfl, hn1⟩ := h1
      go_wp2_with fail
      refine (next_short r' n _ hn1 hs).mono ?_
      rintro e w2 ⟨rfl, rfl⟩
      go_wp2
      go_ret2
      rw [HE.out]
      exact ⟨(K0.out.only ho1 hb2).kept, rfl⟩
    · have hl := prs_len (r'.take n)
      have hsz : (ByteArray.mk (r'.take n).toArray).data.toList = r'.take n := by simp
      have hlen : (r'.take n).length ≤ n := List.length_take_le _ _
      have HP := Lib.hid (fun w => parse_own ⟨(r'.take n).toArray⟩ w (by have e : (ByteArray.mk (r'.take n).toArray).size = (ByteArray.mk (r'.take n).toArray).data.toList.length := rfl; rw [e, hsz]; omega))
      rw [hsz] at HP
      by_cases h0 : (prs (r'.take n)).2 = 0
      · by_cases hf : fitsB c (prs (r'.take n)).1 = true
        · have HE : Hid (progM c r = .ok ((prs (r'.take n)).1, r'.drop n)) := Lib.hid (by unfold progM; rw [hq]; simp only [progK]; rw [if_neg hs, if_pos h0, if_pos hf])
          rw [h0] at HP
          clear hq h0
          generalize prs (r'.take n) = q at *
          go_enter Tryd.func40, Tryd.ntmps40
          go_wp2_with fail
          refine (count_any b1 b2 r _ H.out).mono ?_
          rintro e w1 ⟨ho1, h1⟩
          rw [HQ.out] at h1
          obtain ⟨rfl, hn1⟩ := h1
          have K1 := Lib.hid (K0.out.only ho1 hb2)
          clear ho1
          go_wp2_with fail
          refine (next_n n r' _ hn1 (by omega)).mono ?_
          rintro e w2 ⟨rfl, hn2, ho2⟩
          have K2 := Lib.hid (K1.out.only ho2 hb2)
          clear ho2 hn1
          go_wp2_with fail
          refine (HP.out _).mono ?_
          rintro e w3 ⟨v, rfl, hv, hb3⟩
          have K3 := Lib.hid (K2.out.step hb3 hb2)
          have hn3 := Lib.hid (hn2.kept hb3)
          have hc3 := K3.out.cell
          clear hb3 hn2
          have HV := Lib.hid hv
          obtain ⟨pa, cap, rfl⟩ := (ops_of_own hv).form
          have HF := Lib.hid hf
          clear hv hf
          go_wp2_with fail
          refine (fits_any c _ _ _ HC.out (ops_of_own HV.out) (by omega)).mono ?_
          rintro e w4 ⟨rfl, hb4⟩
          have K4 := Lib.hid (K3.out.step hb4 hb2)
          have hn4 := Lib.hid (hn3.out.kept hb4)
          have hv4 := Lib.hid (own_below (own_base HV.out (base' := w.heap.size) (by have := K2.out.size; omega)) hb4)
          clear hb4 hc3
          rw [HF.out]
          go_wp2
          go_ret2
          rw [HE.out]
          exact ⟨K4.out.kept, _, rfl, hv4.out, hn4.out⟩
        · have HE : Hid (progM c r = .error 5) := Lib.hid (by unfold progM; rw [hq]; simp only [progK]; rw [if_neg hs, if_pos h0, if_neg hf])
          have hf : fitsB c (prs (r'.take n)).1 = false := by simpa using hf
          rw [h0] at HP
          clear hq h0
          generalize prs (r'.take n) = q at *
          go_enter Tryd.func40, Tryd.ntmps40
          go_wp2_with fail
          refine (count_any b1 b2 r _ H.out).mono ?_
          rintro e w1 ⟨ho1, h1⟩
          rw [HQ.out] at h1
          obtain ⟨rfl, hn1⟩ := h1
          have K1 := Lib.hid (K0.out.only ho1 hb2)
          clear ho1
          go_wp2_with fail
          refine (next_n n r' _ hn1 (by omega)).mono ?_
          rintro e w2 ⟨rfl, hn2, ho2⟩
          have K2 := Lib.hid (K1.out.only ho2 hb2)
          clear ho2 hn1
          go_wp2_with fail
          refine (HP.out _).mono ?_
          rintro e w3 ⟨v, rfl, hv, hb3⟩
          have K3 := Lib.hid (K2.out.step hb3 hb2)
          have hn3 := Lib.hid (hn2.kept hb3)
          have hc3 := K3.out.cell
          clear hb3 hn2
          have HV := Lib.hid hv
          obtain ⟨pa, cap, rfl⟩ := (ops_of_own hv).form
          have HF := Lib.hid hf
          clear hv hf
          go_wp2_with fail
          refine (fits_any c _ _ _ HC.out (ops_of_own HV.out) (by omega)).mono ?_
          rintro e w4 ⟨rfl, hb4⟩
          have K4 := Lib.hid (K3.out.step hb4 hb2)
          have hn4 := Lib.hid (hn3.out.kept hb4)
          have hv4 := Lib.hid (own_below (own_base HV.out (base' := w.heap.size) (by have := K2.out.size; omega)) hb4)
          clear hb4 hc3
          rw [HF.out]
          go_wp2
          go_ret2
          rw [HE.out]
          exact ⟨K4.out.kept, rfl⟩
      · have HE : Hid (progM c r = .error (prs (r'.take n)).2) := Lib.hid (by unfold progM; rw [hq]; simp only [progK]; rw [if_neg hs, if_neg h0])
        have h0 : ((prs (r'.take n)).2 != 0) = true := by simpa using h0
        clear hq
        generalize prs (r'.take n) = q at *
        go_enter Tryd.func40, Tryd.ntmps40
        go_wp2_with fail
        refine (count_any b1 b2 r _ H.out).mono ?_
        rintro e w1 ⟨ho1, h1⟩
        rw [HQ.out] at h1
        obtain ⟨rfl, hn1⟩ := h1
        have K1 := Lib.hid (K0.out.only ho1 hb2)
        clear ho1
        go_wp2_with fail
        refine (next_n n r' _ hn1 (by omega)).mono ?_
        rintro e w2 ⟨rfl, hn2, ho2⟩
        have K2 := Lib.hid (K1.out.only ho2 hb2)
        clear ho2 hn1
        go_wp2_with fail
        refine (HP.out _).mono ?_
        rintro e w3 ⟨v, rfl, hv, hb3⟩
        have K3 := Lib.hid (K2.out.step hb3 hb2)
        have hn3 := Lib.hid (hn2.kept hb3)
        have hc3 := K3.out.cell
        clear hb3 hn2
        clear hc3
        go_wp2
        go_ret2
        rw [HE.out]
        exact ⟨K3.out.kept, rfl⟩

end Go.Proofs.YtjnbpohjdgnknaaDoor
