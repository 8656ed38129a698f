/-
  TableOne is true.
-/
import Derived.Test.YtfnemldjhfcalaaTbW
import Derived.Test.YtfnemldjhfcalaaTbP
namespace Go.Proofs.Ytfnemldjhfcalaa
open Go Go.RowKit Go.Sort

theorem Bx.tail {w wr : World} {p : Nat × Array Value × TypeId} {G : List (Nat × Array Value × TypeId)} (h : Bx w (p :: G) wr) : Bx w G wr := ⟨fun q hq => h.box q (.tail _ hq), h.below⟩
theorem MsIn.first {w : World} {p : Option Addr} {l : List Msg} (h : MsIn w p l) (x : Msg) (hx : l[0]? = some x) : ∃ k, p = some ⟨k, 0, none⟩ ∧ k < w.heap.size ∧ w.rangeAt k 0 (mcells x).toList := by
  obtain ⟨k, e, hk, hr⟩ := h 0 x hx
  rw [Nat.zero_mul] at hr
  exact ⟨k, e, hk, hr⟩
/-- What a law answers. -/
def Yes (w : World) (r : Ending) (w' : World) : Prop := r = .returned (.bool true) ∧ Below w.heap.size w w'
/-- The three boxes of a law's call. -/
theorem Bx.three (w : World) (A B C : Array Value) (tA tB tC : TypeId) : Bx w [(w.heap.size + 1 + 1, C, tC), (w.heap.size + 1, B, tB), (w.heap.size, A, tA)] (((w.alloc (.cells A tA)).alloc (.cells B tB)).alloc (.cells C tC)) :=
  (((Bx.start w).addAt A tA w.heap.size rfl).addAt B tB (w.heap.size + 1) (by simp)).addAt C tC (w.heap.size + 1 + 1) (by simp)

/-- The last one that was told, behind so many messages. -/
def lastV (L : List Int) (k : Nat) : Int := if k ≤ 1 then -1 else L.getD (k - 2) 0
theorem last_less {e : En} {m : Msg} {t : Tn} {X : Msg} {L : List Int} (h : Fine e m t X L) {j : Nat} (hj : j < L.length) : lastV L (j + 1) < L.getD j 0 := by
  unfold lastV
  have hm : ∀ i, i < L.length → L.getD i 0 ∈ L := fun i hi => by
    rw [List.getD_eq_getElem?_getD, List.getElem?_eq_getElem hi]
    exact List.getElem_mem hi
  split
  · have := (h.oth _ (hm j hj)).1
    omega
  · have hp := List.pairwise_iff_getElem.1 h.up (j + 1 - 2) j (by omega) hj (by omega)
    rw [List.getD_eq_getElem?_getD, List.getD_eq_getElem?_getD, List.getElem?_eq_getElem (show j + 1 - 2 < L.length by omega), List.getElem?_eq_getElem hj]
    exact hp
theorem last_next (L : List Int) (j : Nat) : lastV L (j + 1 + 1) = L.getD j 0 := by
  unfold lastV
  rw [if_neg (by omega)]
  rfl
theorem invs_at (m : Msg) (L : List Int) (j : Nat) (hj : j < L.length) : (invs m L)[j]? = some (sendM m (invM m (L.getD j 0))) := by
  unfold invs
  rw [List.getElem?_map, List.getElem?_eq_getElem hj, List.getD_eq_getElem?_getD, List.getElem?_eq_getElem hj]
  rfl

set_option maxRecDepth 100000 in
set_option maxHeartbeats 4000000 in
theorem tableOne_any (e : En) (p : Option Addr) (cap : Nat) (m : Msg) (v : W8) (w : World) (hl : e.s.l.length ≤ 9223372036854775807) (hn : NumsIn w p e.s.l) :
    Calls Try.prog 4 #[ev e p cap, mv m, .agg (wcells v)] w (Yes w) := by
  have B0 := Bx.three w (ecells e p cap) (mcells m) (wcells v) 26 30 28
  have HN := Lib.hid hn
  clear hn
  by_cases hlen : e.s.l.length ≤ 100
  rotate_left
  · have hq : (100 : Int) < (e.s.l.length : Int) := by omega
    clear hlen
    go_enter Try.func4, Try.ntmps4
    go_wp2_with (go_at_call 6; refine (tawake_any _).mono ?_; rintro _ w1 ⟨rfl, hb1⟩; have B1 := B0.step hb1; have hcE := B1.cells (.tail _ (.tail _ (.head _))); clear hb1)
    go_ret
    exact ⟨rfl, B1.below⟩
  have hq : ¬ (100 : Int) < (e.s.l.length : Int) := by omega
  have hl5 : e.s.l.length ≤ 5000 := by omega
  rcases next_fine e m v with ⟨err, hN, hne⟩ | ⟨-, t, X, L, hN, hF⟩
  · have HT := Lib.hid (show nextT e m v = (tZ, err) from hN)
    have hne' : (err != 0) = true := by simpa using hne
    clear hN hne
    go_enter Try.func4, Try.ntmps4
    go_wp2_with (first
      | (go_at_call 6; refine (tawake_any _).mono ?_; rintro _ w1 ⟨rfl, hb1⟩; have B1 := B0.step hb1; have hcE := B1.cells (.tail _ (.tail _ (.head _))); have hcM := B1.cells (.tail _ (.head _)); have hcW := B1.cells (.head _); clear hb1)
      | (go_at_call 9; refine (next_is HT.out p cap _ (HN.out.step B1.below) hl5).mono ?_; rintro _ w2 ⟨pt, ct, q, qc, rfl, -, -, hb2⟩; have B2 := B1.step hb2; clear hb2 hcE hcM hcW))
    go_ret
    exact ⟨rfl, bstep B2.below (balloc _ _)⟩
  have HT := Lib.hid hN
  have HF := Lib.hid hF
  obtain ⟨N, hNN⟩ : ∃ N, N = t.sent.length := ⟨_, rfl⟩
  have hsl : N = L.length + 1 := by rw [hNN, hF.sent]; simp [invs_len]
  have hN1 : 1 ≤ N := by omega
  have hN65 : N ≤ 65 := by have := hF.len; omega
  have hz : ((N : Int) == 0) = false := by simp; omega
  have hw : IntKind.i64.wrap ((N : Int) - 1) = (L.length : Int) := by rw [IntKind.wrap_i64]; omega
  have hw2 : RowKit.wrap64 ((N : Int) - 1) = (L.length : Int) := by simp only [RowKit.wrap64]; omega
  have hac : (X.ac != (L.length : Int)) = false := by simpa using hF.ac
  have htl : t.e.s.l.length ≤ 5000 := by
    have := (may_bounds (may_parts hF.may).1).2.2.2.2
    omega
  have HMAY := Lib.hid hF.may
  have HSL := Lib.hid hsl
  have HNN := Lib.hid hNN
  have hto : (X.to != m.fr) = false ∨ ((X.to != m.fr) = true ∧ (X.wh != m.fr) = false ∧ (X.to != e.ow) = false) := by
    by_cases h : X.to = m.fr
    · left; simpa using h
    · right
      rcases hF.to with h1 | ⟨h1, h2⟩
      · exact absurd h1 h
      · exact ⟨by simpa using h, by simpa using h1, by simpa using h2⟩
  clear hN hF hsl hNN
  rcases hto with h1 | ⟨h1, h2, h3⟩
  all_goals
    go_enter Try.func4, Try.ntmps4
    go_wp2_with (first
      | (go_at_call 6; refine (tawake_any _).mono ?_; rintro _ w1 ⟨rfl, hb1⟩; have B1 := B0.step hb1; have hcE := B1.cells (.tail _ (.tail _ (.head _))); have hcM := B1.cells (.tail _ (.head _)); have hcW := B1.cells (.head _); clear hb1)
      | (go_at_call 9; refine (next_is HT.out p cap _ (HN.out.step B1.below) hl5).mono ?_; rintro _ w2 ⟨pt, ct, q, qc, rfl, hn2, hm2, hb2⟩; rw [← HNN.out]; have B2 := (B1.step hb2).add (tcells t pt ct (.slice q N qc)) 42; have hbT := balloc w2 (.cells (tcells t pt ct (.slice q N qc)) 42); have HN2 := Lib.hid (hn2.step hbT); have HM2 := Lib.hid (hm2.step hbT); clear hb2 hcE hcM hcW hn2 hm2 hbT)
      | (go_at_call 13; (refine (tmay_is HMAY.out pt ct _ htl HN2.out).mono ?_; rintro _ w3 ⟨rfl, hb3⟩; have B3 := B2.step hb3; have HM3 := Lib.hid (HM2.out.step hb3); obtain ⟨kq, rfl, hkq, hr0⟩ := HM3.out.first (sendM m X) (by rw [HF.out.sent]; rfl); have HR := Lib.hid (show w3.rangeAt kq 0 (scells m X).toList from hr0); have hcT := B3.cells (.head _); have hcM := B3.cells (.tail _ (.tail _ (.head _))); have hcE := B3.cells (.tail _ (.tail _ (.tail _ (.head _)))); have l0 : w2.heap.size < w3.heap.size := lt_of_block (B3.box _ (.head _)); have l1 : w.heap.size + 1 < w3.heap.size := lt_of_block (B3.box _ (.tail _ (.tail _ (.head _)))); have l2 : w.heap.size < w3.heap.size := lt_of_block (B3.box _ (.tail _ (.tail _ (.tail _ (.head _))))); clear hb3 hr0))
      | ((with_reducible refine wpList_load_at (op := ⟨some 51, _, _, _, _, _⟩) rfl 30 (.tmp 50) rfl kq 0 ?sx (scells m X) _ ?sc Try.underlying30 ?sd ?si ?_); (case sx => rfl); (case sc => exact HR.out); (case sd => rfl); (case si => kernel_rfl)))
    have B4 := B3.tail.step (balloc w3 (.cells (scells m X) 30))
    have HM4 := Lib.hid (HM3.out.step (balloc w3 (.cells (scells m X) 30)))
    go_loopw [10, 83] (fun a i wr => ∃ k : Nat, k ≤ N ∧ i = .int .i64 k ∧ a = .int .i64 (lastV L k) ∧ Bx w [(w.heap.size + 1 + 1, wcells v, 28), (w.heap.size + 1, mcells m, 30), (w.heap.size, ecells e p cap, 26)] wr ∧ MsIn wr (some ⟨kq, 0, none⟩) t.sent) (fun _ i _ => N - (intOf i).toNat)
    case atStart => exact ⟨0, Nat.zero_le _, rfl, rfl, B4, HM4.out⟩
    case round =>
      obtain ⟨k, hk, rfl, rfl, B5, hm5⟩ := hrel
      clear B4 HM4 B3 HM3 hcT hcM hcE l0 l1 l2 B2 HN2 HM2 HR hkq h1
      have hcM := B5.cells (.tail _ (.head _))
      have hcE := B5.cells (.tail _ (.tail _ (.head _)))
      have l1 : w.heap.size + 1 < wr.heap.size := lt_of_block (B5.box _ (.tail _ (.head _)))
      have l2 : w.heap.size < wr.heap.size := lt_of_block (B5.box _ (.tail _ (.tail _ (.head _))))
      by_cases hlt : k < N
      · rcases Nat.eq_zero_or_pos k with rfl | hk0
        · obtain ⟨kq', e', -, hr0⟩ := hm5.first (sendM m X) (by rw [HF.out.sent]; rfl)
          cases e'
          have HR := Lib.hid (show wr.rangeAt kq 0 (scells m X).toList from hr0)
          have hkd : (X.kd == 6) = false := by simpa using HF.out.kd
          have HM5 := Lib.hid hm5
          clear hr0 hm5
          go_wp2_with ((with_reducible refine wpList_load_at (op := ⟨some 87, _, _, _, _, _⟩) rfl 30 (.tmp 86) rfl kq 0 ?sx (scells m X) _ ?sc Try.underlying30 ?sd ?si ?_); (case sx => rfl); (case sc => exact HR.out); (case sd => rfl); (case si => kernel_rfl))
          go_roundw
          case rel => exact ⟨1, hN1, by go_num, rfl, B5.step (balloc _ _), HM5.out.step (balloc _ _)⟩
          case measure => simp [intOf]; omega
        · obtain ⟨j, rfl⟩ : ∃ j, k = j + 1 := ⟨k - 1, by omega⟩
          have hj : j < L.length := by have := HSL.out; omega
          have hnext := last_next L j
          have hles := last_less HF.out hj
          have hin : L.getD j 0 ∈ L := by
            rw [List.getD_eq_getElem?_getD, List.getElem?_eq_getElem hj]
            exact List.getElem_mem hj
          obtain ⟨-, hy2, hy3, hy4⟩ := HF.out.oth _ hin
          obtain ⟨kq', e', -, hr0⟩ := hm5 (j + 1) (sendM m (invM m (L.getD j 0))) (by rw [HF.out.sent, List.getElem?_cons_succ]; exact invs_at m L j hj)
          cases e'
          have HNX := Lib.hid hnext
          have HR := Lib.hid (show wr.rangeAt kq ((j + 1) * 15) (scells m (invM m (L.getD j 0))).toList from hr0)
          generalize L.getD j 0 = y at *
          obtain ⟨K1, hK1⟩ : ∃ K1 : Nat, K1 = j + 1 := ⟨_, rfl⟩
          rw [← hK1] at hlt hk hk0 HR hles HNX
          rw [← hK1]
          have hle : ¬ y ≤ lastV L K1 := by omega
          generalize lastV L K1 = z at *
          have q1 : (y == m.fr) = false := by simpa using hy2
          have q2 : (y == e.ow) = false := by simpa using hy3
          have hp : (0 : Int) < (K1 : Int) := by omega
          have hp2 : ((K1 : Int) == 0) = false := by simp; omega
          have HY := Lib.hid hy4
          have HM5 := Lib.hid hm5
          clear hr0 hm5 hin hy2 hy3 hy4 hnext hles hK1 hj
          go_wp2_with (first
            | ((with_reducible refine wpList_load_at (op := ⟨some 87, _, _, _, _, _⟩) rfl 30 (.tmp 86) rfl kq (K1 * 15) ?sx #[.int .i64 6, .int .i64 m.ln, .int .i64 m.to, .int .i64 y, .int .i64 m.fr, .int .i64 0, .int .i64 0, .int .i64 0, .int .i64 0, .int .i64 0, .int .i64 0, .int .i64 0, .int .i64 0, .int .i64 0, .int .i64 0] _ ?sc Try.underlying30 ?sd ?si ?_); (case sx => rfl); (case sc => exact HR.out); (case sd => rfl); (case si => kernel_rfl))
            | (go_at_call 16; refine (has_is (s := e.s) HY.out p cap _ (HN.out.step (bstep B5.below (balloc wr _))) hl5).mono ?_; rintro _ w6 ⟨rfl, hb6⟩; have B6 := (B5.step (balloc wr _)).step hb6; have HM6 := Lib.hid ((HM5.out.step (balloc wr _)).step hb6); have hcX := (fun o => (hb6.cell (p := ⟨wr.heap.size, o, none⟩) (by simp)).trans (World.cell?_alloc_mark wr _ 30 (0, 0) o)); clear hb6))
          go_roundw
          case rel => exact ⟨K1 + 1, by omega, by go_num, by rw [HNX.out], B6, HM6.out⟩
          case measure => simp [intOf]; omega
      · go_wp2
        go_ret
        exact ⟨rfl, B5.below⟩

end Go.Proofs.Ytfnemldjhfcalaa
