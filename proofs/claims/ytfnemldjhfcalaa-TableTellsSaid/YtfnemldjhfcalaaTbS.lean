/-
  Entries told twice, messages told twice; an entry of the document's.
-/
import Derived.Test.YtfnemldjhfcalaaTbH
import Derived.Test.YtfnemldjhfcalaaShR
import Derived.Test.YtfnemldjhfcalaaMsEq
import Derived.Deep.QuietTactic
namespace Go.Proofs.Ytfnemldjhfcalaa
open Go Go.RowKit Go.Sort

set_option maxHeartbeats 1000000 in
theorem tsame_yes (e : En) (p q : Option Addr) (cp cq : Nat) (w : World) (hl : e.s.l.length ≤ 5000) (h1 : NumsIn w p e.s.l) (h2 : NumsIn w q e.s.l) :
    Calls Try.prog 12 #[ev e p cp, ev e q cq] w fun r w' => r = .returned (.bool true) ∧ Below w.heap.size w w' := by
  have K := H2.box w (ecells e p cp) (ecells e q cq) 26 37
  have hcA := K.cellsA
  have hcB := K.cellsB
  have H1 := Lib.hid (h1.step K.below)
  have HQ := Lib.hid (h2.step K.below)
  have he : (e.ow == e.ow) = true := by simp
  clear h1 h2
  go_enter Try.func12, Try.ntmps12
  go_wp2_with (go_at_call 26; refine (refSame_yes e.s p q cp cq _ hl H1.out HQ.out).mono ?_; rintro _ w1 ⟨rfl, hb1⟩; have K2 := K.step hb1; clear hcA hcB K hb1)
  go_ret
  exact ⟨rfl, K2.below⟩

theorem own13_any (e : En) (p : Option Addr) (cap : Nat) (w : World) :
    Calls Try.prog 11 #[ev e p cap] w fun r w' => r = .returned (ev e p cap) ∧ Below w.heap.size w w' := by
  have K := H2.box w (ecells e p cap) zec 26 37
  have hcA := K.cellsA
  go_enter Try.func11, Try.ntmps11
  go_wp2_with ((with_reducible refine wpList_store_row (o := ⟨none, _, _, _, _, _⟩) rfl 37 (.tmp 2) (.tmp 7) rfl (w.heap.size + 1) (ecells e p cap) ?sx ?sy 37 zec ?sg ?si ?so ?s1 ?_); (case sx => rfl); (case sy => rfl); (case sg => exact K.b); (case si => kernel_rfl); (case so => rfl); (case s1 => kernel_rfl))
  exact bodyPost_ret (v := .agg (ecells e p cap)) (results_cell_row Try.results11 _ _ (w.heap.size + 1) 37 _ (0, 0) _ rfl (setRow_heap _ _ _ _ _ _ K.b) Try.underlying37 rfl (by kernel_rfl)) rfl ⟨rfl, below_setRow K.below (by omega) _⟩

theorem cells15 {w : World} {g o : Nat} {x : Msg} (h : w.rangeAt g o (mcells x).toList) :
    w.cell? ⟨g, o, none⟩ = some (.int .i64 x.kd) ∧ w.cell? ⟨g, o + 1, none⟩ = some (.int .i64 x.ln) ∧ w.cell? ⟨g, o + 2, none⟩ = some (.int .i64 x.fr) ∧ w.cell? ⟨g, o + 3, none⟩ = some (.int .i64 x.to) ∧ w.cell? ⟨g, o + 4, none⟩ = some (.int .i64 x.wh) ∧
    w.cell? ⟨g, o + 5, none⟩ = some (.int .i64 x.ac) ∧ w.cell? ⟨g, o + 6, none⟩ = some (.int .i64 x.ow) ∧ w.cell? ⟨g, o + 7, none⟩ = some (.int .i64 x.w0) ∧ w.cell? ⟨g, o + 8, none⟩ = some (.int .i64 x.w1) ∧ w.cell? ⟨g, o + 9, none⟩ = some (.int .i64 x.w2) ∧
    w.cell? ⟨g, o + 10, none⟩ = some (.int .i64 x.w3) ∧ w.cell? ⟨g, o + 11, none⟩ = some (.int .i64 x.w4) ∧ w.cell? ⟨g, o + 12, none⟩ = some (.int .i64 x.w5) ∧ w.cell? ⟨g, o + 13, none⟩ = some (.int .i64 x.w6) ∧ w.cell? ⟨g, o + 14, none⟩ = some (.int .i64 x.w7) :=
  ⟨h 0 _ rfl, h 1 _ rfl, h 2 _ rfl, h 3 _ rfl, h 4 _ rfl, h 5 _ rfl, h 6 _ rfl, h 7 _ rfl, h 8 _ rfl, h 9 _ rfl, h 10 _ rfl, h 11 _ rfl, h 12 _ rfl, h 13 _ rfl, h 14 _ rfl⟩

set_option maxRecDepth 100000 in
set_option maxHeartbeats 2000000 in
theorem msame_any (p q : Option Addr) (cap cap' N : Nat) (L : List Msg) (w : World) (hN : L.length = N) (hN64 : N ≤ 1000) (h1 : MsIn w p L) (h2 : MsIn w q L) :
    Calls Try.prog 15 #[.slice p N cap, .slice q N cap'] w fun e w' => e = .returned (.bool true) ∧ Below w.heap.size w w' := by
  have H1 := Lib.hid h1
  have H2 := Lib.hid h2
  have HN := Lib.hid hN
  have hne : ((N : Int) != (N : Int)) = false := by simp
  clear h1 h2 hN
  go_enter Try.func15, Try.ntmps15
  go_wp2
  go_loopw [5] (fun i wr => ∃ k : Nat, k ≤ N ∧ i = .int .i64 k ∧ ∃ n, wr = w.drewN n) (fun i _ => N - (intOf i).toNat)
  case atStart => exact ⟨0, Nat.zero_le _, rfl, 0, rfl⟩
  case round =>
    obtain ⟨k, hk, rfl, n, rfl⟩ := hrel
    by_cases hlt : k < N
    · obtain ⟨x, hx⟩ : ∃ x, L[k]? = some x := ⟨_, List.getElem?_eq_getElem (by rw [HN.out]; exact hlt)⟩
      obtain ⟨g, rfl, hg, hr⟩ := H1.out k x hx
      obtain ⟨g', rfl, hg', hr'⟩ := H2.out k x hx
      obtain ⟨a0, a1, a2, a3, a4, a5, a6, a7, a8, a9, a10, a11, a12, a13, a14⟩ := cells15 hr
      obtain ⟨b0, b1, b2, b3, b4, b5, b6, b7, b8, b9, b10, b11, b12, b13, b14⟩ := cells15 hr'
      have hq := msg_neq x
      clear hx hr hr'
      go_wp2
      go_quiet (fail)
      go_wp2
      go_roundw
      case rel => exact ⟨k + 1, by omega, by go_num, _, rfl⟩
      case measure => simp [intOf]; omega
    · go_wp2
      go_ret
      exact ⟨rfl, below_drewN (Below.refl _ _) _⟩

end Go.Proofs.Ytfnemldjhfcalaa
