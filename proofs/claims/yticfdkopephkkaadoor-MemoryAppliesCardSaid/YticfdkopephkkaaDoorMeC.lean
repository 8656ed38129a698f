/-
  Where a line's words are kept, how they are laid, and what Line of a memory does.
-/
import Derived.Test.YticfdkopephkkaaDoorMeB
namespace Go.Proofs.YticfdkopephkkaaDoor
open Go Go.RowKit

theorem part_no {w : World} {b g : Nat} {c : Cfg} {L : List Int} (h : Mm w b g c L) (hT : Tb w) (line : Int) (hl : lnOk c line = false) :
    Calls Tryd.prog 18 #[.pointer (some ⟨b, 0, none⟩), .int .i64 line] w fun e w' => e = .returned (.tuple #[.slice none 0 0, .int .i64 1]) ∧ Below w.heap.size w w' := by
  have HJ := Lib.hid (joinS_any c line 0 w h.fits hT)
  rw [(joOk_no1 (x := 0) hl).1, (joOk_no1 (x := 0) hl).2] at HJ
  have hcc := blk_cell h.hb
  clear h hT hl
  go_enter Tryd.func18, Tryd.ntmps18
  go_wp2_with (go_at_call 24; refine HJ.out.mono ?_; rintro e w1 ⟨rfl, hb1⟩)
  go_ret2
  exact ⟨rfl, hb1⟩

theorem ret_slice {g o o' n n' c c' : Nat} (h1 : o = o') (h2 : n = n') (h3 : c = c') : Ending.returned (.tuple #[.slice (some ⟨g, o, none⟩) n c, .int .i64 0]) = .returned (.tuple #[.slice (some ⟨g, o', none⟩) n' c', .int .i64 0]) := by rw [h1, h2, h3]
set_option maxHeartbeats 1000000 in
/-- Where a line's words lie. -/
theorem part_yes {w : World} {b g : Nat} {c : Cfg} {L : List Int} (h : Mm w b g c L) (hT : Tb w) (line : Int) (hl : lnOk c line = true) {F N : Nat} (hF : line * c.wo = F) (hN : c.wo = N) (h1 : 1 ≤ N) (hle : F + N ≤ L.length) (h8 : L.length ≤ 8192) :
    Calls Tryd.prog 18 #[.pointer (some ⟨b, 0, none⟩), .int .i64 line] w fun e w' => e = .returned (.tuple #[.slice (some ⟨g, F, none⟩) N (L.length - F), .int .i64 0]) ∧ Below w.heap.size w w' := by
  have HJ := Lib.hid (joinS_any c line 0 w h.fits hT)
  have h0 : inR 0 c.wo = true := by simp [inR]; omega
  rw [(joOk_yes (x := 0) hl h0).1, (joOk_yes (x := 0) hl h0).2, hF, Int.add_zero] at HJ
  have hcc := blk_cell h.hb
  have HC : Hid (∀ w1, Below w.heap.size w w1 → w1.cell? ⟨b, 13, none⟩ = some (.slice (some ⟨g, 0, none⟩) L.length L.length) ∧ w1.cell? ⟨b, 4, none⟩ = some (.int .i64 (N : Int))) := Lib.hid (fun w1 hb => by
    have q4 := blk_cell (h.below hb).hb 4
    have q13 := blk_cell (h.below hb).hb 13
    simp at q4 q13
    rw [hN] at q4
    exact ⟨q13, q4⟩)
  clear h hT hl hF h0 hN
  generalize L.length = n at *
  have hFn : F < n := by omega
  have hbig : (F : Int) + (N : Int) ≤ 9223372036854775807 := by omega
  clear h8
  go_enter Tryd.func18, Tryd.ntmps18
  go_wp2_with (go_at_call 24; refine HJ.out.mono ?_; rintro e w1 ⟨rfl, hb1⟩)
  obtain ⟨c13, c4⟩ := HC.out _ hb1
  go_region
  all_goals
    go_wp2
    go_ret2
    refine ⟨?_, hb1.drew⟩
    exact ret_slice (by omega) (by omega) (by omega)

/-- Eight cells of 0. -/
def zs : List Value := (dcells d0).toList
theorem lay_splice (l : List Int) (h : l.length ≤ 8) : (splice zs 0 (icells l)).toArray = dcells (lay l) := by
  match l, h with
  | [], _ | [_], _ | [_, _], _ | [_, _, _], _ | [_, _, _, _], _ | [_, _, _, _, _], _ | [_, _, _, _, _, _], _ | [_, _, _, _, _, _, _], _ | [_, _, _, _, _, _, _, _], _ => rfl
  | _ :: _ :: _ :: _ :: _ :: _ :: _ :: _ :: _ :: l, h => simp at h

theorem add_plain (g o j : Nat) : (⟨g, o, none⟩ : Addr).add j = ⟨g, o + j, none⟩ := by simp [Addr.add]

set_option maxHeartbeats 1000000 in
theorem laid_any (l : List Int) (h8 : l.length ≤ 8) (gs o cap : Nat) (w : World) (hs : w.rangeAt gs o (icells l)) :
    Calls Tryd.prog 19 #[.slice (some ⟨gs, o, none⟩) l.length cap] w fun e w' => e = .returned (.agg (dcells (lay l))) ∧ Below w.heap.size w w' := by
  obtain ⟨D, hD⟩ : ∃ D, D = lay l := ⟨_, rfl⟩
  have HL := Lib.hid (lay_splice l h8)
  rw [← hD] at HL
  rw [← hD]
  have H1 := Lib.hid (icells_one l)
  have HN := Lib.hid (icells_len l)
  have H0 := Lib.hid (heap_alloc_new w (.cells (dcells d0) 34))
  have HS : Hid (∀ (o1 o2 : Obj) (j : Nat) (v : Value), (icells l)[j]? = some v → ((w.alloc o1).alloc o2).cell? ((⟨gs, o, none⟩ : Addr).add j) = some v) := Lib.hid (fun o1 o2 j v hv => by
    rw [add_plain]
    exact Lib.cell?_alloc_some _ (Lib.cell?_alloc_some _ (hs j v hv)))
  clear hs hD
  generalize icells l = cs at *
  generalize l.length = N at *
  go_enter Tryd.func19, Tryd.ntmps19
  go_wp2_with (first | ((with_reducible refine wpList_copy_splice (o := ⟨some 6, _, _, _, _, _⟩) rfl (.tmp 4) (.tmp 5) 51 51 rfl 3 Tryd.underlying51 ?sz (some ⟨w.heap.size + 1, 0, none⟩) (some ⟨gs, o, none⟩) 8 8 N cap ?hd ?hs (w.heap.size + 1) 0 zs 34 ?hg cs ?hn ?hp ?hf H1.out (w.heap.size + 1) ((w.alloc (.cells (dcells d0) 34)).alloc (.cells (dcells d0) 34)) ?hb ?hB ?_); (case sz => kernel_rfl); (case hd => rfl); (case hs => rfl); (case hg => exact heap_alloc2_new w _ _); (case hn => rw [HN.out]; exact (Nat.min_eq_left h8).symm); (case hp => exact fun _ => ⟨rfl, _, rfl, HS.out _ _⟩); (case hf => show 0 + cs.length ≤ 8; rw [HN.out]; omega); (case hb => exact Below.refl _ _); (case hB => exact Nat.le_refl _); intro w2 HG2 hB2; rw [HL.out] at HG2; have hcc := blk_cell HG2.out; have h2 : w2.heap[w.heap.size]? = some (.cells (dcells d0) 34 (0, 0)) := (hB2.block w.heap.size (by omega)).trans ((heap_alloc_old _ _ (by simp)).trans H0.out)) | ((with_reducible refine wpList_store_row (o := ⟨none, _, _, _, _, _⟩) rfl 34 (.tmp 2) (.tmp 7) rfl w.heap.size (dcells D) ?sx ?sy 34 ?old ?sg ?si ?so ?s1 ?_); (case sx => rfl); (case sy => rfl); (case old => exact dcells d0); (case sg => exact h2); (case si => kernel_rfl); (case so => rfl); (case s1 => kernel_rfl)))
  refine bodyPost_ret (v := .agg (dcells D)) ?_ rfl ⟨rfl, ?_⟩
  · exact results_cell_row Tryd.results19 _ _ w.heap.size 34 _ (0, 0) _ rfl (setRow_heap _ _ _ _ _ _ h2) Tryd.underlying34 rfl (by kernel_rfl)
  · exact below_setRow (((balloc w _).alloc (by simp) _).trans (hB2.mono (by omega))) (Nat.le_refl _) _

end Go.Proofs.YticfdkopephkkaaDoor
