/-
  What Same does with two scripts that are the same, the document's.
-/
import Derived.Test.YtjnbpohjdgnknaaDoorScK
import Derived.Laws.StructEq
import Derived.ChangeKeysEq
namespace Go.Proofs.YtjnbpohjdgnknaaDoor
open Go Go.RowKit

theorem infoInt : (Tryd.prog.info? 3).map (fun i => (i.zero, i.size, i.bytes)) = some (some (.int .i64 0), 1, 8) := by kernel_rfl
/-- Arrays of three numbers are compared number by number. -/
theorem arr_eq (d : Nat) (a b c a' b' c' : Int) (w : World) : (Op.equalIn (d + 2) 22 (.agg #[.int .i64 a, .int .i64 b, .int .i64 c]) (.agg #[.int .i64 a', .int .i64 b', .int .i64 c'])).run Tryd.prog w = .ok (a == a' && (b == b' && c == c')) w := by
  obtain ⟨i0, hi0, hz0, hz1, hz2⟩ := info_parts infoInt
  rw [run_equalIn_array w (d + 1) _ _ Tryd.underlying22 hi0]
  have hc3 : Tryd.prog.cellsOf 3 = 1 := by kernel_rfl
  rw [hc3]
  have hu := Tryd.underlying3
  simp [Op.eqItems, List.range, List.range.loop, go_sem]
  by_cases h1 : a = a' <;> by_cases h2 : b = b' <;> by_cases h3 : c = c' <;> simp [h1, h2, h3]
theorem cfg_eq (c : Cfg) (w : World) : (binOp .neq 24 (cv c) (cv c)).run Tryd.prog w = .ok (.bool false) w := by
  have ha := fun d => arr_eq d c.r0 c.r1 c.r2 c.r0 c.r1 c.r2
  simp [go_sem, ha]

set_option maxRecDepth 100000 in
set_option maxHeartbeats 4000000 in
theorem same_any (s : Scr) (p : Option Addr) (cp : Nat) (q : Option Addr) (cq : Nat) (p' : Option Addr) (cp' : Nat) (q' : Option Addr) (cq' : Nat) (w : World) (hs : ScAt w s p q) (hs' : ScAt w s p' q') (hf : Fine s) :
    Calls Tryd.prog 14 #[sv s p cp q cq, sv s p' cp' q' cq'] w fun e w' => e = .returned (.bool true) ∧ Below w.heap.size w w' := by
  have HF := Lib.hid hf
  have HS := Lib.hid hs
  have HS' := Lib.hid hs'
  have hlp := hf.ps
  have hlk := hf.pk
  clear hs hs' hf
  have hb0 : Hid (Below w.heap.size w ((w.alloc (.cells (sC s p cp q cq) 37)).alloc (.cells (sC s p' cp' q' cq') 37))) := Lib.hid (((Below.refl _ _).alloc (Nat.le_refl _) _).alloc (by simp) _)
  have hx0 : Hid (((w.alloc (.cells (sC s p cp q cq) 37)).alloc (.cells (sC s p' cp' q' cq') 37)).heap[w.heap.size]? = some (.cells (sC s p cp q cq) 37 (0, 0))) := Lib.hid ((heap_old (by simp)).trans (heap_alloc_new w _))
  have hy0 : Hid (((w.alloc (.cells (sC s p cp q cq) 37)).alloc (.cells (sC s p' cp' q' cq') 37)).heap[w.heap.size + 1]? = some (.cells (sC s p' cp' q' cq') 37 (0, 0))) := Lib.hid (new_at2 w _ _)
  have hce := cfg_eq s.c
  go_enter Tryd.func14, Tryd.ntmps14
  go_wp2
  clear hce
  go_loopw [5] (fun i wr => ∃ k : Nat, k ≤ s.ps.length ∧ i = .int .i64 k ∧ Hid (Below w.heap.size w wr) ∧ Hid (wr.heap[w.heap.size]? = some (.cells (sC s p cp q cq) 37 (0, 0))) ∧ Hid (wr.heap[w.heap.size + 1]? = some (.cells (sC s p' cp' q' cq') 37 (0, 0)))) (fun i _ => s.ps.length - (intOf i).toNat)
  case atStart => exact ⟨0, Nat.zero_le _, rfl, hb0, hx0, hy0⟩
  case round =>
    obtain ⟨k, hk, rfl, HB, HX, HY⟩ := hrel
    have hx := blk_cell HX.out
    have hy := blk_cell HY.out
    have hsy := lt_of_block HY.out
    by_cases hlt : k < s.ps.length
    · obtain ⟨g, off, u, rfl, hg, hcu, hou⟩ := (HS.out.ps.step HB.out) k hlt
      obtain ⟨g', off', u', rfl, hg', hcu', hou'⟩ := (HS'.out.ps.step HB.out) k hlt
      have hl := HF.out.l k hlt
      obtain ⟨pa, cap, rfl⟩ := hou.form
      obtain ⟨pa', cap', rfl⟩ := hou'.form
      have HO : Hid (OpsAt wr.drew _ (s.ps.getD k [])) := Lib.hid hou
      have HO' : Hid (OpsAt wr.drew _ (s.ps.getD k [])) := Lib.hid hou'
      have HG := Lib.hid hcu
      have HG' := Lib.hid hcu'
      clear hou hou'
      generalize s.ps.getD k [] = l at *
      go_wp2
      clear hx hy hcu hcu'
      go_region_held3 (fun w' => (∀ o, w'.cell? ⟨w.heap.size, o, none⟩ = (sC s (some ⟨g, off, none⟩) cp q cq)[o]?) ∧ (∀ o, w'.cell? ⟨w.heap.size + 1, o, none⟩ = (sC s (some ⟨g', off', none⟩) cp' q' cq')[o]?) ∧ w'.cell? ⟨g, off + k, none⟩ = some (.slice pa l.length cap) ∧ w'.cell? ⟨g', off' + k, none⟩ = some (.slice pa' l.length cap')) (first | exact ⟨blk_cell HX3.out, blk_cell HY3.out, HG3.out, HG3'.out⟩ | exact ⟨blk_cell HX.out, blk_cell HY.out, HG.out, HG'.out⟩)
        (first
          | (go_at_call 29; refine (sameOps_any l _ _ _ HO.out HO'.out hl).mono ?_; rintro e w3 ⟨rfl, hb3⟩; have HB3 := Lib.hid hb3; have HX3 := Lib.hid ((hb3.block w.heap.size (lt_of_block HX.out)).trans HX.out); have HY3 := Lib.hid ((hb3.block (w.heap.size + 1) hsy).trans HY.out); have HG3 := Lib.hid ((hb3.cell (p := ⟨g, off + k, none⟩) hg).trans HG.out); have HG3' := Lib.hid ((hb3.cell (p := ⟨g', off' + k, none⟩) hg').trans HG'.out); clear hb3))
      have hbb : Hid (Below w.heap.size w w3) := Lib.hid (HB.out.drew.trans (HB3.out.mono (by show w.heap.size ≤ wr.heap.size; omega)))
      go_wp2
      go_roundw
      case rel => exact ⟨k + 1, by omega, by go_num, hbb, HX3, HY3⟩
      case measure => simp [intOf]; omega
    · go_wp2
      clear hx hy
      go_loopw [6] (fun i wr => ∃ k : Nat, k ≤ s.pk.length ∧ i = .int .i64 k ∧ Hid (Below w.heap.size w wr) ∧ Hid (wr.heap[w.heap.size]? = some (.cells (sC s p cp q cq) 37 (0, 0))) ∧ Hid (wr.heap[w.heap.size + 1]? = some (.cells (sC s p' cp' q' cq') 37 (0, 0)))) (fun i _ => s.pk.length - (intOf i).toNat)
      case atStart => exact ⟨0, Nat.zero_le _, rfl, HB, HX, HY⟩
      case round =>
        obtain ⟨m, hm, rfl, HB2, HX2, HY2⟩ := hrel
        have hx := blk_cell HX2.out
        have hy := blk_cell HY2.out
        by_cases hlm : m < s.pk.length
        · obtain ⟨g, off, rfl, hg, c0, c1, c2⟩ := (HS.out.pk.step HB2.out) m hlm
          obtain ⟨g', off', rfl, hg', d0, d1, d2⟩ := (HS'.out.pk.step HB2.out) m hlm
          generalize s.pk.getD m ⟨0, 0, 0⟩ = x at *
          go_wp2
          go_quiet (fail)
          go_wp2
          go_roundw
          case rel => exact ⟨m + 1, by omega, by go_num, Lib.hid (below_drewN HB2.out _), HX2, HY2⟩
          case measure => simp [intOf]; omega
        · go_wp2
          go_ret
          exact ⟨rfl, HB2.out⟩

end Go.Proofs.YtjnbpohjdgnknaaDoor
