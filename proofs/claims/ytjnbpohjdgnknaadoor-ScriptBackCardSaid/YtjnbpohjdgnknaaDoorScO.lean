/-
  What appendSizes does.
-/
import Derived.Test.YtjnbpohjdgnknaaDoorScN
import Derived.Deep.RegionHeld3
import Derived.Deep.AppendLies
namespace Go.Proofs.YtjnbpohjdgnknaaDoor
open Go Go.RowKit

/-- Bounds that sizes that may be keep. -/
theorem ok_bytes {c : Cfg} (h : okC c = true) : (0 ≤ c.co ∧ c.co ≤ 255) ∧ (0 ≤ c.ho ∧ c.ho ≤ 1024) ∧ (0 ≤ c.se ∧ c.se ≤ 1024) ∧ (0 ≤ c.wa ∧ c.wa ≤ 255) ∧ (0 ≤ c.wo ∧ c.wo ≤ 1024) ∧ (0 ≤ c.li ∧ c.li ≤ 1024) ∧ (0 ≤ c.po ∧ c.po ≤ 255) ∧ (0 ≤ c.ms ∧ c.ms ≤ 255) ∧ (0 ≤ c.bu ∧ c.bu ≤ 255) ∧ (0 ≤ c.wb ∧ c.wb ≤ 255) ∧ (0 ≤ c.r0 ∧ c.r0 ≤ 255) ∧ (0 ≤ c.r1 ∧ c.r1 ≤ 255) ∧ (0 ≤ c.r2 ∧ c.r2 ≤ 255) := by
  rw [okC_eq] at h
  simp only [Bool.and_eq_true] at h
  obtain ⟨⟨⟨⟨⟨⟨⟨⟨⟨⟨h0, h1⟩, h2⟩, h3⟩, h4⟩, h5⟩, h6⟩, h7⟩, h8⟩, h9⟩, ⟨h10, h11⟩, h12⟩ := h
  simp only [room, List.getD_cons_zero, List.getD_cons_succ] at h10 h11 h12
  have g0 := inB_of h0; have g1 := powB_of h1; have g2 := powB_of h2; have g3 := inB_of h3; have g4 := powB_of h4; have g5 := powB_of h5; have g6 := inB_of h6
  have g7 := inB_of h7; have g8 := inB_of h8; have g9 := inB_of h9; have g10 := inB_of h10; have g11 := inB_of h11; have g12 := inB_of h12
  refine ⟨by omega, by omega, by omega, by omega, by omega, by omega, by omega, by omega, by omega, by omega, by omega, by omega, by omega⟩
/-- The bytes of sizes that may be, as cells. -/
abbrev szCells (c : Cfg) : List Value := [.int .u8 c.co, .int .u8 (lg c.ho), .int .u8 (lg c.se), .int .u8 c.wa, .int .u8 (lg c.wo), .int .u8 (lg c.li), .int .u8 c.po, .int .u8 c.ms, .int .u8 c.bu, .int .u8 c.wb, .int .u8 c.r0, .int .u8 c.r1, .int .u8 c.r2]
theorem u8_in {n : Int} (h : 0 ≤ n ∧ n ≤ 255) : ((u8 n).toNat : Int) = n := u8_back (byte_of h.1 h.2)
theorem lg_in (n : Int) : 0 ≤ (lg n : Int) ∧ (lg n : Int) ≤ 255 := by have := lg_lt n; omega
theorem sizes_cells {c : Cfg} (h : okC c = true) : Lib.byteCells (sizesB c) = szCells c := by
  obtain ⟨g0, g1, g2, g3, g4, g5, g6, g7, g8, g9, g10, g11, g12⟩ := ok_bytes h
  simp only [Lib.byteCells, sizesB, List.map_cons, List.map_nil]
  rw [u8_in g0, u8_in (lg_in _), u8_in (lg_in _), u8_in g3, u8_in (lg_in _), u8_in (lg_in _), u8_in g6, u8_in g7, u8_in g8, u8_in g9, u8_in g10, u8_in g11, u8_in g12]
theorem wrap8 {n : Int} (h : 0 ≤ n ∧ n ≤ 255) : IntKind.u8.wrap n = n := IntWalk.u8_in _ h

set_option maxRecDepth 100000 in
set_option maxHeartbeats 4000000 in
theorem sizes_append (B : Nat) (v : Value) (bs : List UInt8) (c : Cfg) (w : World) (hown : Txt w B v bs) (hB : B ≤ w.heap.size) (hl : bs.length ≤ 90000000) (hok : okC c = true) (hT : Tab w) (hTs : 1 < w.heap.size) :
    Calls Tryd.prog 31 #[v, cv c] w (GaveB B (bs ++ sizesB c) w) := by
  obtain ⟨i0, hi0, hz0, hz1, hz2⟩ := info_parts Tryd.infoByte
  have HZ := Lib.hid (sizes_cells hok)
  obtain ⟨g0, g1, g2, g3, g4, g5, g6, g7, g8, g9, g10, g11, g12⟩ := ok_bytes hok
  have k0 := wrap8 g0; have k3 := wrap8 g3; have k6 := wrap8 g6; have k7 := wrap8 g7; have k8 := wrap8 g8; have k9 := wrap8 g9; have k10 := wrap8 g10; have k11 := wrap8 g11; have k12 := wrap8 g12
  have T0 : Hid (Txt ((w.alloc (.cells (cL c) 24)).drew.alloc (.cells (szCells c).toArray 5)) B v bs) := Lib.hid ((hown.alloc _).alloc _)
  have HT : Hid (Tab (w.alloc (.cells (cL c) 24)).drew) := Lib.hid (hT.keeps hTs (((Below.refl _ w).alloc (Nat.le_refl _) _).drew))
  have hc0 : Hid (∀ o, (w.alloc (.cells (cL c) 24)).drew.cell? ⟨w.heap.size, o, none⟩ = (cL c)[o]?) := Lib.hid (fun o => World.cell?_alloc_mark w _ 24 (0, 0) o)
  have hc1 : Hid (∀ o, ((w.alloc (.cells (cL c) 24)).drew.alloc (.cells (szCells c).toArray 5)).cell? ⟨w.heap.size, o, none⟩ = (cL c)[o]?) := Lib.hid (fun o => (((Below.refl _ _).alloc (Nat.le_refl _) _).cell (w := (w.alloc (.cells (cL c) 24)).drew) (p := ⟨w.heap.size, o, none⟩) (by show w.heap.size < (w.alloc _).heap.size; simp)).trans (hc0.out o))
  have HL := Lib.hid (own_lt hown)
  clear hown hok hT
  obtain ⟨co, ho, se, wa, wo, li, po, ms, bu, wb, r0, r1, r2⟩ := c
  simp only at *
  go_enter Tryd.func31, Tryd.ntmps31
  go_wp2_with fail
  go_region_held3 (fun w' => ∀ o, w'.cell? ⟨w.heap.size, o, none⟩ = (cL ⟨co, ho, se, wa, wo, li, po, ms, bu, wb, r0, r1, r2⟩)[o]?) (first | exact hc0.out | exact hc1.out | exact hc2)
    (first
      | (go_at_call 43; refine (powerOf_any _ _ (by omega) HT.out).mono ?_; rintro e w1 ⟨rfl, rfl⟩)
      | (refine step_append_lies _ (by rfl) _ _ _ (by rfl) B 5 i0 _ 1 1 Tryd.underlying47 hi0 hz0 hz1 hz2 rfl (by omega) v bs.length (Lib.byteCells bs) (by rfl) T0.out ⟨w.heap.size + 1, 0, none⟩ 13 13 (szCells ⟨co, ho, se, wa, wo, li, po, ms, bu, wb, r0, r1, r2⟩) (by rfl) (by rfl) (World.news_of_block (cs := (szCells ⟨co, ho, se, wa, wo, li, po, ms, bu, wb, r0, r1, r2⟩).toArray) (t := 5) (fr := (0, 0)) (new_at2 w _ _)) (by simp [Value.oneCell']) (by omega) (by unfold maxLen; omega) (by omega) (by simp; omega) (w.heap.size + 2) (by simp) ?_; intro gg cap w1 hown1 hg1 hat hlt; have hc2 := (fun o => (cell_of_heap (hg1.block w.heap.size (by show w.heap.size < (World.alloc _ _).heap.size; simp; omega) (fun e => by have := (HL.out _ e.symm).2; omega)) o).trans (hc1.out o))))
  have hbl : Below B w w1 := ((((Below.refl B w).alloc hB _).drew).alloc (by show B ≤ (World.alloc _ _).heap.size; simp; omega) _).trans (txt_grown T0.out (by show B ≤ (World.alloc _ _).heap.size; simp; omega) hg1)
  have T1 : Hid (Txt w1 B (.slice (some ⟨gg, 0, none⟩) (bs.length + 13) cap) (bs ++ sizesB ⟨co, ho, se, wa, wo, li, po, ms, bu, wb, r0, r1, r2⟩)) := Lib.hid (Txt.plus (n := bs.length + 13) (by simp [sizesB]) (by rw [HZ.out]; exact hown1))
  clear hown1 hg1 hat
  go_wp2
  go_ret
  exact ⟨_, rfl, T1.out, hbl⟩

end Go.Proofs.YtjnbpohjdgnknaaDoor
