/-
  Words compared; and what Line and Write of a memory do.
-/
import Derived.Test.YticfdkopephkkaaDoorMeC
import Derived.Laws.StructEq
import Derived.ChangeKeysEq
namespace Go.Proofs.YticfdkopephkkaaDoor
open Go Go.RowKit

theorem A3 : (Tryd.prog.info? 3).map (fun i => (i.zero, i.size, i.bytes)) = some (some (.int .i64 0), 1, 8) := by kernel_rfl
/-- Are words the same? -/
def eqW (x y : Wd) : Bool := x.a0 == y.a0 && (x.a1 == y.a1 && (x.a2 == y.a2 && (x.a3 == y.a3 && (x.a4 == y.a4 && (x.a5 == y.a5 && (x.a6 == y.a6 && x.a7 == y.a7))))))
theorem eqW_iff {x y : Wd} : eqW x y = true ↔ x = y := by
  cases x; cases y
  simp [eqW]
theorem eqW_self (x : Wd) : eqW x x = true := eqW_iff.2 rfl
theorem words_eq (d : Nat) (x y : Wd) (w : World) : (Op.equalIn (d + 2) 34 (.agg (dcells x)) (.agg (dcells y))).run Tryd.prog w = .ok (eqW x y) w := by
  obtain ⟨i0, hi0, hz0, hz1, hz2⟩ := info_parts A3
  rw [run_equalIn_array w (d + 1) _ _ Tryd.underlying34 hi0]
  have hc3 : Tryd.prog.cellsOf 3 = 1 := by kernel_rfl
  rw [hc3]
  have hu := Tryd.underlying3
  obtain ⟨x0, x1, x2, x3, x4, x5, x6, x7⟩ := x
  obtain ⟨y0, y1, y2, y3, y4, y5, y6, y7⟩ := y
  simp [Op.eqItems, List.range, List.range.loop, go_sem, eqW]
  by_cases h0 : x0 = y0
  · by_cases h1 : x1 = y1
    · by_cases h2 : x2 = y2
      · by_cases h3 : x3 = y3
        · by_cases h4 : x4 = y4
          · by_cases h5 : x5 = y5
            · by_cases h6 : x6 = y6
              · by_cases h7 : x7 = y7 <;> simp [h0, h1, h2, h3, h4, h5, h6, h7]
              · simp [h0, h1, h2, h3, h4, h5, h6]
            · simp [h0, h1, h2, h3, h4, h5]
          · simp [h0, h1, h2, h3, h4]
        · simp [h0, h1, h2, h3]
      · simp [h0, h1, h2]
    · simp [h0, h1]
  · simp [h0]
theorem words_eql (x y : Wd) (w : World) : (binOp .eql 34 (.agg (dcells x)) (.agg (dcells y))).run Tryd.prog w = .ok (.bool (eqW x y)) w := by
  have ha := fun d => words_eq d x y
  simp [go_sem, ha]
theorem words_neq (x y : Wd) (w : World) : (binOp .neq 34 (.agg (dcells x)) (.agg (dcells y))).run Tryd.prog w = .ok (.bool (!eqW x y)) w := by
  have ha := fun d => words_eq d x y
  simp [go_sem, ha]

theorem results_cell_three {P : Program} {fn : Func} {p q r : Tmp} {ty : TypeId} (h : fn.results = #[.cell p ty, .tmp q, .tmp r]) (tmps : Array Value) (w : World) (g : Nat) (t : TypeId) (cs : Array Value) (fr : Nat × Nat) (d : TypeDesc)
    (hp : tmps.getD p undef = .pointer (some ⟨g, 0, none⟩)) (hg : w.heap[g]? = some (.cells cs t fr))
    (hu : P.underlying ty = some d) (hd : (match d with | .struct _ | .array _ _ => true | _ => false) = true) (hi : (P.info? ty).map (·.size) = some cs.size) :
    (results fn tmps).run P w = .ok (.tuple #[.agg cs, tmps.getD q undef, tmps.getD r undef]) w := by
  have hp' : tmps[p]?.getD undef = .pointer (some ⟨g, 0, none⟩) := by simpa using hp
  simp [results, h, hp', asAddr, run_loadVar_row w g t ty cs fr d hg hu hd hi]
theorem results_cell_two {P : Program} {fn : Func} {p q : Tmp} {ty : TypeId} (h : fn.results = #[.cell p ty, .tmp q]) (tmps : Array Value) (w : World) (g : Nat) (t : TypeId) (cs : Array Value) (fr : Nat × Nat) (d : TypeDesc)
    (hp : tmps.getD p undef = .pointer (some ⟨g, 0, none⟩)) (hg : w.heap[g]? = some (.cells cs t fr))
    (hu : P.underlying ty = some d) (hd : (match d with | .struct _ | .array _ _ => true | _ => false) = true) (hi : (P.info? ty).map (·.size) = some cs.size) :
    (results fn tmps).run P w = .ok (.tuple #[.agg cs, tmps.getD q undef]) w := by
  have hp' : tmps[p]?.getD undef = .pointer (some ⟨g, 0, none⟩) := by simpa using hp
  simp [results, h, hp', asAddr, run_loadVar_row w g t ty cs fr d hg hu hd hi]

/-- What Line gives. -/
def RetL (w : World) (d : Wd) (k : Int) (e : Ending) (w' : World) : Prop := e = .returned (.tuple #[.agg (dcells d), .int .i64 k]) ∧ Below w.heap.size w w'
theorem line_ret {w wr : World} {d : Wd} {k : Int} {a : Act} {g : Nat} (hp : a.tmps.getD 4 undef = .pointer (some ⟨g, 0, none⟩)) (hk : a.tmps.getD 5 undef = .int .i64 k) (hd : a.defers = []) (hg : wr.heap[g]? = some (.cells (dcells d) 34 (0, 0))) (hb : Below w.heap.size w wr) :
    bodyPost Tryd.prog Tryd.f13 (RetL w d k) Exit.ret a wr :=
  bodyPost_ret (v := .tuple #[.agg (dcells d), a.tmps.getD 5 undef]) (results_cell_two Tryd.results13 _ _ g 34 _ (0, 0) _ hp hg Tryd.underlying34 rfl (by kernel_rfl)) hd ⟨by rw [hk], hb⟩

theorem laidN (l : List Int) (N : Nat) (hN : l.length = N) (h8 : N ≤ 8) (gs o cap : Nat) (w : World) (hs : w.rangeAt gs o (icells l)) :
    Calls Tryd.prog 19 #[.slice (some ⟨gs, o, none⟩) N cap] w fun e w' => e = .returned (.agg (dcells (lay l))) ∧ Below w.heap.size w w' := by
  subst hN
  exact laid_any l h8 gs o cap w hs
/-- A line's cells. -/
theorem Mm.line {w : World} {b g : Nat} {c : Cfg} {L : List Int} (h : Mm w b g c L) (F N : Nat) : w.rangeAt g F (icells ((L.drop F).take N)) := by
  intro j v hv
  rw [blk_cell h.hg, List.getElem?_toArray, icells, List.getElem?_map]
  rw [icells, List.getElem?_map, List.getElem?_take] at hv
  split at hv
  · rwa [List.getElem?_drop] at hv
  · simp at hv

theorem line_no {w : World} {b g : Nat} {c : Cfg} {L : List Int} (h : Mm w b g c L) (hT : Tb w) (line : Int) (hl : lnOk c line = false) :
    Calls Tryd.prog 13 #[.pointer (some ⟨b, 0, none⟩), .int .i64 line] w (RetL w d0 1) := by
  have HP := Lib.hid (fun o => part_no (h.below (balloc w o)) (hT.keeps (balloc w o)) line hl)
  clear h hT hl
  go_enter Tryd.func13, Tryd.ntmps13
  go_wp2_with (first
    | (go_at_call 18; refine (HP.out _).mono ?_; rintro e w1 ⟨rfl, hb1⟩)
    | ((with_reducible refine wpList_store_row (o := ⟨none, _, _, _, _, _⟩) rfl 34 (.tmp 4) (.tmp 16) rfl w.heap.size (dcells d0) ?sx ?sy 34 ?old ?sg ?si ?so ?s1 ?_); (case sx => rfl); (case sy => rfl); (case old => exact dcells d0); (case sg => exact box_at hb1); (case si => kernel_rfl); (case so => rfl); (case s1 => kernel_rfl)))
  exact line_ret rfl rfl rfl (setRow_heap _ _ _ _ _ _ (box_at hb1)) (below_setRow (bbox hb1) (Nat.le_refl _) _)
theorem line_yes {w : World} {b g : Nat} {c : Cfg} {L : List Int} (h : Mm w b g c L) (hT : Tb w) (line : Int) (hl : lnOk c line = true) :
    Calls Tryd.prog 13 #[.pointer (some ⟨b, 0, none⟩), .int .i64 line] w (RetL w (lay (pt c L line)) 0) := by
  obtain ⟨F, N, e1, e2, e3, h1, h8, hF, hn⟩ := line_in h.sz hl
  have HP := Lib.hid (fun o => part_yes (h.below (balloc w o)) (hT.keeps (balloc w o)) line hl e2 e3 h1 hF hn)
  have hp : pt c L line = (L.drop F).take N := by unfold pt; rw [e1, e3, Int.toNat_natCast]
  rw [hp]
  have hpl : ((L.drop F).take N).length = N := by rw [List.length_take, List.length_drop]; omega
  have HL := Lib.hid (fun w1 (hb : Below w.heap.size w w1) => laidN ((L.drop F).take N) N hpl h8 g F (L.length - F) w1 ((h.below hb).line F N))
  obtain ⟨D, hD⟩ : ∃ D, D = lay ((L.drop F).take N) := ⟨_, rfl⟩
  rw [← hD] at HL ⊢
  clear h hT hl e1 e2 e3 hp hpl hD
  generalize L.length - F = q at *
  go_enter Tryd.func13, Tryd.ntmps13
  go_wp2_with (first
    | (go_at_call 18; refine (HP.out _).mono ?_; rintro e w1 ⟨rfl, hb1⟩)
    | (go_at_call 19; refine (HL.out _ (bbox hb1)).mono ?_; rintro e w2 ⟨rfl, hb2⟩)
    | ((with_reducible refine wpList_store_row (o := ⟨none, _, _, _, _, _⟩) rfl 34 (.tmp 4) (.tmp 19) rfl w.heap.size (dcells D) ?sx ?sy 34 ?old ?sg ?si ?so ?s1 ?_); (case sx => rfl); (case sy => rfl); (case old => exact dcells d0); (case sg => exact (hb2.block _ (zbox hb1)).trans (box_at hb1)); (case si => kernel_rfl); (case so => rfl); (case s1 => kernel_rfl)))
  exact line_ret rfl rfl rfl (setRow_heap _ _ _ _ _ _ ((hb2.block _ (zbox hb1)).trans (box_at hb1))) (below_setRow (bstep (bbox hb1) hb2) (Nat.le_refl _) _)
/-- Line. -/
theorem line_any2 {w : World} {b g : Nat} {c : Cfg} {L : List Int} (h : Mm w b g c L) (hT : Tb w) (line : Int) :
    Calls Tryd.prog 13 #[.pointer (some ⟨b, 0, none⟩), .int .i64 line] w (RetL w (lnP c L line).1 (lnP c L line).2) := by
  unfold lnP
  rcases Bool.eq_false_or_eq_true (lnOk c line) with hl | hl
  · rw [if_pos hl]
    exact line_yes h hT line hl
  · rw [if_neg (by simp [hl])]
    exact line_no h hT line hl

end Go.Proofs.YticfdkopephkkaaDoor
