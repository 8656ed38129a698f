/-
  What Write of a memory does.
-/
import Derived.Test.YticfdkopephkkaaDoorMeD
namespace Go.Proofs.YticfdkopephkkaaDoor
open Go Go.RowKit

/-- The first N words of a box. -/
theorem slice_to (b N : Nat) (h8 : N ≤ 8) (w : World) : (Instr.sliceAt 34 (.pointer (some ⟨b, 0, none⟩)) none (some (.int .i64 (N : Int))) none).run Tryd.prog w = .ok (.slice (some ⟨b, 0, none⟩) N 8) w := by
  rcases (show N = 0 ∨ N = 1 ∨ N = 2 ∨ N = 3 ∨ N = 4 ∨ N = 5 ∨ N = 6 ∨ N = 7 ∨ N = 8 by omega) with rfl | rfl | rfl | rfl | rfl | rfl | rfl | rfl | rfl
  all_goals kernel_rfl
theorem box_range {w : World} {b : Nat} {d : Wd} (h : w.heap[b]? = some (.cells (dcells d) 34 (0, 0))) (N : Nat) : w.rangeAt b 0 (icells (d.toL.take N)) := by
  intro j v hv
  rw [blk_cell h, Nat.zero_add]
  rw [icells, List.getElem?_map, List.getElem?_take] at hv
  split at hv
  · rw [← List.getElem?_map] at hv
    rw [← hv, ← List.getElem?_toArray]
    rfl
  · simp at hv
/-- The call's own words in their box. -/
structure Wq (w : World) (d : Wd) (w' : World) : Prop where
  bx : w'.heap[w.heap.size]? = some (.cells (dcells d) 34 (0, 0))
  bl : Below w.heap.size w w'
theorem Wq.step {w w' w'' : World} {d : Wd} (h : Wq w d w') (hb : Below w'.heap.size w' w'') : Wq w d w'' := ⟨(hb.block _ (lt_of_block h.bx)).trans h.bx, bstep h.bl hb⟩
theorem Wq.drew {w w' : World} {d : Wd} (h : Wq w d w') : Wq w d w'.drew := ⟨h.bx, h.bl.drew⟩
theorem wpList_copy_row {P : Program} {w : World} {ops : Array Oper} {rest : List Oper} {o : Oper} {a : Act} {Q : Exit → Act → World → Prop} (hgd : o.guard = none) (d s : Operand) (dT sT : TypeId)
    (ho : o.op = .call { callee := .builtin .copy, args := #[d, s], argTypes := #[dT, sT] }) (elem : TypeId) (hu : P.underlying dT = some (.slice elem)) (hsz : (P.info? elem).map (·.size) = some 1)
    (g off dLen dCap : Nat) (ad : Addr) (sLen sCap : Nat) (hd : a.eval d = .slice (some ⟨g, off, none⟩) dLen dCap) (hs : a.eval s = .slice (some ad) sLen sCap)
    (cur : List Value) (t : TypeId) (hg : w.heap[g]? = some (.cells cur.toArray t (0, 0))) (cs : List Value) (hn : cs.length = Nat.min sLen dLen)
    (hsrc : ∀ j v, cs[j]? = some v → w.cell? (ad.add j) = some v) (hfit : off + cs.length ≤ cur.length) (h1 : ∀ v ∈ cs, v.oneCell' = true)
    (h : ∀ w', w.setRow g (splice cur off cs).toArray = w' → wpList P ops Q rest (a.put o.dst (goInt cs.length)) w') : wpList P ops Q (o :: rest) a w :=
  wpList_copy_own hgd d s dT sT ho elem hu hsz g off dLen dCap ad sLen sCap hd hs cur.toArray t hg cs hn hsrc (by simpa using hfit) h1 (h _ rfl)
/-- A line is written. -/
theorem gave_row {w w1 w2 : World} {b g : Nat} {c : Cfg} {L : List Int} (h : Mm w b g c L) (r : Value) (F : Nat) (l : List Int) (hF : F + l.length ≤ L.length) (hb : Below w.heap.size w w1) (e2 : w1.setRow g (splice (icells L) F (icells l)).toArray = w2) :
    GaveM w b g c r (over L F l) (.returned r) w2 := by
  subst e2
  have h1 := h.below hb
  have e : splice (icells L) F (icells l) = icells (over L F l) := by
    simp [splice, icells, over]
  rw [e]
  refine ⟨rfl, h1.set (over_len _ _ _ hF) (setRow_other w1 g b _ h.ne) (setRow_heap _ _ _ _ _ _ h1.hg), ⟨hb.os, hb.tape, hb.output, by simpa using hb.size, fun k hk hne => (setRow_other w1 g k _ hne).trans (hb.block k hk)⟩⟩

theorem write_no {w : World} {b g : Nat} {c : Cfg} {L : List Int} (h : Mm w b g c L) (hT : Tb w) (line : Int) (d : Wd) (hl : lnOk c line = false) :
    Calls Tryd.prog 8 #[.pointer (some ⟨b, 0, none⟩), .int .i64 line, .agg (dcells d)] w (GaveM w b g c (.int .i64 1) L) := by
  have HP := Lib.hid (fun o => part_no (h.below (balloc w o)) (hT.keeps (balloc w o)) line hl)
  have HE := Lib.hid (fun w' => GaveM.same (w' := w') h (.int .i64 1))
  clear h hT hl
  go_enter Tryd.func8, Tryd.ntmps8
  go_wp2_with (go_at_call 18; refine (HP.out _).mono ?_; rintro e w1 ⟨rfl, hb1⟩)
  go_ret
  exact HE.out _ (bbox hb1)

set_option maxRecDepth 100000 in
set_option maxHeartbeats 4000000 in
theorem write_yes {w : World} {b g : Nat} {c : Cfg} {L : List Int} (h : Mm w b g c L) (hT : Tb w) (line : Int) (d : Wd) (hl : lnOk c line = true) :
    Calls Tryd.prog 8 #[.pointer (some ⟨b, 0, none⟩), .int .i64 line, .agg (dcells d)] w (GaveM w b g c (.int .i64 (wrP c L line d).1) (wrP c L line d).2) := by
  obtain ⟨F, N, e1, e2, e3, h1, h8, hF, hn⟩ := line_in h.sz hl
  have HP := Lib.hid (fun o => part_yes (h.below (balloc w o)) (hT.keeps (balloc w o)) line hl e2 e3 h1 hF hn)
  have hdl : (d.toL.take N).length = N := by rw [List.length_take, Wd.len]; omega
  have HL := Lib.hid (fun (w1 : World) (hb : w1.heap[w.heap.size]? = some (.cells (dcells d) 34 (0, 0))) => laidN (d.toL.take N) N hdl h8 w.heap.size 0 8 w1 (box_range hb N))
  have hw : wrP c L line d = if eqW (lay (d.toL.take N)) d = true then (0, over L F (d.toL.take N)) else (1, L) := by
    unfold wrP
    rw [e3, Int.toNat_natCast]
    by_cases he : lay (d.toL.take N) = d
    · rw [if_pos ⟨hl, he⟩, if_pos (eqW_iff.2 he), ← e3, e1]
    · rw [if_neg (fun q => he q.2), if_neg (fun q => he (eqW_iff.1 q))]
  have hq := words_neq (lay (d.toL.take N)) d
  have hsl := slice_to w.heap.size N h8
  have hcl : ∀ {w1 : World}, Below (w.alloc (.cells (dcells d) 34)).heap.size (w.alloc (.cells (dcells d) 34)) w1 → w1.heap[w.heap.size]? = some (.cells (dcells d) 34 (0, 0)) := fun hb => box_at hb
  have HE := Lib.hid (fun w' => GaveM.same (w' := w') h (.int .i64 1))
  have HG := Lib.hid (fun w' w'' => gave_row (w1 := w') (w2 := w'') h (.int .i64 0) F (d.toL.take N) (by rw [hdl]; exact hF))
  have HM := Lib.hid (fun w1 (hb : Below w.heap.size w w1) => (h.below hb).hg)
  have HR := Lib.hid (fun (w1 : World) (hb : w1.heap[w.heap.size]? = some (.cells (dcells d) 34 (0, 0))) => box_range hb N)
  have H1 := Lib.hid (icells_one (d.toL.take N))
  have HN : Hid ((icells (d.toL.take N)).length = N) := Lib.hid ((icells_len _).trans hdl)
  have HF : Hid (F + (icells (d.toL.take N)).length ≤ (icells L).length) := Lib.hid (by rw [icells_len, hdl, icells_len]; exact hF)
  rw [hw]
  generalize icells (d.toL.take N) = cs at *
  obtain ⟨D, hD⟩ : ∃ D, D = lay (d.toL.take N) := ⟨_, rfl⟩
  rw [← hD] at HL hq ⊢
  generalize over L F (d.toL.take N) = M at *
  generalize L.length - F = q at *
  clear h hT hl e1 e2 e3 hdl hD hw hF hn
  rcases Bool.eq_false_or_eq_true (eqW D d) with he | he
  · rw [he] at hq ⊢
    simp only [if_true]
    go_enter Tryd.func8, Tryd.ntmps8
    go_wp2_with (go_at_call 18; refine (HP.out _).mono ?_; rintro e w1 ⟨rfl, hb1⟩; have L0 := Lib.hid (Wq.mk (hcl hb1) (bbox hb1)))
    have hcc := blk_cell L0.out.bx
    go_region_held3 (fun w' => (∀ o, w'.cell? ⟨w.heap.size, o, none⟩ = (dcells d)[o]?))
      (first | exact blk_cell L1.out.bx | exact hcc | go_keep)
      (first
        | (go_at_call 19; refine (HL.out _ (by first | exact L0.out.bx | exact L0.out.drew.bx)).mono ?_; rintro e w3 ⟨rfl, hb3⟩; have L1 := (by first | exact Lib.hid (L0.out.step hb3) | exact Lib.hid (L0.out.drew.step hb3)); clear hb3))
    have hcc := blk_cell L1.out.bx
    go_wp2_with ((with_reducible refine wpList_copy_row (o := ⟨some 26, _, _, _, _, _⟩) rfl (.tmp 24) (.tmp 25) 51 51 rfl 3 Tryd.underlying51 ?sz g F N q ⟨w.heap.size, 0, none⟩ 8 8 ?hd ?hs (icells L) 3 ?hg cs ?hn ?hp HF.out H1.out ?_); (case sz => kernel_rfl); (case hd => rfl); (case hs => rfl); (case hg => exact HM.out _ L1.out.bl); (case hn => rw [HN.out]; exact (Nat.min_eq_right h8).symm); (case hp => exact fun j v hv => by rw [add_plain]; exact HR.out _ L1.out.bx j v hv); intro w5 e5)
    go_ret
    exact HG.out _ _ L1.out.bl e5
  · rw [he] at hq ⊢
    simp only [Bool.false_eq_true, if_false]
    clear HG HM HR H1 HN HF
    go_enter Tryd.func8, Tryd.ntmps8
    go_wp2_with (go_at_call 18; refine (HP.out _).mono ?_; rintro e w1 ⟨rfl, hb1⟩; have L0 := Lib.hid (Wq.mk (hcl hb1) (bbox hb1)))
    have hcc := blk_cell L0.out.bx
    go_region_held3 (fun w' => (∀ o, w'.cell? ⟨w.heap.size, o, none⟩ = (dcells d)[o]?))
      (first | exact blk_cell L1.out.bx | exact hcc | go_keep)
      (first
        | (go_at_call 19; refine (HL.out _ (by first | exact L0.out.bx | exact L0.out.drew.bx)).mono ?_; rintro e w3 ⟨rfl, hb3⟩; have L1 := (by first | exact Lib.hid (L0.out.step hb3) | exact Lib.hid (L0.out.drew.step hb3)); clear hb3))
    go_wp2
    go_ret
    exact HE.out _ L1.out.bl

/-- Write. -/
theorem write_any {w : World} {b g : Nat} {c : Cfg} {L : List Int} (h : Mm w b g c L) (hT : Tb w) (line : Int) (d : Wd) :
    Calls Tryd.prog 8 #[.pointer (some ⟨b, 0, none⟩), .int .i64 line, .agg (dcells d)] w (GaveM w b g c (.int .i64 (wrP c L line d).1) (wrP c L line d).2) := by
  rcases Bool.eq_false_or_eq_true (lnOk c line) with hl | hl
  · exact write_yes h hT line d hl
  · have e : wrP c L line d = (1, L) := by unfold wrP; rw [if_neg (by simp [hl])]
    rw [e]
    exact write_no h hT line d hl

end Go.Proofs.YticfdkopephkkaaDoor
