/-
  The smallest functions of package queue, one contract each: entry, Left, New, allSent, the closures, IndexFunc, place, Ready.
-/
import Derived.Test.YtnpbbkiojoafbaaQuA
namespace Go.Proofs.Ytnpbbkiojoafbaa
open Go Go.RowKit

theorem wpList_load_at {P : Program} {ops : Array Oper} {rest : List Oper} {op : Oper} {a : Act} {w : World} {Q : Exit → Act → World → Prop} (hgd : op.guard = none) (ty : TypeId) (x : Operand) (ho : op.op = .load ty x)
    (b o : Nat) (hx : a.eval x = .pointer (some ⟨b, o, none⟩)) (cs : Array Value) (d : TypeDesc) (hc : w.rangeAt b o cs.toList)
    (hu : P.underlying ty = some d) (hd : d.isRow = true) (hi : (P.info? ty).map (·.size) = some cs.toList.length)
    (h : wpList P ops Q rest (a.put op.dst (.agg cs)) w) : wpList P ops Q (op :: rest) a w :=
  wpList_load_mid hgd ty x ho b o hx cs.toList d hc hu hd hi (by simpa using h)
theorem wpList_load_guarded {P : Program} {ops : Array Oper} {rest : List Oper} {o : Oper} {a : Act} {w : World} {Q : Exit → Act → World → Prop} (hw : Region.wanted o (yielded ops a.tmps) = true) (ty : TypeId) (x : Operand) (ho : o.op = .load ty x)
    (g : Nat) (hx : a.eval x = .pointer (some ⟨g, 0, none⟩)) (t : TypeId) (cs : Array Value) (fr : Nat × Nat) (d : TypeDesc) (hg : w.heap[g]? = some (.cells cs t fr))
    (hu : P.underlying ty = some d) (hd : (match d with | .struct _ | .array _ _ => true | _ => false) = true) (hi : (P.info? ty).map (·.size) = some cs.size)
    (h : wpList P ops Q rest (a.put o.dst (.agg cs)) w) : wpList P ops Q (o :: rest) a w :=
  wpList_step fun K hK => by
    rw [if_pos hw]
    exact wp_load_row ty x ho g hx t cs fr d hg hu hd hi (hK _ _ h)
theorem wpList_mid_guarded {P : Program} {ops : Array Oper} {rest : List Oper} {op : Oper} {a : Act} {w : World} {Q : Exit → Act → World → Prop} (hw : Region.wanted op (yielded ops a.tmps) = true) (ty : TypeId) (x : Operand) (ho : op.op = .load ty x)
    (b o : Nat) (hx : a.eval x = .pointer (some ⟨b, o, none⟩)) (cs : Array Value) (d : TypeDesc) (hc : w.rangeAt b o cs.toList)
    (hu : P.underlying ty = some d) (hd : d.isRow = true) (hi : (P.info? ty).map (·.size) = some cs.toList.length)
    (h : wpList P ops Q rest (a.put op.dst (.agg cs)) w) : wpList P ops Q (op :: rest) a w :=
  wpList_step fun K hK => by
    rw [if_pos hw]
    exact wp_load_mid ty x ho b o hx cs.toList d hc hu hd hi (hK _ _ (by simpa using h))
theorem Bg.own_lt {T e : TypeId} {w : World} {B b : Nat} {room : Int} {l : List Ep} {v : Value} (h : Bg T e 17 ec w B b room l v) {k : Nat} (hk : w.heap.size ≤ k) : v.ownBlock ≠ some k := fun e => by have := (h.row.lt k e).2; omega
theorem balloc2 (w : World) (o o2 : Obj) : Below w.heap.size w ((w.alloc o).alloc o2) := bstep (balloc w o) (balloc _ o2)

/-! New, Left, entry. -/
theorem new_no (room : Int) (w : World) (h : room < 1 ∨ 16 < room) :
    Calls Try.prog 8 #[.int .i64 room] w fun e w' => e = .returned (.tuple #[.pointer none, .int .i64 1]) ∧ w = w' := by
  rcases h with h | h
  · go_enter Try.func8, Try.ntmps8
    go_wp2
    go_ret2
    exact ⟨rfl, rfl⟩
  · have h1 : ¬ room < 1 := by omega
    go_enter Try.func8, Try.ntmps8
    go_wp2
    go_ret2
    exact ⟨rfl, rfl⟩
theorem new_yes (room : Int) (w : World) (h : 1 ≤ room) (h2 : room ≤ 16) :
    Calls Try.prog 8 #[.int .i64 room] w fun e w' => e = .returned (.tuple #[.pointer (some ⟨w.heap.size, 0, none⟩), .int .i64 0]) ∧ w.alloc (.cells #[.int .i64 room, .slice none 0 0] 66) = w' := by
  go_enter Try.func8, Try.ntmps8
  go_wp2
  go_ret2
  exact ⟨rfl, rfl⟩
theorem left_any {w : World} {B b : Nat} {room : Int} {l : List Ep} {v : Value} (h : BgP w B b room l v) (h1 : 0 ≤ room) (h2 : room ≤ 16) (hl : l.length ≤ 5000) :
    Calls Try.prog 19 #[.pointer (some ⟨b, 0, none⟩)] w fun e w' => e = .returned (.int .i64 (room - l.length)) ∧ ∃ n, w' = w.drewN n := by
  obtain ⟨p, cap, rfl, -⟩ := h.form
  have c0 := blk_cell h.blk 0
  have c1 := blk_cell h.blk 1
  simp at c0 c1
  clear h
  go_enter Try.func19, Try.ntmps19
  go_wp2
  go_quiet (fail)
  go_wp2
  go_ret
  exact ⟨rfl, _, rfl⟩
theorem entry_out {w : World} {B b : Nat} {room : Int} {l : List Ep} {v : Value} (h : BgP w B b room l v) (at_ : Int) (hn : at_ < 0 ∨ (l.length : Int) ≤ at_) :
    Calls Try.prog 33 #[.pointer (some ⟨b, 0, none⟩), .int .i64 at_] w fun e w' => e = .returned (.pointer none) ∧ w' = w := by
  obtain ⟨p, cap, rfl, -⟩ := h.form
  have c1 := blk_cell h.blk 1
  simp at c1
  clear h
  rcases hn with hn | hn
  · go_enter Try.func33, Try.ntmps33
    go_wp2
    go_ret
    exact ⟨rfl, rfl⟩
  · have hn1 : ¬ at_ < 0 := by omega
    go_enter Try.func33, Try.ntmps33
    go_wp2
    go_ret
    exact ⟨rfl, rfl⟩
theorem entry_at {w : World} {B b : Nat} {room : Int} {l : List Ep} {g cap : Nat} (h : BgP w B b room l (.slice (some ⟨g, 0, none⟩) l.length cap)) (i : Nat) (hi : i < l.length) :
    Calls Try.prog 33 #[.pointer (some ⟨b, 0, none⟩), .int .i64 i] w fun e w' => e = .returned (.pointer (some ⟨g, i * 17, none⟩)) ∧ w' = w := by
  have c1 := blk_cell h.blk 1
  simp at c1
  clear h
  go_enter Try.func33, Try.ntmps33
  go_wp2
  go_ret
  exact ⟨rfl, rfl⟩

/-! The closures. -/
theorem all_any (x : Ep) (w : World) :
    Calls Try.prog 39 #[.agg (ecells x)] w fun e w' => e = .returned (.bool (sentAll x.pl)) ∧ Below w.heap.size w w' := by
  have hb := balloc w (.cells (ecells x) 57)
  rcases Bool.eq_false_or_eq_true x.st with hs | hs
  · have HT : Hid (sentAll x.pl = ((x.l.length : Int) == 0)) := Lib.hid (by
      have e : sentAll x.pl = (x.st && x.l.isEmpty) := rfl
      rw [e, hs, Bool.true_and]
      generalize x.l = L
      cases L
      · rfl
      · simp
        omega)
    go_enter Try.func39, Try.ntmps39
    go_wp2
    go_ret
    exact ⟨ret_bool HT.out.symm, hb⟩
  · have HT : Hid (sentAll x.pl = false) := Lib.hid (by
      have e : sentAll x.pl = (x.st && x.l.isEmpty) := rfl
      rw [e, hs, Bool.false_and])
    go_enter Try.func39, Try.ntmps39
    go_wp2
    go_ret
    exact ⟨ret_bool HT.out.symm, hb⟩
abbrev rdV (p : Addr) : Value := .func (.func 35) #[] #[.pointer (some p)]
abbrev fnV (p q : Addr) : Value := .func (.func 38) #[] #[.pointer (some p), .pointer (some q)]
set_option maxHeartbeats 1000000 in
theorem rdF_any (x : Ep) (p : Addr) (g o : Nat) (ln : Int) (w : World) (hp : w.cell? p = some (.pointer (some ⟨g, o, none⟩))) (hc : w.cell? ⟨g, o + 1, none⟩ = some (.int .i64 ln)) :
    Calls Try.prog 35 #[.agg (ecells x), .pointer (some p)] w fun e w' => e = .returned (.bool (isL ln x.pl)) ∧ Below w.heap.size w w' := by
  have hp2 : ∀ o, (w.alloc o).cell? p = some (.pointer (some ⟨g, _, none⟩)) := fun o => Lib.cell?_alloc_some o hp
  have hc2 : ∀ o2, (w.alloc o2).cell? ⟨g, o + 1, none⟩ = some (.int .i64 ln) := fun o => Lib.cell?_alloc_some o hc
  have HT : Hid (isL ln x.pl = (x.m.ln == ln)) := Lib.hid rfl
  have hb := balloc w (.cells (ecells x) 57)
  go_enter Try.func35, Try.ntmps35
  go_wp2
  go_quiet (fail)
  go_wp2
  go_ret
  exact ⟨ret_bool HT.out.symm, below_drewN hb _⟩
theorem isF_1 {ln fr : Int} {x : En} (h : (x.m.ln == ln) = false) : isF ln fr x = false := by simp [isF, h]
theorem isF_2 {ln fr : Int} {x : En} (h : (x.m.fr == fr) = false) : isF ln fr x = false := by simp [isF, h]
theorem isF_3 {ln fr : Int} {x : En} (h : (x.m.kd != 3) = false) : isF ln fr x = false := by simp [isF, h]
theorem isF_4 {ln fr : Int} {x : En} (h1 : (x.m.ln == ln) = true) (h2 : (x.m.fr == fr) = true) (h3 : (x.m.kd != 3) = true) : isF ln fr x = sentAll x := by simp [isF, h1, h2, h3]
set_option maxHeartbeats 1000000 in
theorem fnF_any (x : Ep) (p q : Addr) (ln fr : Int) (w : World) (hp : w.cell? p = some (.int .i64 ln)) (hq : w.cell? q = some (.int .i64 fr)) :
    Calls Try.prog 38 #[.agg (ecells x), .pointer (some p), .pointer (some q)] w fun e w' => e = .returned (.bool (isF ln fr x.pl)) ∧ Below w.heap.size w w' := by
  have hp2 : ∀ o, (w.alloc o).cell? p = some (.int .i64 ln) := fun o => Lib.cell?_alloc_some o hp
  have hq2 : ∀ o, (w.alloc o).cell? q = some (.int .i64 fr) := fun o => Lib.cell?_alloc_some o hq
  have hb := balloc w (.cells (ecells x) 57)
  rcases Bool.eq_false_or_eq_true (x.m.ln == ln) with h1 | h1
  · rcases Bool.eq_false_or_eq_true (x.m.fr == fr) with h2 | h2
    · rcases Bool.eq_false_or_eq_true (x.m.kd != 3) with h3 | h3
      · have HT := Lib.hid (isF_4 (x := x.pl) h1 h2 h3)
        have HA := Lib.hid (all_any x (w.alloc (.cells (ecells x) 57)))
        have hg := heap_alloc_new w (.cells (ecells x) 57)
        go_enter Try.func38, Try.ntmps38
        go_wp2_with (first
          | ((with_reducible refine wpList_load_guarded (o := ⟨some 24, _, _, _, _, _⟩) ?lw 57 (.tmp 3) rfl w.heap.size ?lx 57 (ecells x) (0, 0) _ ?lg Try.underlying57 ?ld ?li ?_); (case lw => rfl); (case lx => rfl); (case lg => exact hg); (case ld => rfl); (case li => kernel_rfl))
          | (go_at_call 39; refine HA.out.mono ?_; rintro e w1 ⟨rfl, hb1⟩))
        go_ret
        exact ⟨ret_bool HT.out.symm, bbox hb1⟩
      · have HT := Lib.hid (isF_3 (x := x.pl) (ln := ln) (fr := fr) h3)
        go_enter Try.func38, Try.ntmps38
        go_wp2
        go_ret
        exact ⟨ret_bool HT.out.symm, hb⟩
    · have HT := Lib.hid (isF_2 (x := x.pl) (ln := ln) h2)
      go_enter Try.func38, Try.ntmps38
      go_wp2
      go_ret
      exact ⟨ret_bool HT.out.symm, hb⟩
  · have HT := Lib.hid (isF_1 (x := x.pl) (fr := fr) h1)
    go_enter Try.func38, Try.ntmps38
    go_wp2
    go_ret
    exact ⟨ret_bool HT.out.symm, hb⟩

set_option maxHeartbeats 1000000 in
theorem indexFuncR (f : Ep → Bool) (a : Option Addr) (l : List Ep) (cp : Nat) (p : Addr) (w : World) (hl : EpIn w a l) (hn : l.length ≤ 5000) (hF : ∀ x ∈ l, ∀ wr, Below w.heap.size w wr → Calls Try.prog 35 #[.agg (ecells x), .pointer (some p)] wr fun e w' => e = .returned (.bool (f x)) ∧ Below wr.heap.size wr w') :
    Calls Try.prog 41 #[.slice a l.length cp, rdV p] w fun e w' => e = .returned (.int .i64 (oi (l.findIdx? f))) ∧ Below w.heap.size w w' := by
  have HL := Lib.hid hl
  have HF := Lib.hid hF
  clear hl hF
  go_enter Try.func41, Try.ntmps41
  go_wp2
  go_loopw [8] (fun i wr => ∃ k : Nat, k ≤ l.length ∧ i = .int .i64 k ∧ Hid (∀ (j : Nat) (x : Ep), j < k → l[j]? = some x → f x = false) ∧ Below w.heap.size w wr) (fun i _ => l.length - (intOf i).toNat)
  case atStart => exact ⟨0, by omega, rfl, Lib.hid (fun j x hj => by omega), Below.refl _ _⟩
  case round =>
    obtain ⟨k, hk, rfl, HJ, hb⟩ := hrel
    by_cases hlt : k < l.length
    · obtain ⟨x, hx⟩ : ∃ x, l[k]? = some x := ⟨_, List.getElem?_eq_getElem hlt⟩
      obtain ⟨g, rfl, hg, hr⟩ := HL.out.step hb k x hx
      have HR := Lib.hid hr
      have HC := Lib.hid (HF.out x (List.mem_of_getElem? hx) wr hb)
      have HX := Lib.hid hx
      clear hx hr
      go_wp2_with (first
        | ((with_reducible refine wpList_load_at (op := ⟨some 15, _, _, _, _, _⟩) rfl 57 (.tmp 14) rfl g (k * 17) ?lx (ecells x) _ ?lc Try.underlying57 ?ld ?li ?_); (case lx => rfl); (case lc => exact HR.out); (case ld => rfl); (case li => kernel_rfl))
        | (go_at_call 35; refine HC.out.mono ?_; rintro e w1 ⟨rfl, hb1⟩))
      · have h : f x = true := by assumption
        go_ret
        exact ⟨ret_int (by rw [find_some HX.out h HJ.out]; rfl), bstep hb hb1⟩
      · have h : f x = false := by assumption
        have HK : Hid (∀ (j : Nat) (y : Ep), j < k + 1 → l[j]? = some y → f y = false) := Lib.hid (fun j y hj hy => by
          by_cases e : j = k
          · subst e
            obtain rfl : x = y := Option.some.inj (HX.out.symm.trans hy)
            exact h
          · exact HJ.out j y (by omega) hy)
        have hB := bstep hb hb1
        clear h
        go_roundw
        case rel => exact ⟨k + 1, by omega, by go_num, HK, hB⟩
        case measure => simp [intOf]; omega
    · have HK : Hid (oi (l.findIdx? f) = -1) := Lib.hid (by rw [find_none (fun j x hx => HJ.out j x (by have := (List.getElem?_eq_some_iff.1 hx).1; omega) hx)]; rfl)
      go_wp2
      go_ret
      exact ⟨ret_int HK.out.symm, hb⟩
theorem placeR (f : Ep → Bool) {w : World} {B b : Nat} {room : Int} {l : List Ep} {v : Value} (h : BgP w B b room l v) (p : Addr) (hn : l.length ≤ 5000) (hF : ∀ x ∈ l, ∀ wr, Below w.heap.size w wr → Calls Try.prog 35 #[.agg (ecells x), .pointer (some p)] wr fun e w' => e = .returned (.bool (f x)) ∧ Below wr.heap.size wr w') :
    Calls Try.prog 34 #[.pointer (some ⟨b, 0, none⟩), rdV p] w fun e w' => e = .returned (.int .i64 (oi (l.findIdx? f))) ∧ Below w.heap.size w w' := by
  obtain ⟨a, cap, rfl, hin⟩ := h.ins
  have HC := Lib.hid (indexFuncR f a l cap p w hin hn hF)
  have c1 := blk_cell h.blk 1
  simp at c1
  clear h hin hF
  go_enter Try.func34, Try.ntmps34
  go_wp2_with (go_at_call 41; refine HC.out.mono ?_; rintro e w1 ⟨rfl, hb1⟩)
  go_ret
  exact ⟨rfl, hb1⟩

set_option maxHeartbeats 1000000 in
theorem indexFuncF (f : Ep → Bool) (a : Option Addr) (l : List Ep) (cp : Nat) (p q : Addr) (w : World) (hl : EpIn w a l) (hn : l.length ≤ 5000) (hF : ∀ x ∈ l, ∀ wr, Below w.heap.size w wr → Calls Try.prog 38 #[.agg (ecells x), .pointer (some p), .pointer (some q)] wr fun e w' => e = .returned (.bool (f x)) ∧ Below wr.heap.size wr w') :
    Calls Try.prog 41 #[.slice a l.length cp, fnV p q] w fun e w' => e = .returned (.int .i64 (oi (l.findIdx? f))) ∧ Below w.heap.size w w' := by
  have HL := Lib.hid hl
  have HF := Lib.hid hF
  clear hl hF
  go_enter Try.func41, Try.ntmps41
  go_wp2
  go_loopw [8] (fun i wr => ∃ k : Nat, k ≤ l.length ∧ i = .int .i64 k ∧ Hid (∀ (j : Nat) (x : Ep), j < k → l[j]? = some x → f x = false) ∧ Below w.heap.size w wr) (fun i _ => l.length - (intOf i).toNat)
  case atStart => exact ⟨0, by omega, rfl, Lib.hid (fun j x hj => by omega), Below.refl _ _⟩
  case round =>
    obtain ⟨k, hk, rfl, HJ, hb⟩ := hrel
    by_cases hlt : k < l.length
    · obtain ⟨x, hx⟩ : ∃ x, l[k]? = some x := ⟨_, List.getElem?_eq_getElem hlt⟩
      obtain ⟨g, rfl, hg, hr⟩ := HL.out.step hb k x hx
      have HR := Lib.hid hr
      have HC := Lib.hid (HF.out x (List.mem_of_getElem? hx) wr hb)
      have HX := Lib.hid hx
      clear hx hr
      go_wp2_with (first
        | ((with_reducible refine wpList_load_at (op := ⟨some 15, _, _, _, _, _⟩) rfl 57 (.tmp 14) rfl g (k * 17) ?lx (ecells x) _ ?lc Try.underlying57 ?ld ?li ?_); (case lx => rfl); (case lc => exact HR.out); (case ld => rfl); (case li => kernel_rfl))
        | (go_at_call 38; refine HC.out.mono ?_; rintro e w1 ⟨rfl, hb1⟩))
      · have h : f x = true := by assumption
        go_ret
        exact ⟨ret_int (by rw [find_some HX.out h HJ.out]; rfl), bstep hb hb1⟩
      · have h : f x = false := by assumption
        have HK : Hid (∀ (j : Nat) (y : Ep), j < k + 1 → l[j]? = some y → f y = false) := Lib.hid (fun j y hj hy => by
          by_cases e : j = k
          · subst e
            obtain rfl : x = y := Option.some.inj (HX.out.symm.trans hy)
            exact h
          · exact HJ.out j y (by omega) hy)
        have hB := bstep hb hb1
        clear h
        go_roundw
        case rel => exact ⟨k + 1, by omega, by go_num, HK, hB⟩
        case measure => simp [intOf]; omega
    · have HK : Hid (oi (l.findIdx? f) = -1) := Lib.hid (by rw [find_none (fun j x hx => HJ.out j x (by have := (List.getElem?_eq_some_iff.1 hx).1; omega) hx)]; rfl)
      go_wp2
      go_ret
      exact ⟨ret_int HK.out.symm, hb⟩
theorem placeF (f : Ep → Bool) {w : World} {B b : Nat} {room : Int} {l : List Ep} {v : Value} (h : BgP w B b room l v) (p q : Addr) (hn : l.length ≤ 5000) (hF : ∀ x ∈ l, ∀ wr, Below w.heap.size w wr → Calls Try.prog 38 #[.agg (ecells x), .pointer (some p), .pointer (some q)] wr fun e w' => e = .returned (.bool (f x)) ∧ Below wr.heap.size wr w') :
    Calls Try.prog 34 #[.pointer (some ⟨b, 0, none⟩), fnV p q] w fun e w' => e = .returned (.int .i64 (oi (l.findIdx? f))) ∧ Below w.heap.size w w' := by
  obtain ⟨a, cap, rfl, hin⟩ := h.ins
  have HC := Lib.hid (indexFuncF f a l cap p q w hin hn hF)
  have c1 := blk_cell h.blk 1
  simp at c1
  clear h hin hF
  go_enter Try.func34, Try.ntmps34
  go_wp2_with (go_at_call 41; refine HC.out.mono ?_; rintro e w1 ⟨rfl, hb1⟩)
  go_ret
  exact ⟨rfl, hb1⟩

end Go.Proofs.Ytnpbbkiojoafbaa
