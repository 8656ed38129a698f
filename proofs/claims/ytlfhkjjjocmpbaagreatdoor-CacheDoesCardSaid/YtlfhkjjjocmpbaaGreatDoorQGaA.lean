import Derived.Test.YtlfhkjjjocmpbaaGreatDoorSx
import Derived.Test.YtlfhkjjjocmpbaaGreatDoorQLayAr
import Derived.Test.YtlfhkjjjocmpbaaGreatDoorRef1
import Derived.Deep.AppendLies
import Derived.Sort.OwnSortedInts
import Derived.OwnWalk
import Derived.Deep.RegionHeld3

namespace Go.Proofs.YtlfhkjjjocmpbaaGreatDoor.Ar
open Go Go.RowKit Go.Sort

theorem A46 : (Tryz.prog.info? 69).map (fun i => (i.zero, i.size, i.bytes)) = some (some (.agg (ycells y0)), 11, 88) := by kernel_rfl
set_option maxHeartbeats 1000000 in
theorem refNew_yes (c : Cfg) (w : World) (hc : c.fits) (hok : okC c = true) :
  Calls Tryz.prog 33 #[cv c] w (NewA w c) := by
 have HC := Lib.hid (fun w => refCheck_any c w)
 have h0 : chk c = 0 := by simp [chk, hok]
 rw [h0] at HC
 obtain ⟨n, hn, e1, e2, h512⟩ := size_math hok
 have hmk : ∀ w : World, (Instr.makeSlice 47 (.int .i64 (n : Int)) (.int .i64 (n : Int))).run Tryz.prog w = .ok (.slice (some ⟨w.heap.size, 0, none⟩) n n) (w.alloc (.cells (madeCells (ycells y0) (n * 11)) 69)) := by
  intro w
  have hi : ∃ i : TypeInfo, Tryz.prog.info? 69 = some i ∧ i.zero = some (.agg (ycells y0)) ∧ i.size = 11 ∧ i.bytes = 88 := by
   have := A46
   cases hi : Tryz.prog.info? 69 with
   | none => rw [hi] at this; cases this
   | some i =>
    rw [hi] at this
    simp only [Option.map_some, Option.some.injEq, Prod.mk.injEq] at this
    exact ⟨i, rfl, this.1, this.2.1, this.2.2⟩
  obtain ⟨i, hi, hz, hs, hbt⟩ := hi
  have := run_make (P := Tryz.prog) w 47 69 i (.agg (ycells y0)) Tryz.underlying47 hi hz .i64 .i64 n n (by omega) (by omega) (by rw [hbt]; omega) (by omega)
  rw [hs] at this
  simpa [Value.cells] using this
 have HE : Hid (∀ w1, Below w.heap.size w w1 → NewA w c (.returned (.tuple #[.pointer (some ⟨w1.heap.size + 1, 0, none⟩), .int .i64 0])) ((w1.alloc (.cells (madeCells (ycells y0) (n * 11)) 69)).alloc (.cells (acells c w1.heap.size n) 55)).drew) := Lib.hid (fun w1 hb => newA_of hok hc _ _ hn hb)
 clear hc hok h0 hn
 go_enter Tryz.func33, Tryz.ntmps33
 go_wp2_with (go_at_call 32; refine (HC.out _).mono ?_; rintro e w1 ⟨rfl, hb1⟩)
 have hcc := blk_cells (box_at hb1)
 have hlt := zbox hb1
 have hcc2 : ∀ ob o, (w1.alloc ob).cell? ⟨w.heap.size, o, none⟩ = w1.cell? ⟨w.heap.size, o, none⟩ := fun ob o => World.cell?_alloc_lt w1 ob ⟨w.heap.size, o, none⟩ hlt
 have hE := HE.out _ (bbox hb1)
 clear HE HC
 go_region
 all_goals
  go_wp2
  go_ret2
  exact hE

theorem plcR_none {line : Int} {L : List Wy} (h : ∀ (j : Nat) (x : Wy), L[j]? = some x → isL line x = false) : plcR L line = none := find_none h
set_option maxHeartbeats 1000000 in
theorem place_any {w : World} {b g : Nat} {c : Cfg} {L : List Wy} (h : Ar w b g c L) (line : Int) :
  Calls Tryz.prog 42 #[.pointer (some ⟨b, 0, none⟩), .int .i64 line] w fun e w' => e = .returned (.int .i64 (oi (plcR L line))) ∧ w = w' := by
 have hn : L.length ≤ 512 := by
  have hw := ok_ways h.sz.ok
  have := Nat.mul_le_mul (show c.se.toNat ≤ 64 by omega) (show c.wa.toNat ≤ 8 by omega)
  rw [h.sz.len]
  omega
 have h13 := h.hd 13
 simp at h13
 have HL := Lib.hid h.ways
 clear h
 go_enter Tryz.func42, Tryz.ntmps42
 go_wp2
 go_loopw [5] (fun i wr => ∃ k : Nat, k ≤ L.length ∧ i = .int .i64 k ∧ Hid (∀ (j : Nat) (x : Wy), j < k → L[j]? = some x → isL line x = false) ∧ w = wr) (fun i _ => L.length - (intOf i).toNat)
 case atStart => exact ⟨0, by omega, rfl, Lib.hid (fun j x hj => by omega), rfl⟩
 case round =>
  obtain ⟨k, hk, rfl, HJ, rfl⟩ := hrel
  by_cases hlt : k < L.length
  ·obtain ⟨x, hx⟩ : ∃ x, L[k]? = some x := ⟨_, List.getElem?_eq_getElem hlt⟩
   have hr := HL.out k x hx
   rw [Nat.zero_add] at hr
   have q0 := hr 0 _ rfl
   rw [Nat.add_zero] at q0
   have q1 := hr 1 _ rfl
   have q10 := hr 10 _ rfl
   have HX := Lib.hid hx
   clear hr hx
   rcases Bool.eq_false_or_eq_true (isL line x) with hi | hi
   ·have HS : Hid (oi (plcR L line) = k) := Lib.hid (by rw [show plcR L line = some k from find_some HX.out hi HJ.out]; rfl)
    obtain ⟨e1, e2⟩ := isL_iff.1 hi
    have e1' : (x.ln == line) = true := by simpa using e1
    have hs : (x.st != 0) = true ∨ (x.st != 0) = false ∧ x.lk = true := by
     unfold tk at e2
     rcases Bool.eq_false_or_eq_true (x.st != 0) with hs | hs
     ·exact .inl hs
     ·exact .inr ⟨hs, by rw [hs] at e2; simpa using e2⟩
    clear e1 e2 hi
    rcases hs with hs | ⟨hs, hs2⟩
    all_goals
     go_wp2
     go_ret
     exact ⟨ret_int HS.out.symm, rfl⟩
   ·have HK : Hid (∀ (j : Nat) (y : Wy), j < k + 1 → L[j]? = some y → isL line y = false) := Lib.hid (fun j y hj hy => by
     by_cases e : j = k
     ·subst e
      obtain rfl : x = y := Option.some.inj (HX.out.symm.trans hy)
      exact hi
     ·exact HJ.out j y (by omega) hy)
    have hs : (x.ln == line) = false ∨ (x.ln == line) = true ∧ (x.st != 0) = false ∧ x.lk = false := by
     unfold isL tk at hi
     rcases Bool.eq_false_or_eq_true (x.ln == line) with h1 | h1
     ·rw [h1, Bool.true_and, Bool.or_eq_false_iff] at hi
      exact .inr ⟨h1, hi⟩
     ·exact .inl h1
    clear hi
    rcases hs with hs | ⟨hs, hs2, hs3⟩
    all_goals
     go_wp2
     go_roundw
     case rel => exact ⟨k + 1, by omega, by go_num, HK, trivial⟩
     case measure => simp [intOf]; omega
  ·have HK : Hid (oi (plcR L line) = -1) := Lib.hid (by rw [plcR_none (fun j x hx => HJ.out j x (by have := (List.getElem?_eq_some_iff.1 hx).1; omega) hx)]; rfl)
   go_wp2
   go_ret
   exact ⟨ret_int HK.out.symm, rfl⟩

theorem place_yes {w : World} {b g : Nat} {c : Cfg} {L : List Wy} (h : Ar w b g c L) (gd : Good c L) (line : Int) {k : Nat} (hp : plc c L line = some k) :
  Calls Tryz.prog 42 #[.pointer (some ⟨b, 0, none⟩), .int .i64 line] w fun e w' => e = .returned (.int .i64 (soN c line + k : Nat)) ∧ w = w' := by
 have := place_any h line
 rw [gd.plcR h.sz line, hp] at this
 exact this
theorem place_no {w : World} {b g : Nat} {c : Cfg} {L : List Wy} (h : Ar w b g c L) (gd : Good c L) (line : Int) (hp : plc c L line = none) :
  Calls Tryz.prog 42 #[.pointer (some ⟨b, 0, none⟩), .int .i64 line] w fun e w' => e = .returned (.int .i64 (-1)) ∧ w = w' := by
 have := place_any h line
 rw [gd.plcR h.sz line, hp] at this
 exact this
set_option maxHeartbeats 1000000 in
theorem refLock_any {w : World} {b g : Nat} {c : Cfg} {L : List Wy} (h : Ar w b g c L) (gd : Good c L) (line : Int) (q : Bool) :
  Calls Tryz.prog 75 #[.pointer (some ⟨b, 0, none⟩), .int .i64 line, .bool q] w (GaveA w b g c (lockP c L line q)) := by
 rcases hp : plc c L line with _ | k
 ·have HP := Lib.hid (place_no h gd line hp)
  have HE : Hid (GaveA w b g c (lockP c L line q) (.returned (.int .i64 5)) w) := Lib.hid (by
   rw [lockP_no q hp]
   exact ⟨rfl, h, .of_below (Below.refl _ _)⟩)
  clear h gd hp
  go_enter Tryz.func75, Tryz.ntmps75
  go_wp2_with (go_at_call 42; refine HP.out.mono ?_; rintro e w1 ⟨rfl, rfl⟩)
  go_ret
  exact HE.out
 ·obtain ⟨hl, hk, x, hx, hx'⟩ := h.sz.plc_some hp
  have HP := Lib.hid (place_yes h gd line hp)
  have hw := ok_ways h.sz.ok
  have hi := (List.getElem?_eq_some_iff.1 hx).1
  have hn : L.length ≤ 512 := by
   have := Nat.mul_le_mul (show c.se.toNat ≤ 64 by omega) (show c.wa.toNat ≤ 8 by omega)
   rw [h.sz.len]
   omega
  have HE : Hid (GaveA w b g c (lockP c L line q) (.returned (.int .i64 0)) (w.setCell ⟨g, (soN c line + k) * 11 + 10, none⟩ (.bool q))) := Lib.hid (by
   rw [lockP_yes q hp hx]
   have hs := h.store hx (lockY q x) 10 [.bool q] (by simp) (fun m hm => by simp at hm; subst hm; rfl) (fun m hm hm2 => by
    simp at hm2
    have : m < 10 := by omega
    rcases (show m = 0 ∨ m = 1 ∨ m = 2 ∨ m = 3 ∨ m = 4 ∨ m = 5 ∨ m = 6 ∨ m = 7 ∨ m = 8 ∨ m = 9 by omega) with rfl | rfl | rfl | rfl | rfl | rfl | rfl | rfl | rfl | rfl
    all_goals rfl)
   exact ⟨rfl, hs, turn_setCells g ((soN c line + k) * 11 + 10) [.bool q] w⟩)
  have hc1 : w.cell? ⟨g, (soN c line + k) * 11 + 10, none⟩ = some (.bool x.lk) := by
   have := h.ways _ x hx 10 (.bool x.lk) rfl
   rwa [Nat.zero_add] at this
  have hf1 := h.fz ((soN c line + k) * 11 + 10)
  have h13 := h.hd 13
  simp at h13
  generalize soN c line + k = i at *
  clear h gd hp hl hk hx hx' hw
  go_enter Tryz.func75, Tryz.ntmps75
  go_wp2_with (go_at_call 42; refine HP.out.mono ?_; rintro e w1 ⟨rfl, rfl⟩)
  go_ret
  exact HE.out

end Go.Proofs.YtlfhkjjjocmpbaaGreatDoor.Ar

namespace Go.Proofs.YtlfhkjjjocmpbaaGreatDoor.Ar
open Go Go.RowKit Go.Sort

theorem lay_math {c : Cfg} (ok : okC c = true) (line : Int) {m : Nat} (hm : (m : Int) < c.wa) :
  line % c.se * c.wa = (soN c line : Int) ∧ wrap64 (wrap64 (soN c line : Int) + m) = (soN c line + m : Nat) := by
 obtain ⟨⟨a1, a2⟩, ⟨b1, b2⟩, _, _⟩ := ok_ways ok
 have h2 := (soN_lt ok line).2
 have h3 : c.se.toNat * c.wa.toNat ≤ 64 * 8 := Nat.mul_le_mul (by omega) (by omega)
 have h4 : soN c line + m < 512 := by omega
 constructor
 ·unfold soN
  have hwa : ((c.wa.toNat : Nat) : Int) = c.wa := Int.toNat_of_nonneg (by omega)
  have hse : c.se ≠ 0 := by omega
  rw [Int.natCast_mul, hwa, Int.toNat_of_nonneg (Int.emod_nonneg line hse)]
 ·rw [wrap_small (soN c line : Int) (by omega) (by omega), wrap_small ((soN c line : Int) + m) (by omega) (by omega)]
  omega

set_option maxHeartbeats 2000000 in
theorem refLay_any {w : World} {b g : Nat} {c : Cfg} {L : List Wy} (h : Ar w b g c L) (gd : Good c L) (line way : Int) :
  Calls Tryz.prog 74 #[.pointer (some ⟨b, 0, none⟩), .int .i64 line, .int .i64 way] w (GaveA w b g c (layP c L line way)) := by
 have HEl : ∀ n, layP c L line way = (n, L) → Hid (∀ w', Below w.heap.size w w' → GaveA w b g c (layP c L line way) (.returned (.int .i64 n)) w') := fun n e => Lib.hid (fun w' hb => by
  rw [e]
  exact ⟨rfl, h.below hb, .of_below hb⟩)
 have hw := ok_ways h.sz.ok
 have hok := h.sz.ok
 by_cases hbad : lnOk c line = false ∨ way < 0 ∨ c.wa ≤ way
 ·have HE := HEl 1 (layP_bad hbad)
  have hcase : line < 0 ∨ (¬ line < 0 ∧ c.li ≤ line) ∨ (¬ line < 0 ∧ ¬ c.li ≤ line ∧ way < 0) ∨ (¬ line < 0 ∧ ¬ c.li ≤ line ∧ ¬ way < 0 ∧ c.wa ≤ way) := by
   unfold lnOk inR at hbad
   simp [hok] at hbad
   omega
  have h5 := h.hd 5
  have h3 := h.hd 3
  simp at h5 h3
  clear h gd hbad hok HEl
  rcases hcase with k1 | ⟨k1, k2⟩ | ⟨k1, k2, k3⟩ | ⟨k1, k2, k3, k4⟩
  all_goals
   go_enter Tryz.func74, Tryz.ntmps74
   go_wp2
   go_ret
   exact HE.out _ (Below.refl _ _)
 ·have hgood : lnOk c line = true ∧ 0 ≤ line ∧ line < c.li ∧ 0 ≤ way ∧ way < c.wa := by
   rcases Bool.eq_false_or_eq_true (lnOk c line) with hl | hl
   ·have := ok_of_lnOk hl
    exact ⟨hl, this.2.1, this.2.2, by omega, by omega⟩
   ·exact absurd (.inl hl) hbad
  obtain ⟨hl, k1, k2, k3, k4⟩ := hgood
  obtain ⟨m, rfl⟩ : ∃ m : Nat, way = m := ⟨way.toNat, by omega⟩
  have h5 := h.hd 5
  have h3 := h.hd 3
  have h2 := h.hd 2
  have h13 := h.hd 13
  simp at h5 h3 h2 h13
  have hln : line ≤ 1024 := by omega
  have hwa : c.wa ≤ 8 := by omega
  have hse : 1 ≤ c.se ∧ c.se ≤ 64 := by omega
  have hne : (c.se == 0) = false := by simp; omega
  rcases hp : plc c L line with _ | k
  ·have HP := Lib.hid (place_no h gd line hp)
   obtain ⟨x, hx⟩ := h.sz.at_some (line := line) (j := m) (by omega)
   have hi := (List.getElem?_eq_some_iff.1 hx).1
   have q0 := h.ways _ x hx 0 _ rfl
   have q10 := h.ways _ x hx 10 _ rfl
   rw [Nat.zero_add] at q0 q10
   rw [Nat.add_zero] at q0
   obtain ⟨e1, e2⟩ := lay_math hok line k4
   rcases Bool.eq_false_or_eq_true (tk x) with ht | ht
   ·have HE := HEl 4 (layP_full hbad hp (by rw [Int.toNat_natCast, tkAt_some hx, ht]))
    have hs : (x.st != 0) = true ∨ (x.st != 0) = false ∧ x.lk = true := by
     unfold tk at ht
     rcases Bool.eq_false_or_eq_true (x.st != 0) with hs | hs
     ·exact .inl hs
     ·exact .inr ⟨hs, by rw [hs] at ht; simpa using ht⟩
    generalize soN c line = so at *
    obtain ⟨i, hi2⟩ : ∃ i, so + m = i := ⟨_, rfl⟩
    rw [hi2] at e2 q0 q10 hi
    clear h gd hbad hok HEl hp hx ht hw hi2 hl
    rcases hs with hs | ⟨hs, hs2⟩
    all_goals
     go_enter Tryz.func74, Tryz.ntmps74
     go_wp2_with (go_at_call 42; refine HP.out.mono ?_; rintro e w1 ⟨rfl, rfl⟩)
     go_quiet (fail)
     rw [e2]
     clear e1 e2
     go_wp2
     go_ret
     exact HE.out _ (below_drewN (Below.refl _ _) _)
   ·have HE : Hid (∀ w1, Below w.heap.size w w1 → w1.there g ((soN c line + m) * 11) 11 ∧ GaveA w b g c (layP c L line m) (.returned (.int .i64 0)) (w1.setCells g ((soN c line + m) * 11) (yc (newY line)))) := Lib.hid (fun w1 hb => by
     rw [layP_yes hbad hp (by rw [Int.toNat_natCast, tkAt_some hx, ht]), Int.toNat_natCast]
     have hs := (h.below hb).store hx (newY line) 0 (yc (newY line)) (by rw [yc_len]; omega) (fun j _ => by rw [Nat.zero_add]) (fun j h1 h2 => by rw [yc_len] at h2; omega)
     have ht := turn_setCells g ((soN c line + m) * 11 + 0) (yc (newY line)) w1
     have hth := (h.below hb).there hx 0 11 (by omega)
     rw [Nat.add_zero] at hs ht hth
     exact ⟨hth, rfl, hs, (TurnG.of_below hb).trans ht⟩)
    have hs : (x.st != 0) = false ∧ x.lk = false := by
     unfold tk at ht
     simpa using ht
    obtain ⟨hs, hs2⟩ := hs
    generalize soN c line = so at *
    obtain ⟨i, hi2⟩ : ∃ i, so + m = i := ⟨_, rfl⟩
    rw [hi2] at e2 q0 q10 hi HE
    clear h gd hbad hok HEl hp hx ht hw hi2 hl
    go_enter Tryz.func74, Tryz.ntmps74
    go_wp2_with (go_at_call 42; refine HP.out.mono ?_; rintro e w1 ⟨rfl, rfl⟩)
    go_quiet (fail)
    rw [e2]
    clear e1 e2
    have hE := HE.out _ (below_drewN (Below.refl _ _) nq)
    go_wp2_with (((with_reducible refine wpList_store_mid (op := ⟨none, _, _, _, _, _⟩) rfl 69 (.tmp 77) (.tmp 76) rfl g (i * 11) (ycells (newY line)) ?sx ?sy ?st ?si ?s1 ?_); (case sx => rfl); (case sy => rfl); (case st => exact hE.1); (case si => kernel_rfl); (case s1 => kernel_rfl)))
    go_ret
    exact hE.2
  ·have HP := Lib.hid (place_yes h gd line hp)
   have HE := HEl 6 (layP_twice hbad hp)
   generalize soN c line + k = i at *
   clear h gd hbad hok HEl hp hw hl
   go_enter Tryz.func74, Tryz.ntmps74
   go_wp2_with (go_at_call 42; refine HP.out.mono ?_; rintro e w1 ⟨rfl, rfl⟩)
   go_ret
   exact HE.out _ (Below.refl _ _)

end Go.Proofs.YtlfhkjjjocmpbaaGreatDoor.Ar

namespace Go.Proofs.YtlfhkjjjocmpbaaGreatDoor.Ar
open Go Go.RowKit Go.Sort

theorem rfind_ret {w wr : World} {x : Wy} {k : Int} {q : Bool} {a : Act} {g : Nat} (hp : a.tmps.getD 4 undef = .pointer (some ⟨g, 0, none⟩)) (hk : a.tmps.getD 5 undef = .int .i64 k) (hq : a.tmps.getD 6 undef = .bool q) (hd : a.defers = []) (hg : wr.heap[g]? = some (.cells (ycells x) 69 (0, 0))) (hb : Below w.heap.size w wr) :
  bodyPost Tryz.prog Tryz.f17 (RetF w x k q) Exit.ret a wr :=
 bodyPost_ret (v := .tuple #[.agg (ycells x), a.tmps.getD 5 undef, a.tmps.getD 6 undef]) (results_cell_three Tryz.results17 _ _ g 69 _ (0, 0) _ hp hg Tryz.underlying69 rfl (by kernel_rfl)) hd ⟨by rw [hk, hq], hb⟩

theorem heap_setCell_at {w : World} {g : Nat} {cs : Array Value} {t : TypeId} {fr : Nat × Nat} (o : Nat) (v : Value) (hg : w.heap[g]? = some (.cells cs t fr)) : (w.setCell ⟨g, o, none⟩ v).heap[g]? = some (.cells (cs.setIfInBounds o v) t fr) := by
 have hlt : g < w.heap.size := (Array.getElem?_eq_some_iff.1 hg).1
 have hv : w.heap[g] = .cells cs t fr := (Array.getElem?_eq_some_iff.1 hg).2
 unfold World.setCell
 rw [Array.getElem?_eq_getElem (by simpa using hlt), Array.getElem_modify]
 simp [hv]

theorem heap_setCells_all (g : Nat) (t : TypeId) (fr : Nat × Nat) : ∀ (vs pre old : List Value) (w : World), old.length = vs.length → w.heap[g]? = some (.cells (pre ++ old).toArray t fr) → (w.setCells g pre.length vs).heap[g]? = some (.cells (pre ++ vs).toArray t fr)
 | [], pre, old, w, hl, hg => by
  rw [List.eq_nil_of_length_eq_zero hl] at hg
  exact hg
 | v :: r, pre, [], w, hl, hg => by cases hl
 | v :: r, pre, u :: old, w, hl, hg => by
  have h1 := heap_setCell_at pre.length v hg
  have e : (pre ++ u :: old).toArray.setIfInBounds pre.length v = ((pre ++ [v]) ++ old).toArray := by
   simp
  rw [e] at h1
  have h2 := heap_setCells_all g t fr r (pre ++ [v]) old (w.setCell ⟨g, pre.length, none⟩ v) (by simpa using hl) h1
  rw [List.length_append] at h2
  rw [World.setCells]
  simpa using h2
theorem heap_way {w : World} {g : Nat} {t : TypeId} {fr : Nat × Nat} (x y : Wy) (hg : w.heap[g]? = some (.cells (ycells x) t fr)) : (w.setCells g 0 (yc y)).heap[g]? = some (.cells (ycells y) t fr) :=
 heap_setCells_all g t fr (yc y) [] (yc x) w rfl hg
theorem heap_drew (w : World) : w.drew.heap = w.heap := rfl
theorem refFind_no {w : World} {b g : Nat} {c : Cfg} {L : List Wy} (h : Ar w b g c L) (gd : Good c L) (line : Int) (hp : plc c L line = none) :
  Calls Tryz.prog 17 #[.pointer (some ⟨b, 0, none⟩), .int .i64 line] w (RetF w y0 0 false) := by
 have hB0 : ∀ o, Below w.heap.size w (w.alloc o) := fun o => (Below.refl _ _).alloc (Nat.le_refl _) _
 have HP := Lib.hid (fun o => place_no (h.below (hB0 o)) gd line hp)
 clear h gd hp
 go_enter Tryz.func17, Tryz.ntmps17
 go_wp2_with (first
  | (go_at_call 42; refine (HP.out _).mono ?_; rintro e w1 ⟨rfl, rfl⟩)
  | ((with_reducible refine wpList_store_row (o := ⟨none, _, _, _, _, _⟩) rfl 69 (.tmp 4) (.tmp 13) rfl w.heap.size (ycells y0) ?sx ?sy 69 ?old ?sg ?si ?so ?s1 ?_); (case sx => rfl); (case sy => rfl); (case old => exact ycells y0); (case sg => exact heap_alloc_new w _); (case si => kernel_rfl); (case so => rfl); (case s1 => kernel_rfl)))
 exact rfind_ret rfl rfl rfl rfl (setRow_heap _ _ _ _ _ _ (heap_alloc_new w _)) (below_setRow (hB0 _) (Nat.le_refl _) _)

set_option maxHeartbeats 2000000 in
theorem refFind_yes {w : World} {b g : Nat} {c : Cfg} {L : List Wy} (h : Ar w b g c L) (gd : Good c L) (line : Int) (k : Nat) (x : Wy) (hp : plc c L line = some k) (hx : L[soN c line + k]? = some x) :
  Calls Tryz.prog 17 #[.pointer (some ⟨b, 0, none⟩), .int .i64 line] w (RetF w x k true) := by
 obtain ⟨hl, hk, -⟩ := h.sz.plc_some hp
 have hw := ok_ways h.sz.ok
 have hB0 : ∀ o, Below w.heap.size w (w.alloc o) := fun o => (Below.refl _ _).alloc (Nat.le_refl _) _
 have HP := Lib.hid (fun o => place_yes (h.below (hB0 o)) gd line hp)
 have hi := (List.getElem?_eq_some_iff.1 hx).1
 have hm : ((soN c line + k : Nat) : Int) % c.wa = k := by
  unfold soN
  rw [Int.natCast_add, Int.natCast_mul, Int.toNat_of_nonneg (show 0 ≤ c.wa by omega), Int.add_comm, Int.add_mul_emod_self_right]
  exact Int.emod_eq_of_lt (by omega) (by omega)
 have h3 := h.hd 3
 have h13 := h.hd 13
 simp at h3 h13
 have hr := h.ways _ x hx
 have h3' : ∀ o, (w.alloc o).cell? ⟨b, 3, none⟩ = some (.int .i64 c.wa) := fun o => Lib.cell?_alloc_some o h3
 have h13' : ∀ o, (w.alloc o).cell? ⟨b, 13, none⟩ = some (.slice (some ⟨g, 0, none⟩) L.length L.length) := fun o => Lib.cell?_alloc_some o h13
 have hr' : ∀ o, (w.alloc o).rangeAt g ((soN c line + k) * 11) (yc x) := fun o => by
  have := (h.below (hB0 o)).ways _ x hx
  rwa [Nat.zero_add] at this
 have hgl := h.gl
 have hbl := h.bl
 have hne1 : ¬ b = w.heap.size := by omega
 have hne2 : ¬ g = w.heap.size := by omega
 have hwa : 1 ≤ c.wa ∧ c.wa ≤ 8 := hw.1
 have hne : (c.wa == 0) = false := by simp; omega
 have hn512 : L.length ≤ 512 := by
  have := Nat.mul_le_mul (show c.se.toNat ≤ 64 by omega) (show c.wa.toNat ≤ 8 by omega)
  rw [h.sz.len]
  omega
 generalize soN c line + k = i at *
 generalize L.length = n at *
 have hi2 : i ≤ 512 := by omega
 have HB : ∀ o, w.heap.size < (w.alloc o).heap.size := fun o => by simp
 have hnew : ∀ o, (w.alloc o).heap[w.heap.size]? = some o := fun o => heap_alloc_new w o
 clear h gd hp hl hk hx h3 h13 hr hw hgl hbl
 have HM := Lib.hid hm
 clear hm
 go_enter Tryz.func17, Tryz.ntmps17
 go_wp2_with (go_at_call 42; refine (HP.out _).mono ?_; rintro e w1 ⟨rfl, rfl⟩)
 have h3 := h3' (.cells #[.int .i64 0, .int .i64 0, .int .i64 0, .int .i64 0, .int .i64 0, .int .i64 0, .int .i64 0, .int .i64 0, .int .i64 0, .int .i64 0, .bool false] 69)
 have h13 := h13' (.cells #[.int .i64 0, .int .i64 0, .int .i64 0, .int .i64 0, .int .i64 0, .int .i64 0, .int .i64 0, .int .i64 0, .int .i64 0, .int .i64 0, .bool false] 69)
 have hr := hr' (.cells #[.int .i64 0, .int .i64 0, .int .i64 0, .int .i64 0, .int .i64 0, .int .i64 0, .int .i64 0, .int .i64 0, .int .i64 0, .int .i64 0, .bool false] 69)
 have hN := hnew (.cells #[.int .i64 0, .int .i64 0, .int .i64 0, .int .i64 0, .int .i64 0, .int .i64 0, .int .i64 0, .int .i64 0, .int .i64 0, .int .i64 0, .bool false] 69)
 have hB := hB0 (.cells #[.int .i64 0, .int .i64 0, .int .i64 0, .int .i64 0, .int .i64 0, .int .i64 0, .int .i64 0, .int .i64 0, .int .i64 0, .int .i64 0, .bool false] 69)
 generalize w.alloc (.cells #[.int .i64 0, .int .i64 0, .int .i64 0, .int .i64 0, .int .i64 0, .int .i64 0, .int .i64 0, .int .i64 0, .int .i64 0, .int .i64 0, .bool false] 69) = w1 at *
 clear h3' h13' hr' hnew hB0 HP HB
 have q0 := hr 0 _ rfl
 have q1 := hr 1 _ rfl
 have q2 := hr 2 _ rfl
 have q3 := hr 3 _ rfl
 have q4 := hr 4 _ rfl
 have q5 := hr 5 _ rfl
 have q6 := hr 6 _ rfl
 have q7 := hr 7 _ rfl
 have q8 := hr 8 _ rfl
 have q9 := hr 9 _ rfl
 have q10 := hr 10 _ rfl
 rw [Nat.add_zero] at q0
 have hcb := blk_cells hN
 have hfz : ∀ o, w1.frozen? ⟨w.heap.size, o, none⟩ = false := fun o => by simp [World.frozen?, hN]
 have HN := Lib.hid hN
 have HB := Lib.hid hB
 have HBS := Lib.hid hB.size
 clear hN hB hr
 have HE : Hid ((w1.setCells w.heap.size 0 (yc x)).drew.heap[w.heap.size]? = some (.cells (ycells x) 69 (0, 0))) := Lib.hid (by rw [heap_drew]; exact heap_way (w := w1) (g := w.heap.size) y0 x HN.out)
 have HE2 : Hid (Below w.heap.size w (w1.setCells w.heap.size 0 (yc x)).drew) := Lib.hid (HB.out.trans ((turn_setCells w.heap.size 0 (yc x) w1).drew.below (Nat.le_refl _) HBS.out))
 clear HN HB HBS
 go_region
 all_goals
  go_wp2
  rw [HM.out]
  exact rfind_ret rfl rfl rfl rfl HE.out HE2.out

end Go.Proofs.YtlfhkjjjocmpbaaGreatDoor.Ar

namespace Go.Proofs.YtlfhkjjjocmpbaaGreatDoor.Ar
open Go Go.RowKit Go.Sort

theorem refFind_any {w : World} {b g : Nat} {c : Cfg} {L : List Wy} (h : Ar w b g c L) (gd : Good c L) (line : Int) {x : Wy} {k : Int} {q : Bool} (e : fnd c L line = (x, k, q)) :
  Calls Tryz.prog 17 #[.pointer (some ⟨b, 0, none⟩), .int .i64 line] w (RetF w x k q) := by
 rcases hp : plc c L line with _ | m
 ·rw [fnd_none hp] at e
  simp only [Prod.mk.injEq] at e
  obtain ⟨e1, e2, e3⟩ := e
  subst e1 e2 e3
  exact refFind_no h gd line hp
 ·obtain ⟨_, _, y, hy, _⟩ := h.sz.plc_some hp
  rw [fnd_some hp hy] at e
  simp only [Prod.mk.injEq] at e
  obtain ⟨e1, e2, e3⟩ := e
  subst e1 e2 e3
  exact refFind_yes h gd line m y hp hy

theorem Ar.drew {w : World} {b g : Nat} {c : Cfg} {L : List Wy} (h : Ar w b g c L) : Ar w.drew b g c L := h.keep (Nat.le_refl _) rfl rfl

theorem refSet_tell {w w1 : World} {b g : Nat} {c : Cfg} {L : List Wy} (h : Ar w b g c L) {line st : Int} {d : Wd} {k : Nat} {x : Wy} (hp : plc c L line = some k) (hx : L[soN c line + k]? = some x) (hs : stOk st = true ∧ wOk c d = true) (hb : Below w.heap.size w w1) :
  ∃ M, Ar (((w1.setCells g ((soN c line + k) * 11) [.int .i64 st]).setCells g ((soN c line + k) * 11 + 2) (dcells d).toList).drew) b g c M ∧ TurnG g w (((w1.setCells g ((soN c line + k) * 11) [.int .i64 st]).setCells g ((soN c line + k) * 11 + 2) (dcells d).toList).drew) ∧
   (st ≠ 0 → setP c L line st d = (0, M)) ∧
   (st = 0 → ∀ w5 : World, Ar w5 b g c M → TurnG g w w5 → w5.there g ((soN c line + k) * 11 + 2) 8 ∧ GaveA w b g c (setP c L line st d) (.returned (.int .i64 0)) (w5.setCells g ((soN c line + k) * 11 + 2) (dcells d0).toList)) := by
 have hi := (List.getElem?_eq_some_iff.1 hx).1
 have h1 := (h.below hb).store hx { x with st := st } 0 [.int .i64 st] (by simp) (fun m hm => by simp at hm; subst hm; rfl) (fun m hm hm2 => by
  simp at hm2
  rcases (show m = 1 ∨ m = 2 ∨ m = 3 ∨ m = 4 ∨ m = 5 ∨ m = 6 ∨ m = 7 ∨ m = 8 ∨ m = 9 ∨ m = 10 by omega) with rfl | rfl | rfl | rfl | rfl | rfl | rfl | rfl | rfl | rfl
  all_goals rfl)
 have h2 := h1.store (i := soN c line + k) (x := { x with st := st }) (by rw [List.getElem?_set, if_pos rfl, if_pos hi]) { x with st := st, wd := d } 2 (dcells d).toList (by simp) (fun m hm => by
  have hm8 : m < 8 := by simpa using hm
  rcases (show m = 0 ∨ m = 1 ∨ m = 2 ∨ m = 3 ∨ m = 4 ∨ m = 5 ∨ m = 6 ∨ m = 7 by omega) with rfl | rfl | rfl | rfl | rfl | rfl | rfl | rfl
  all_goals rfl) (fun m hm hm2 => by
  simp at hm2
  rcases (show m = 0 ∨ m = 1 ∨ m = 10 by omega) with rfl | rfl | rfl
  all_goals rfl)
 rw [List.set_set] at h2
 have t1 := turn_setCells g ((soN c line + k) * 11 + 0) [.int .i64 st] w1
 have t2 := turn_setCells g ((soN c line + k) * 11 + 2) (dcells d).toList (w1.setCells g ((soN c line + k) * 11 + 0) [.int .i64 st])
 rw [Nat.add_zero] at h2 t1 t2
 have hi2 : (L.set (soN c line + k) { x with st := st, wd := d })[soN c line + k]? = some { x with st := st, wd := d } := by rw [List.getElem?_set, if_pos rfl, if_pos hi]
 refine ⟨_, h2.drew, (((TurnG.of_below hb).trans t1).trans t2).drew, fun h0 => ?_, fun h0 w5 ha ht => ?_⟩
 ·rw [setP_yes st d hp hs hx]
  congr 2
  unfold setY
  rw [if_neg h0]
 ·subst h0
  have h3 := ha.store hi2 (setY 0 d x) 2 (dcells d0).toList (by simp) (fun m hm => by
   have hm8 : m < 8 := by simpa using hm
   rcases (show m = 0 ∨ m = 1 ∨ m = 2 ∨ m = 3 ∨ m = 4 ∨ m = 5 ∨ m = 6 ∨ m = 7 by omega) with rfl | rfl | rfl | rfl | rfl | rfl | rfl | rfl
   all_goals rfl) (fun m hm hm2 => by
   simp at hm2
   rcases (show m = 0 ∨ m = 1 ∨ m = 10 by omega) with rfl | rfl | rfl
   all_goals rfl)
  rw [List.set_set] at h3
  refine ⟨ha.there hi2 2 8 (by omega), ?_⟩
  rw [setP_yes 0 d hp hs hx]
  exact ⟨rfl, h3, ht.trans (turn_setCells g _ _ w5)⟩

end Go.Proofs.YtlfhkjjjocmpbaaGreatDoor.Ar

namespace Go.Proofs.YtlfhkjjjocmpbaaGreatDoor.Ar
open Go Go.RowKit Go.Sort

theorem at_range (d : Wd) (k : Nat) (hk : k < 8) : (dcells d)[k]? = some (.int .i64 (d.at k)) := word_cell d k hk

set_option maxHeartbeats 2000000 in
theorem refSet_any {w : World} {b g : Nat} {c : Cfg} {L : List Wy} (h : Ar w b g c L) (gd : Good c L) (line st : Int) (d : Wd) :
  Calls Tryz.prog 77 #[.pointer (some ⟨b, 0, none⟩), .int .i64 line, .int .i64 st, .agg (dcells d)] w (GaveA w b g c (setP c L line st d)) := by
 have hB0 : ∀ o, Below w.heap.size w (w.alloc o) := fun o => (Below.refl _ _).alloc (Nat.le_refl _) _
 have HEl : ∀ n, setP c L line st d = (n, L) → Hid (∀ w', Below w.heap.size w w' → GaveA w b g c (setP c L line st d) (.returned (.int .i64 n)) w') := fun n e => Lib.hid (fun w' hb => by
  rw [e]
  exact ⟨rfl, h.below hb, .of_below hb⟩)
 rcases hp : plc c L line with _ | k
 ·have HP := Lib.hid (fun o => place_no (h.below (hB0 o)) gd line hp)
  have HE := HEl 5 (setP_no st d hp)
  clear h gd hp HEl
  go_enter Tryz.func77, Tryz.ntmps77
  go_wp2_with (go_at_call 42; refine (HP.out _).mono ?_; rintro e w1 ⟨rfl, rfl⟩)
  go_ret
  exact HE.out _ (hB0 _)
 ·obtain ⟨hl, hk, x, hx, hx'⟩ := h.sz.plc_some hp
  have hw := (ok_ways h.sz.ok).2.2.1
  have HP := Lib.hid (fun o => place_yes (h.below (hB0 o)) gd line hp)
  have hi := (List.getElem?_eq_some_iff.1 hx).1
  have hn512 : L.length ≤ 512 := by
   have hw := ok_ways h.sz.ok
   have := Nat.mul_le_mul (show c.se.toNat ≤ 64 by omega) (show c.wa.toNat ≤ 8 by omega)
   rw [h.sz.len]
   omega
  by_cases hs : stOk st = true
  ·obtain ⟨N, hN⟩ : ∃ N : Nat, c.wo = N := ⟨c.wo.toNat, by omega⟩
   have hN8 : N ≤ 8 := by omega
   have h4' : ∀ o, (w.alloc o).cell? ⟨b, 4, none⟩ = some (.int .i64 (N : Int)) := fun o => by
    have := (h.below (hB0 o)).hd 4
    simp at this
    rw [hN] at this
    exact this
   have h13' : ∀ o, (w.alloc o).cell? ⟨b, 13, none⟩ = some (.slice (some ⟨g, 0, none⟩) L.length L.length) := fun o => by
    have := (h.below (hB0 o)).hd 13
    simpa using this
   have HCELL : Hid (∀ j, j < 8 → (w.alloc (.cells (dcells d) 36)).cell? ⟨w.heap.size, j, none⟩ = some (.int .i64 (d.at j))) := Lib.hid (fun j hj => by
    rw [World.cell?_alloc_mark w _ 36 (0, 0) j]
    exact at_range d j hj)
   have HE1 : wOk c d = false → Hid (∀ w', Below w.heap.size w w' → GaveA w b g c (setP c L line st d) (.returned (.int .i64 1)) w') := fun e => HEl 1 (setP_bad st d hp (by rw [e]; simp))
   have HT : wOk c d = true → _ := fun e => refSet_tell h hp hx ⟨hs, e⟩ (hB0 (.cells (dcells d) 36))
   have HC : Hid (∀ o, (∀ p, (w.alloc o).frozen? ⟨g, p, none⟩ = false) ∧ (w.alloc o).rangeAt g ((soN c line + k) * 11) (yc x)) := Lib.hid (fun o => ⟨(h.below (hB0 o)).fz, by
    have := (h.below (hB0 o)).ways _ x hx
    rwa [Nat.zero_add] at this⟩)
   have hne : ¬ g = w.heap.size := by have := h.gl; omega
   have HT2 := Lib.hid HT
   have HE2 := Lib.hid HE1
   have HW0 : Hid (∀ j, N ≤ j → j < 8 → (d.at j != 0) = true → wOk c d = false) := Lib.hid (fun j h1 h2 h3 => wOk_no N j hN h1 h2 h3)
   have HW1 : Hid ((∀ j, N ≤ j → j < 8 → (d.at j != 0) = false) → wOk c d = true) := Lib.hid (fun h => wOk_yes N hN h)
   have hs0 : 0 ≤ st := by simp [stOk] at hs; omega
   have hs4 : st ≤ 4 := by simp [stOk] at hs; omega
   have hbx := hB0 (.cells (dcells d) 36)
   have h4 := h4' (.cells (dcells d) 36)
   have h13 := h13' (.cells (dcells d) 36)
   have HB := Lib.hid hbx
   have HN := Lib.hid hN
   have hcbox : ∀ o, (w.alloc (.cells (dcells d) 36)).cell? ⟨w.heap.size, o, none⟩ = (dcells d)[o]? := fun o => World.cell?_alloc_mark w _ 36 (0, 0) o
   generalize soN c line + k = i at *
   have HLN := Lib.hid (show i < c.se.toNat * c.wa.toNat by rw [← h.sz.len]; exact hi)
   generalize L.length = n at *
   have hi2 : i ≤ 512 := by omega
   clear h gd hp hl hk hx hx' hw hbx h4' h13' HEl HE1 HT hs hN hB0
   go_enter Tryz.func77, Tryz.ntmps77
   go_wp2_with (go_at_call 42; refine (HP.out _).mono ?_; rintro e w1 ⟨rfl, rfl⟩)
   go_loopw [10] (fun v wr => ∃ k : Nat, N ≤ k ∧ k ≤ 8 ∧ v = .int .i64 k ∧ Hid (∀ j, N ≤ j → j < k → (d.at j != 0) = false) ∧ w.alloc (.cells (dcells d) 36) = wr) (fun v _ => 8 - (intOf v).toNat)
   case atStart => exact ⟨N, Nat.le_refl _, hN8, rfl, Lib.hid (fun j h1 h2 => by omega), rfl⟩
   case round =>
    obtain ⟨k, hk0, hk, rfl, HJ, rfl⟩ := hrel
    by_cases hlt : k < 8
    ·have hcell := HCELL.out k hlt
     rcases Bool.eq_false_or_eq_true (d.at k != 0) with hd | hd
     ·have HE := HE2.out (HW0.out k hk0 hlt hd)
      generalize d.at k = v at hcell hd
      clear hcbox
      go_wp2
      go_ret
      exact HE.out _ HB.out
     ·have HK : Hid (∀ j, N ≤ j → j < k + 1 → (d.at j != 0) = false) := Lib.hid (fun j h1 h2 => by
       by_cases e : j = k
       ·subst e
        exact hd
       ·exact HJ.out j h1 (by omega))
      generalize d.at k = v at hcell hd
      clear hcbox
      go_wp2
      go_roundw
      case rel => exact ⟨k + 1, by omega, by omega, by go_num, HK, trivial⟩
      case measure => simp [intOf]; omega
    ·obtain ⟨M, ha, ht, H1, H2⟩ := HT2.out (HW1.out (fun j h1 h2 => HJ.out j h1 (by omega)))
     obtain ⟨hfz, hrg⟩ := HC.out (.cells (dcells d) 36)
     have q0 := hrg 0 _ rfl
     rw [Nat.add_zero] at q0
     have q2 := hrg 2 _ rfl
     have q3 := hrg 3 _ rfl
     have q4 := hrg 4 _ rfl
     have q5 := hrg 5 _ rfl
     have q6 := hrg 6 _ rfl
     have q7 := hrg 7 _ rfl
     have q8 := hrg 8 _ rfl
     have q9 := hrg 9 _ rfl
     have HA := Lib.hid ha
     have HTT := Lib.hid ht
     have HH1 := Lib.hid H1
     have HH2 := Lib.hid H2
     clear ha ht H1 H2 hrg HC HT2 HW1 HW0 HE2 HCELL HJ HP HB HN
     generalize w.alloc (.cells (dcells d) 36) = w1 at *
     have hst : (st == 0) = true ∨ (st == 0) = false := Bool.eq_false_or_eq_true _
     rcases hst with hst | hst
     ·have h0 : st = 0 := by simpa using hst
      have HE := Lib.hid (HH2.out h0)
      clear HH1 HH2 h0
      go_wp2
      go_region
      refine (fun (W : World) (hA : Ar W b g c M) (hT : TurnG g w W) => ?_ : ∀ W, Ar W b g c M → TurnG g w W → Exit.then _ _ _ _ W) _ HA.out HTT.out
      obtain ⟨hth, hE⟩ := HE.out W hA hT
      have h13 := hA.hd 13
      simp at h13
      have hlen : i < M.length := by
       have := hA.sz.len
       have := HLN.out
       omega
      generalize M.length = n2 at *
      have hE2 := Lib.hid hE
      clear hE HE HA HTT hA hT hcbox q0 q2 q3 q4 q5 q6 q7 q8 q9 hfz h4
      go_wp2_with (((with_reducible refine wpList_store_mid (op := ⟨none, _, _, _, _, _⟩) rfl 36 (.tmp 60) (.tmp 58) rfl g (i * 11 + 2) (dcells d0) ?sx ?sy ?st ?si ?s1 ?_); (case sx => rfl); (case sy => rfl); (case st => exact hth); (case si => kernel_rfl); (case s1 => kernel_rfl)))
      go_ret
      exact hE2.out
     ·have h0 : st ≠ 0 := by simpa using hst
      have HE := Lib.hid (HH1.out h0)
      clear HH1 HH2 h0
      go_wp2
      go_region
      refine (fun (W : World) (hA : Ar W b g c M) (hT : TurnG g w W) => ?_ : ∀ W, Ar W b g c M → TurnG g w W → Exit.then _ _ _ _ W) _ HA.out HTT.out
      have hE : GaveA w b g c (setP c L line st d) (.returned (.int .i64 0)) W := by
       rw [HE.out]
       exact ⟨rfl, hA, hT⟩
      have hE2 := Lib.hid hE
      clear hE HE HA HTT hA hT hcbox q0 q2 q3 q4 q5 q6 q7 q8 q9 hfz h4 h13
      go_wp2
      go_ret
      exact hE2.out
  ·have HE := HEl 1 (setP_bad st d hp (by simp [hs]))
   have hs2 : st < 0 ∨ ¬ st < 0 ∧ 4 < st := by simp [stOk] at hs; omega
   generalize soN c line + k = i at *
   have hi2 : i ≤ 512 := by omega
   clear h gd hp hl hk hx hx' hw HEl hs hi
   rcases hs2 with hs | ⟨hs, hs2⟩
   all_goals
    go_enter Tryz.func77, Tryz.ntmps77
    go_wp2_with (go_at_call 42; refine (HP.out _).mono ?_; rintro e w1 ⟨rfl, rfl⟩)
    go_ret
    exact HE.out _ (hB0 _)

end Go.Proofs.YtlfhkjjjocmpbaaGreatDoor.Ar

namespace Go.Proofs.YtlfhkjjjocmpbaaGreatDoor.Ar
open Go Go.RowKit Go.Sort

theorem wrap_nat (n : Nat) (h : n ≤ 512) : wrap64 (n : Int) = n := wrap_small _ (by omega) (by omega)
structure RdS (w : World) (b g n i W : Nat) (c : Cfg) (x : Wy) : Prop where
 h2 : w.cell? ⟨b, 2, none⟩ = some (.int .i64 c.se)
 h3 : w.cell? ⟨b, 3, none⟩ = some (.int .i64 (W : Int))
 h13 : w.cell? ⟨b, 13, none⟩ = some (.slice (some ⟨g, 0, none⟩) n n)
 hr : w.rangeAt g (i * 11) (yc x)
theorem RdS.all {w' : World} {b g n i W : Nat} {c : Cfg} {x : Wy} (h : RdS w' b g n i W c x) : w'.cell? ⟨b, 2, none⟩ = some (.int .i64 c.se) ∧ w'.cell? ⟨b, 3, none⟩ = some (.int .i64 (W : Int)) ∧ w'.cell? ⟨b, 13, none⟩ = some (.slice (some ⟨g, 0, none⟩) n n) ∧ w'.cell? ⟨g, i * 11, none⟩ = some (.int .i64 x.st) ∧ w'.cell? ⟨g, i * 11 + 1, none⟩ = some (.int .i64 x.ln) ∧ w'.cell? ⟨g, i * 11 + 2, none⟩ = some (.int .i64 x.wd.w0) ∧ w'.cell? ⟨g, i * 11 + 3, none⟩ = some (.int .i64 x.wd.w1) ∧ w'.cell? ⟨g, i * 11 + 4, none⟩ = some (.int .i64 x.wd.w2) ∧ w'.cell? ⟨g, i * 11 + 5, none⟩ = some (.int .i64 x.wd.w3) ∧ w'.cell? ⟨g, i * 11 + 6, none⟩ = some (.int .i64 x.wd.w4) ∧ w'.cell? ⟨g, i * 11 + 7, none⟩ = some (.int .i64 x.wd.w5) ∧ w'.cell? ⟨g, i * 11 + 8, none⟩ = some (.int .i64 x.wd.w6) ∧ w'.cell? ⟨g, i * 11 + 9, none⟩ = some (.int .i64 x.wd.w7) ∧ w'.cell? ⟨g, i * 11 + 10, none⟩ = some (.bool x.lk) :=
   ⟨h.h2, h.h3, h.h13, h.hr 0 _ rfl, h.hr 1 _ rfl, h.hr 2 _ rfl, h.hr 3 _ rfl, h.hr 4 _ rfl, h.hr 5 _ rfl, h.hr 6 _ rfl, h.hr 7 _ rfl, h.hr 8 _ rfl, h.hr 9 _ rfl, h.hr 10 _ rfl⟩

set_option maxHeartbeats 2000000 in
theorem refFree_any {w : World} {b g : Nat} {c : Cfg} {L : List Wy} (h : Ar w b g c L) (line : Int) :
  Calls Tryz.prog 73 #[.pointer (some ⟨b, 0, none⟩), .int .i64 line] w fun e w' => e = .returned (.int .i64 (oi (fre c L line))) ∧ Below w.heap.size w w' := by
 have hw := ok_ways h.sz.ok
 have hok := h.sz.ok
 rcases Bool.eq_false_or_eq_true (lnOk c line) with hl | hl
 ·obtain ⟨-, k1, k2⟩ := ok_of_lnOk hl
  have hf : fre c L line = (pt c L line).findIdx? (fun x => !tk x) := by unfold fre; rw [if_pos hl]
  rw [hf]
  have h5 := h.hd 5
  simp at h5
  have hse : 1 ≤ c.se ∧ c.se ≤ 64 := by omega
  have hln : line ≤ 1024 := by omega
  have hne : (c.se == 0) = false := by simp; omega
  have HW : Hid (∀ (wr : World), Below w.heap.size w wr → ∀ k : Nat, (k : Int) < c.wa → ∃ x, (pt c L line)[k]? = some x ∧ (∀ o, (wr.alloc o).rangeAt g ((soN c line + k) * 11) (yc x)) ∧ wr.rangeAt g ((soN c line + k) * 11) (yc x) ∧ soN c line + k < L.length) := Lib.hid (fun wr hb k hk => by
   obtain ⟨x, hx⟩ := h.sz.at_some (line := line) (j := k) (by omega)
   have hp := h.sz.pt_at line k (by omega)
   refine ⟨x, by rw [hp, hx], fun o => ?_, ?_, (List.getElem?_eq_some_iff.1 hx).1⟩
   ·have := (h.below (hb.alloc hb.size o)).ways _ x hx
    rwa [Nat.zero_add] at this
   ·have := (h.below hb).ways _ x hx
    rwa [Nat.zero_add] at this)
  have HH : Hid (∀ (wr : World), Below w.heap.size w wr → wr.cell? ⟨b, 2, none⟩ = some (.int .i64 c.se) ∧ wr.cell? ⟨b, 3, none⟩ = some (.int .i64 c.wa) ∧ wr.cell? ⟨b, 13, none⟩ = some (.slice (some ⟨g, 0, none⟩) L.length L.length)) := Lib.hid (fun wr hb => by
   have h2 := (h.below hb).hd 2
   have h3 := (h.below hb).hd 3
   have h13 := (h.below hb).hd 13
   simp at h2 h3 h13
   exact ⟨h2, h3, h13⟩)
  have HM : Hid (∀ m : Nat, (m : Int) < c.wa → line % c.se * c.wa = (soN c line : Int) ∧ wrap64 (wrap64 (soN c line : Int) + m) = (soN c line + m : Nat)) := Lib.hid (fun m hm => lay_math hok line hm)
  have hlen := h.sz.pt_len line
  have hn512 : L.length ≤ 512 := by
   have := Nat.mul_le_mul (show c.se.toNat ≤ 64 by omega) (show c.wa.toNat ≤ 8 by omega)
   rw [h.sz.len]
   omega
  generalize soN c line = so at *
  generalize pt c L line = l at *
  generalize L.length = n at *
  obtain ⟨W, hW⟩ : ∃ W : Nat, c.wa = W := ⟨c.wa.toNat, by omega⟩
  have hWl : l.length = W := by omega
  have HWW := Lib.hid hW
  have hW8 : W ≤ 8 := by omega
  have hbl := h.bl
  have hgl := h.gl
  clear h hl hf hw hok hlen hW
  go_enter Tryz.func73, Tryz.ntmps73
  go_wp2
  go_loopw [5] (fun i wr => ∃ k : Nat, k ≤ W ∧ i = .int .i64 k ∧ Hid (∀ (j : Nat) (x : Wy), j < k → l[j]? = some x → (!tk x) = false) ∧ Below w.heap.size w wr) (fun i _ => W - (intOf i).toNat)
  case atStart => exact ⟨0, by omega, rfl, Lib.hid (fun j x hj => by omega), Below.refl _ _⟩
  case round =>
   obtain ⟨k, hk, rfl, HJ, hb⟩ := hrel
   obtain ⟨h2, h3, h13⟩ := HH.out wr hb
   rw [HWW.out] at h3
   by_cases hlt : k < W
   ·obtain ⟨x, hx, hr', hr, hi⟩ := HW.out wr hb k (by have := HWW.out; omega)
    obtain ⟨e1, e2⟩ := HM.out k (by have := HWW.out; omega)
    rw [HWW.out] at e1
    have ew1 : wrap64 (so : Int) = so := wrap_nat so (Nat.le_trans (Nat.le_add_right so k) (Nat.le_trans (Nat.le_of_lt hi) hn512))
    rw [ew1] at e2
    obtain ⟨i, hii⟩ : ∃ i, so + k = i := ⟨_, rfl⟩
    rw [hii] at e2 hr' hr hi
    clear hii
    have h2' := fun o => Lib.cell?_alloc_some o h2
    have h3' := fun o => Lib.cell?_alloc_some o h3
    have h13' := fun o => Lib.cell?_alloc_some o h13
    have HS1 : Hid (RdS wr b g n i W c x) := Lib.hid ⟨h2, h3, h13, hr⟩
    have HS2 : Hid (∀ o, RdS (wr.alloc o) b g n i W c x) := Lib.hid (fun o => ⟨h2' o, h3' o, h13' o, hr' o⟩)
    have HX := Lib.hid hx
    clear hr hr' hx h2 h3 h13 h2' h3' h13'
    obtain ⟨h2, h3, h13, hr⟩ := HS1.out
    have q0 := hr 0 _ rfl
    rw [Nat.add_zero] at q0
    have q1 := hr 1 _ rfl
    have q2 := hr 2 _ rfl
    have q3 := hr 3 _ rfl
    have q4 := hr 4 _ rfl
    have q5 := hr 5 _ rfl
    have q6 := hr 6 _ rfl
    have q7 := hr 7 _ rfl
    have q8 := hr 8 _ rfl
    have q9 := hr 9 _ rfl
    have q10 := hr 10 _ rfl
    clear hr
    go_wp2
    have p0 := fun o => (HS2.out o).hr 0 _ rfl
    simp only [Nat.add_zero] at p0
    have p1 := fun o => (HS2.out o).hr 1 _ rfl
    have p2 := fun o => (HS2.out o).hr 2 _ rfl
    have p3 := fun o => (HS2.out o).hr 3 _ rfl
    have p4 := fun o => (HS2.out o).hr 4 _ rfl
    have p5 := fun o => (HS2.out o).hr 5 _ rfl
    have p6 := fun o => (HS2.out o).hr 6 _ rfl
    have p7 := fun o => (HS2.out o).hr 7 _ rfl
    have p8 := fun o => (HS2.out o).hr 8 _ rfl
    have p9 := fun o => (HS2.out o).hr 9 _ rfl
    have p10 := fun o => (HS2.out o).hr 10 _ rfl
    have h2' := fun o => (HS2.out o).h2
    have h3' := fun o => (HS2.out o).h3
    have h13' := fun o => (HS2.out o).h13
    go_region
    clear p0 p1 p2 p3 p4 p5 p6 p7 p8 p9 p10 q0 q1 q2 q3 q4 q5 q6 q7 q8 q9 q10 h2' h3' h13' h2 h3 h13 HS1 HS2 e1 ew1 e2
    have HB : Hid (Below w.heap.size w (wr.alloc (.cells (ycells x) 69)).drew) := Lib.hid (below_drewN (hb.alloc hb.size _) 1)
    have hcb : ∀ o, ((wr.alloc (.cells (ycells x) 69)).drew).cell? ⟨wr.heap.size, o, none⟩ = (ycells x)[o]? := fun o => World.cell?_alloc_mark wr _ 69 (0, 0) o
    generalize (wr.alloc (.cells (ycells x) 69)).drew = w2 at *
    rcases Bool.eq_false_or_eq_true (tk x) with ht | ht
    ·have HK : Hid (∀ (j : Nat) (y : Wy), j < k + 1 → l[j]? = some y → (!tk y) = false) := Lib.hid (fun j y hj hy => by
      by_cases e : j = k
      ·subst e
       obtain rfl : x = y := Option.some.inj (HX.out.symm.trans hy)
       rw [ht]
       rfl
      ·exact HJ.out j y (by omega) hy)
     have hs : (x.st == 0) = false ∨ (x.st == 0) = true ∧ x.lk = true := by
      unfold tk at ht
      rcases Bool.eq_false_or_eq_true (x.st == 0) with hs | hs
      ·refine .inr ⟨hs, ?_⟩
       simp at hs
       simpa [hs] using ht
      ·exact .inl hs
     clear ht hi
     rcases hs with hs | ⟨hs, hs2⟩
     all_goals
      go_wp2
      go_roundw
      case rel => exact ⟨k + 1, by omega, by go_num, HK, HB.out⟩
      case measure => simp [intOf]; omega
    ·have HF : Hid (oi (l.findIdx? (fun x => !tk x)) = k) := Lib.hid (by rw [find_some HX.out (by rw [ht]; rfl) HJ.out]; rfl)
     have hs : (x.st == 0) = true ∧ x.lk = false := by
      unfold tk at ht
      simp at ht
      simpa using ht
     obtain ⟨hs, hs2⟩ := hs
     clear ht hi
     go_wp2
     go_ret
     exact ⟨ret_int HF.out.symm, HB.out⟩
   ·have HK : Hid (oi (l.findIdx? (fun x => !tk x)) = -1) := Lib.hid (by rw [find_none (fun j x hx => HJ.out j x (by have := (List.getElem?_eq_some_iff.1 hx).1; omega) hx)]; rfl)
    go_wp2
    go_ret
    exact ⟨ret_int HK.out.symm, hb⟩
 ·have hf : fre c L line = none := by unfold fre; rw [if_neg (by rw [hl]; decide)]
  rw [hf]
  have hcase : line < 0 ∨ (¬ line < 0 ∧ c.li ≤ line) := by
   unfold lnOk inR at hl
   simp [hok] at hl
   omega
  have h5 := h.hd 5
  simp at h5
  clear h hok hl hf hw
  rcases hcase with k1 | ⟨k1, k2⟩
  all_goals
   go_enter Tryz.func73, Tryz.ntmps73
   go_wp2
   go_ret
   exact ⟨rfl, Below.refl _ _⟩

end Go.Proofs.YtlfhkjjjocmpbaaGreatDoor.Ar
