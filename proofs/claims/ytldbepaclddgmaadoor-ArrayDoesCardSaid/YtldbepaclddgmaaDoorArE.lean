/-
  What Lock, Lay and Set of an array do, one contract each.
-/
import Derived.Test.YtldbepaclddgmaaDoorArD
import Derived.Test.YtldbepaclddgmaaDoorArG
namespace Go.Proofs.YtldbepaclddgmaaDoor
open Go Go.RowKit

theorem cellsOf_set {L : List Wy} {i : Nat} (y : Wy) (hi : i < L.length) (o : Nat) : (cellsOf yc (L.set i y))[o]? = if i * 11 ≤ o ∧ o < i * 11 + 11 then (yc y)[o - i * 11]? else (cellsOf yc L)[o]? := by
  have key : ∀ (M : List Wy) (o : Nat), (cellsOf yc M)[o]? = (M[o / 11]?).bind fun x => (yc x)[o % 11]? := by
    intro M o
    by_cases h : o / 11 < M.length
    · have := cellsOf_at yc_len M (o / 11) (o % 11) h (by omega)
      rw [show o / 11 * 11 + o % 11 = o by omega] at this
      rw [this, List.getElem?_eq_getElem h]
      rfl
    · rw [List.getElem?_eq_none (by rw [cellsOf_len yc_len]; omega), List.getElem?_eq_none (by omega)]
      rfl
  rw [key, key, List.getElem?_set]
  by_cases e : i = o / 11
  · subst e
    rw [if_pos rfl, if_pos hi, if_pos (by omega), show o - o / 11 * 11 = o % 11 by omega]
    rfl
  · rw [if_neg e, if_neg (by omega)]

theorem heap_setCells_other (b : Nat) : ∀ (vs : List Value) (o : Nat) (w : World) (k : Nat), k ≠ b → (w.setCells b o vs).heap[k]? = w.heap[k]?
  | [], _, _, _, _ => rfl
  | v :: r, o, w, k, h => by rw [World.setCells, heap_setCells_other b r (o + 1) _ k h, heap_setCell_other _ _ _ _ h]
theorem setCells_rest (b : Nat) : ∀ (vs : List Value) (o : Nat) (w : World), (w.setCells b o vs).os = w.os ∧ (w.setCells b o vs).tape = w.tape ∧ (w.setCells b o vs).output = w.output ∧ (w.setCells b o vs).heap.size = w.heap.size
  | [], _, _ => ⟨rfl, rfl, rfl, rfl⟩
  | v :: r, o, w => by
    obtain ⟨h1, h2, h3, h4⟩ := setCells_rest b r (o + 1) (w.setCell ⟨b, o, none⟩ v)
    rw [World.setCells]
    exact ⟨h1, h2, h3, by rw [h4]; simp⟩
theorem turn_setCells (g o : Nat) (vs : List Value) (w : World) : TurnG g w (w.setCells g o vs) := by
  obtain ⟨h1, h2, h3, h4⟩ := setCells_rest g vs o w
  exact ⟨h1, h2, h3, by omega, fun k _ hne => heap_setCells_other g vs o w k hne⟩
/-- A way's cells are there, and may be written. -/
theorem Ar.there {w : World} {b g : Nat} {c : Cfg} {L : List Wy} (h : Ar w b g c L) {i : Nat} {x : Wy} (hx : L[i]? = some x) (j n : Nat) (hj : j + n ≤ 11) : w.there g (i * 11 + j) n := by
  intro m hm
  refine ⟨?_, h.fz _⟩
  have := h.ways i x hx (j + m) ((yc x)[j + m]'(by rw [yc_len]; omega)) (List.getElem?_eq_getElem _)
  rw [Nat.zero_add, ← Nat.add_assoc] at this
  rw [this]
  rfl
/-- Some cells of a way are set anew. -/
theorem Ar.store {w : World} {b g : Nat} {c : Cfg} {L : List Wy} (h : Ar w b g c L) {i : Nat} {x : Wy} (hx : L[i]? = some x) (y : Wy) (j : Nat) (vs : List Value) (hj : j + vs.length ≤ 11)
    (hin : ∀ m, m < vs.length → (yc y)[j + m]? = vs[m]?) (hout : ∀ m, m < 11 → m < j ∨ j + vs.length ≤ m → (yc y)[m]? = (yc x)[m]?) : Ar (w.setCells g (i * 11 + j) vs) b g c (L.set i y) := by
  have hi := (List.getElem?_eq_some_iff.1 hx).1
  have hs := (setCells_rest g vs (i * 11 + j) w).2.2.2
  refine ⟨fun o => ?_, by rw [hs]; exact h.bl, fun o => ?_, fun o => (World.frozen?_setCells g vs _ w _).trans (h.fz o), by rw [hs]; exact h.gl, h.ne, h.sz.set _ _, h.fits⟩
  · rw [List.length_set]
    exact (World.cell?_of_block (a := ⟨b, o, none⟩) (heap_setCells_other g vs _ w b h.ne)).trans (h.hd o)
  · rw [cellsOf_set y hi]
    by_cases hm : i * 11 + j ≤ o ∧ o < i * 11 + j + vs.length
    · obtain ⟨m, rfl⟩ : ∃ m, o = i * 11 + j + m := ⟨o - (i * 11 + j), by omega⟩
      rw [World.cell?_setCells_in g vs _ w (fun m hm => (h.there hx j vs.length hj m hm).1) m (by omega), if_pos (by omega), show i * 11 + j + m - i * 11 = j + m by omega, hin m (by omega), List.getElem?_eq_getElem]
    · rw [World.cell?_setCells_out g vs _ w ⟨g, o, none⟩ (fun _ _ => by show o < _ ∨ _ ≤ o; omega), h.row o]
      split
      · rename_i hr
        rw [hout (o - i * 11) (by omega) (by omega)]
        have := cellsOf_at yc_len L i (o - i * 11) hi (by omega)
        rw [show i * 11 + (o - i * 11) = o by omega] at this
        rw [this]
        obtain ⟨_, rfl⟩ := List.getElem?_eq_some_iff.1 hx
        rfl
      · rfl

theorem lockP_no {c : Cfg} {L : List Wy} {line : Int} (q : Bool) (hp : plc c L line = none) : lockP c L line q = (5, L) := by unfold lockP; rw [hp]
theorem lockP_yes {c : Cfg} {L : List Wy} {line : Int} (q : Bool) {k : Nat} {x : Wy} (hp : plc c L line = some k) (hx : L[soN c line + k]? = some x) : lockP c L line q = (0, L.set (soN c line + k) (lockY q x)) := by unfold lockP; rw [hp, ← upd_some _ hx]
theorem setP_no {c : Cfg} {L : List Wy} {line : Int} (st : Int) (d : Wd) (hp : plc c L line = none) : setP c L line st d = (5, L) := by unfold setP; rw [hp]
theorem setP_bad {c : Cfg} {L : List Wy} {line : Int} (st : Int) (d : Wd) {k : Nat} (hp : plc c L line = some k) (hs : ¬ (stOk st = true ∧ wOk c d = true)) : setP c L line st d = (1, L) := by
  unfold setP
  rw [hp]
  exact if_neg hs
theorem setP_yes {c : Cfg} {L : List Wy} {line : Int} (st : Int) (d : Wd) {k : Nat} {x : Wy} (hp : plc c L line = some k) (hs : stOk st = true ∧ wOk c d = true) (hx : L[soN c line + k]? = some x) : setP c L line st d = (0, L.set (soN c line + k) (setY st d x)) := by
  unfold setP
  rw [hp, ← upd_some _ hx]
  exact if_pos hs
theorem layP_bad {c : Cfg} {L : List Wy} {line way : Int} (h : lnOk c line = false ∨ way < 0 ∨ c.wa ≤ way) : layP c L line way = (1, L) := by unfold layP; rw [if_pos h]
theorem layP_twice {c : Cfg} {L : List Wy} {line way : Int} (h : ¬ (lnOk c line = false ∨ way < 0 ∨ c.wa ≤ way)) {k : Nat} (hp : plc c L line = some k) : layP c L line way = (6, L) := by unfold layP; rw [if_neg h, if_pos (by rw [hp]; rfl)]
theorem layP_full {c : Cfg} {L : List Wy} {line way : Int} (h : ¬ (lnOk c line = false ∨ way < 0 ∨ c.wa ≤ way)) (hp : plc c L line = none) (ht : tkAt L (soN c line + way.toNat) = true) : layP c L line way = (4, L) := by unfold layP; rw [if_neg h, if_neg (by rw [hp]; simp), if_pos ht]
theorem layP_yes {c : Cfg} {L : List Wy} {line way : Int} (h : ¬ (lnOk c line = false ∨ way < 0 ∨ c.wa ≤ way)) (hp : plc c L line = none) (ht : tkAt L (soN c line + way.toNat) = false) : layP c L line way = (0, L.set (soN c line + way.toNat) (newY line)) := by unfold layP; rw [if_neg h, if_neg (by rw [hp]; simp), if_neg (by rw [ht]; simp)]

/-- What a change of an array gives: an answer, and its ways. -/
structure GaveA (w : World) (b g : Nat) (c : Cfg) (r : Int × List Wy) (e : Ending) (w' : World) : Prop where
  res : e = .returned (.int .i64 r.1)
  ar : Ar w' b g c r.2
  turn : TurnG g w w'

set_option maxHeartbeats 1000000 in
theorem lock_any {w : World} {b g : Nat} {c : Cfg} {L : List Wy} (h : Ar w b g c L) (hT : Tb w) (line : Int) (q : Bool) :
    Calls Tryd.prog 22 #[.pointer (some ⟨b, 0, none⟩), .int .i64 line, .bool q] w (GaveA w b g c (lockP c L line q)) := by
  rcases hp : plc c L line with _ | k
  · have HW := Lib.hid (wayOf_no h hT line hp)
    have HE : Hid (∀ w', Below w.heap.size w w' → GaveA w b g c (lockP c L line q) (.returned (.int .i64 5)) w') := Lib.hid (fun w' hb => by
      rw [lockP_no q hp]
      exact ⟨rfl, h.below hb, .of_below hb⟩)
    clear h hT hp
    go_enter Tryd.func22, Tryd.ntmps22
    go_wp2_with (go_at_call 32; refine HW.out.mono ?_; rintro e w1 ⟨rfl, hb1⟩)
    go_ret
    exact HE.out _ hb1
  · obtain ⟨hl, hk, x, hx, hx'⟩ := h.sz.plc_some hp
    have HW := Lib.hid (wayOf_yes h hT line k hp)
    have HE : Hid (∀ w1, Below w.heap.size w w1 → GaveA w b g c (lockP c L line q) (.returned (.int .i64 0)) (w1.setCell ⟨g, soN c line * 11 + k * 11 + 10, none⟩ (.bool q))) := Lib.hid (fun w1 hb => by
      rw [lockP_yes q hp hx]
      have hs := (h.below hb).store hx (lockY q x) 10 [.bool q] (by simp) (fun m hm => by simp at hm; subst hm; rfl) (fun m hm hm2 => by
        simp at hm2
        have : m < 10 := by omega
        rcases (show m = 0 ∨ m = 1 ∨ m = 2 ∨ m = 3 ∨ m = 4 ∨ m = 5 ∨ m = 6 ∨ m = 7 ∨ m = 8 ∨ m = 9 by omega) with rfl | rfl | rfl | rfl | rfl | rfl | rfl | rfl | rfl | rfl
        all_goals rfl)
      have ht := turn_setCells g ((soN c line + k) * 11 + 10) [.bool q] w1
      rw [Nat.add_mul] at hs ht
      exact ⟨rfl, hs, (TurnG.of_below hb).trans ht⟩)
    have HC : Hid (∀ w1, Below w.heap.size w w1 → w1.cell? ⟨g, soN c line * 11 + k * 11 + 10, none⟩ = some (.bool x.lk) ∧ w1.frozen? ⟨g, soN c line * 11 + k * 11 + 10, none⟩ = false) := Lib.hid (fun w1 hb => ⟨(h.below hb).way_at hx 10 _ rfl, (h.below hb).fz _⟩)
    generalize soN c line = so at *
    clear h hT hp hl hk hx hx'
    go_enter Tryd.func22, Tryd.ntmps22
    go_wp2_with (go_at_call 32; refine HW.out.mono ?_; rintro e w1 ⟨rfl, hb1⟩; obtain ⟨hc1, hf1⟩ := HC.out _ hb1)
    go_ret
    exact HE.out _ hb1

set_option maxHeartbeats 2000000 in
/-- Lay. -/
theorem lay_any {w : World} {b g : Nat} {c : Cfg} {L : List Wy} (h : Ar w b g c L) (hT : Tb w) (line way : Int) :
    Calls Tryd.prog 23 #[.pointer (some ⟨b, 0, none⟩), .int .i64 line, .int .i64 way] w (GaveA w b g c (layP c L line way)) := by
  have HEl : ∀ n, layP c L line way = (n, L) → Hid (∀ w', Below w.heap.size w w' → GaveA w b g c (layP c L line way) (.returned (.int .i64 n)) w') := fun n e => Lib.hid (fun w' hb => by
    rw [e]
    exact ⟨rfl, h.below hb, .of_below hb⟩)
  have hw := ok_ways h.sz.ok
  rcases Bool.eq_false_or_eq_true (lnOk c line) with hl | hl
  · have HS := Lib.hid (setOf_yes h hT line hl)
    by_cases hn : way < 0 ∨ (c.wa.toNat : Int) ≤ way
    · have HE := HEl 1 (layP_bad (by omega))
      unfold lset at HS
      generalize soN c line = so at *
      generalize c.wa.toNat = W at *
      clear h hT hl hw
      rcases (show way < 0 ∨ ¬ way < 0 ∧ (W : Int) ≤ way by omega) with hk | ⟨hk0, hk⟩
      all_goals
        go_enter Tryd.func23, Tryd.ntmps23
        go_wp2_with (go_at_call 27; refine HS.out.mono ?_; rintro e w1 ⟨rfl, hb1⟩)
        go_ret
        exact HE.out _ hb1
    · obtain ⟨m, rfl⟩ : ∃ m : Nat, way = m := ⟨way.toNat, by omega⟩
      have hbad : ¬ (lnOk c line = false ∨ (m : Int) < 0 ∨ c.wa ≤ (m : Int)) := by
        rw [hl]
        rintro (e | e | e)
        · cases e
        · omega
        · omega
      have HP := Lib.hid (fun w1 (hb : Below w.heap.size w w1) => placeOf_at (h.below hb) line hl)
      have hm : (m : Int) < (c.wa.toNat : Int) := by omega
      have hm0 : ¬ (m : Int) < 0 := by omega
      rcases hp : plc c L line with _ | k
      · rw [hp] at HP
        obtain ⟨x, hx⟩ := h.sz.at_some (line := line) (j := m) (by omega)
        have HR := Lib.hid (fun w1 (hb : Below w.heap.size w w1) => (h.below hb).way_at hx)
        rcases Bool.eq_false_or_eq_true (tk x) with ht | ht
        · have HE := HEl 4 (layP_full hbad hp (by rw [Int.toNat_natCast, tkAt_some hx, ht]))
          unfold lset at HS HP
          generalize soN c line = so at *
          generalize c.wa.toNat = W at *
          clear h hT hl hw hp hbad hx HEl
          go_enter Tryd.func23, Tryd.ntmps23
          go_wp2_with (first
            | (go_at_call 27; refine HS.out.mono ?_; rintro e w1 ⟨rfl, hb1⟩)
            | (go_at_call 28; refine (HP.out _ hb1).mono ?_; rintro e w2 ⟨rfl, hb2⟩; simp only [oi])
            | (go_at_call 29; refine (taken_any x _).mono ?_; rintro e w3 ⟨rfl, hb3⟩; rw [ht])
            | ((with_reducible refine wpList_load_mid (op := ⟨some 29, _, _, _, _, _⟩) rfl 43 (.tmp 28) rfl g (so * 11 + m * 11) ?lx (yc x) _ ?lc Tryd.underlying43 ?ld ?li ?_); (case lx => rfl); (case lc => exact HR.out _ (bstep hb1 hb2)); (case ld => rfl); (case li => kernel_rfl)))
          go_ret
          exact HE.out _ (bstep (bstep hb1 hb2) hb3)
        · have HE : Hid (∀ w1, Below w.heap.size w w1 → w1.there g (soN c line * 11 + m * 11) 11 ∧ GaveA w b g c (layP c L line m) (.returned (.int .i64 0)) (w1.setCells g (soN c line * 11 + m * 11) (yc (newY line)))) := Lib.hid (fun w1 hb => by
            rw [layP_yes hbad hp (by rw [Int.toNat_natCast, tkAt_some hx, ht]), Int.toNat_natCast]
            have hs := (h.below hb).store hx (newY line) 0 (yc (newY line)) (by rw [yc_len]; omega) (fun j _ => by rw [Nat.zero_add]) (fun j h1 h2 => by rw [yc_len] at h2; omega)
            have ht := turn_setCells g ((soN c line + m) * 11 + 0) (yc (newY line)) w1
            have hth := (h.below hb).there hx 0 11 (by omega)
            rw [Nat.add_zero, Nat.add_mul] at hs ht hth
            exact ⟨hth, rfl, hs, (TurnG.of_below hb).trans ht⟩)
          unfold lset at HS HP
          generalize soN c line = so at *
          generalize c.wa.toNat = W at *
          clear h hT hl hw hp hbad hx HEl
          go_enter Tryd.func23, Tryd.ntmps23
          go_wp2_with (first
            | (go_at_call 27; refine HS.out.mono ?_; rintro e w1 ⟨rfl, hb1⟩)
            | (go_at_call 28; refine (HP.out _ hb1).mono ?_; rintro e w2 ⟨rfl, hb2⟩; simp only [oi])
            | (go_at_call 29; refine (taken_any x _).mono ?_; rintro e w3 ⟨rfl, hb3⟩; rw [ht]; have hE := HE.out _ (bstep (bstep hb1 hb2) hb3))
            | ((with_reducible refine wpList_load_mid (op := ⟨some 29, _, _, _, _, _⟩) rfl 43 (.tmp 28) rfl g (so * 11 + m * 11) ?lx (yc x) _ ?lc Tryd.underlying43 ?ld ?li ?_); (case lx => rfl); (case lc => exact HR.out _ (bstep hb1 hb2)); (case ld => rfl); (case li => kernel_rfl))
            | ((with_reducible refine wpList_store_mid (op := ⟨none, _, _, _, _, _⟩) rfl 43 (.tmp 35) (.tmp 34) rfl g (so * 11 + m * 11) (ycells (newY line)) ?sx ?sy ?st ?si ?s1 ?_); (case sx => rfl); (case sy => rfl); (case st => exact hE.1); (case si => kernel_rfl); (case s1 => kernel_rfl)))

          go_ret
          exact hE.2
      · rw [hp] at HP
        have HE := HEl 6 (layP_twice hbad hp)
        have hn := nat_neq2 k
        unfold lset at HS HP
        generalize soN c line = so at *
        generalize c.wa.toNat = W at *
        clear h hT hl hw hp hbad HEl
        go_enter Tryd.func23, Tryd.ntmps23
        go_wp2_with (first
          | (go_at_call 27; refine HS.out.mono ?_; rintro e w1 ⟨rfl, hb1⟩)
          | (go_at_call 28; refine (HP.out _ hb1).mono ?_; rintro e w2 ⟨rfl, hb2⟩; simp only [oi]))
        go_ret
        exact HE.out _ (bstep hb1 hb2)
  · have HS := Lib.hid (setOf_no h hT line hl)
    have HE := HEl 1 (layP_bad (.inl hl))
    clear h hT hl hw
    rcases Int.lt_or_le way 0 with hk | hk
    all_goals
      go_enter Tryd.func23, Tryd.ntmps23
      go_wp2_with (go_at_call 27; refine HS.out.mono ?_; rintro e w1 ⟨rfl, hb1⟩)
      go_ret
      exact HE.out _ hb1

end Go.Proofs.YtldbepaclddgmaaDoor
