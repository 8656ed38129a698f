/-
  The document's array: where a line is, New, Lock, Lines.
-/
import Derived.Test.YtldbepaclddgmaaDoorArI
import Derived.Test.YtldbepaclddgmaaDoorRef1
import Derived.Deep.AppendLies
namespace Go.Proofs.YtldbepaclddgmaaDoor
open Go Go.RowKit Go.Sort

theorem A46 : (Tryd.prog.info? 46).map (fun i => (i.zero, i.size, i.bytes)) = some (some (.agg (ycells y0)), 11, 88) := by kernel_rfl
theorem refNew_no (c : Cfg) (w : World) (hok : okC c = false) :
    Calls Tryd.prog 8 #[cv c] w fun e w' => e = .returned (.tuple #[.pointer none, .int .i64 1]) ∧ Below w.heap.size w w' := by
  have HC := Lib.hid (fun w => refCheck_any c w)
  have h0 : chk c = 1 := by simp [chk, hok]
  rw [h0] at HC
  clear hok
  go_enter Tryd.func8, Tryd.ntmps8
  go_wp2_with (go_at_call 25; refine (HC.out _).mono ?_; rintro e w1 ⟨rfl, hb1⟩)
  go_ret2
  exact ⟨rfl, bbox hb1⟩
set_option maxHeartbeats 1000000 in
theorem refNew_yes (c : Cfg) (w : World) (hc : c.fits) (hok : okC c = true) :
    Calls Tryd.prog 8 #[cv c] w (NewA w c) := by
  have HC := Lib.hid (fun w => refCheck_any c w)
  have h0 : chk c = 0 := by simp [chk, hok]
  rw [h0] at HC
  obtain ⟨n, hn, e1, e2, h512⟩ := size_math hok
  have hmk : ∀ w : World, (Instr.makeSlice 55 (.int .i64 (n : Int)) (.int .i64 (n : Int))).run Tryd.prog w = .ok (.slice (some ⟨w.heap.size, 0, none⟩) n n) (w.alloc (.cells (madeCells (ycells y0) (n * 11)) 46)) := by
    intro w
    have hi : ∃ i : TypeInfo, Tryd.prog.info? 46 = some i ∧ i.zero = some (.agg (ycells y0)) ∧ i.size = 11 ∧ i.bytes = 88 := by
      have := A46
      cases hi : Tryd.prog.info? 46 with
      | none => rw [hi] at this; cases this
      | some i =>
        rw [hi] at this
        simp only [Option.map_some, Option.some.injEq, Prod.mk.injEq] at this
        exact ⟨i, rfl, this.1, this.2.1, this.2.2⟩
    obtain ⟨i, hi, hz, hs, hbt⟩ := hi
    have := run_make (P := Tryd.prog) w 55 46 i (.agg (ycells y0)) Tryd.underlying55 hi hz .i64 .i64 n n (by omega) (by omega) (by rw [hbt]; omega) (by omega)
    rw [hs] at this
    simpa [Value.cells] using this
  have HE : Hid (∀ w1, Below w.heap.size w w1 → NewA w c (.returned (.tuple #[.pointer (some ⟨w1.heap.size + 1, 0, none⟩), .int .i64 0])) ((w1.alloc (.cells (madeCells (ycells y0) (n * 11)) 46)).alloc (.cells (acells c w1.heap.size n) 57)).drew) := Lib.hid (fun w1 hb => newA_of hok hc _ _ hn hb)
  clear hc hok h0 hn
  go_enter Tryd.func8, Tryd.ntmps8
  go_wp2_with (go_at_call 25; refine (HC.out _).mono ?_; rintro e w1 ⟨rfl, hb1⟩)
  have hcc := blk_cells (box_at hb1)
  have hlt := zbox hb1
  have hcc2 : ∀ ob o, (w1.alloc ob).cell? ⟨w.heap.size, o, none⟩ = w1.cell? ⟨w.heap.size, o, none⟩ := fun ob o => World.cell?_alloc_lt w1 ob ⟨w.heap.size, o, none⟩ hlt
  have hE := HE.out _ (bbox hb1)
  clear HE HC
  go_region
  all_goals
    go_wp2
    go_ret2
    exact hE


/-- Where a line is among all ways. -/
theorem plcR_none {line : Int} {L : List Wy} (h : ∀ (j : Nat) (x : Wy), L[j]? = some x → isL line x = false) : plcR L line = none := find_none h
set_option maxHeartbeats 1000000 in
theorem place_any {w : World} {b g : Nat} {c : Cfg} {L : List Wy} (h : Ar w b g c L) (line : Int) :
    Calls Tryd.prog 26 #[.pointer (some ⟨b, 0, none⟩), .int .i64 line] w fun e w' => e = .returned (.int .i64 (oi (plcR L line))) ∧ w = w' := by
  have hn : L.length ≤ 512 := by
    have hw := ok_ways h.sz.ok
    have := Nat.mul_le_mul (show c.se.toNat ≤ 64 by omega) (show c.wa.toNat ≤ 8 by omega)
    rw [h.sz.len]
    omega
  have h13 := h.hd 13
  simp at h13
  have HL := Lib.hid h.ways
  clear h
  go_enter Tryd.func26, Tryd.ntmps26
  go_wp2
  go_loopw [5] (fun i wr => ∃ k : Nat, k ≤ L.length ∧ i = .int .i64 k ∧ Hid (∀ (j : Nat) (x : Wy), j < k → L[j]? = some x → isL line x = false) ∧ w = wr) (fun i _ => L.length - (intOf i).toNat)
  case atStart => exact ⟨0, by omega, rfl, Lib.hid (fun j x hj => by omega), rfl⟩
  case round =>
    obtain ⟨k, hk, rfl, HJ, rfl⟩ := hrel
    by_cases hlt : k < L.length
    · obtain ⟨x, hx⟩ : ∃ x, L[k]? = some x := ⟨_, List.getElem?_eq_getElem hlt⟩
      have hr := HL.out k x hx
      rw [Nat.zero_add] at hr
      have q0 := hr 0 _ rfl
      rw [Nat.add_zero] at q0
      have q1 := hr 1 _ rfl
      have q10 := hr 10 _ rfl
      have HX := Lib.hid hx
      clear hr hx
      rcases Bool.eq_false_or_eq_true (isL line x) with hi | hi
      · have HS : Hid (oi (plcR L line) = k) := Lib.hid (by rw [show plcR L line = some k from find_some HX.out hi HJ.out]; rfl)
        obtain ⟨e1, e2⟩ := isL_iff.1 hi
        have e1' : (x.ln == line) = true := by simpa using e1
        have hs : (x.st != 0) = true ∨ (x.st != 0) = false ∧ x.lk = true := by
          unfold tk at e2
          rcases Bool.eq_false_or_eq_true (x.st != 0) with hs | hs
          · exact .inl hs
          · exact .inr ⟨hs, by rw [hs] at e2; simpa using e2⟩
        clear e1 e2 hi
        rcases hs with hs | ⟨hs, hs2⟩
        all_goals
          go_wp2
          go_ret
          exact ⟨ret_int HS.out.symm, rfl⟩
      · have HK : Hid (∀ (j : Nat) (y : Wy), j < k + 1 → L[j]? = some y → isL line y = false) := Lib.hid (fun j y hj hy => by
          by_cases e : j = k
          · subst e
            obtain rfl : x = y := Option.some.inj (HX.out.symm.trans hy)
            exact hi
          · exact HJ.out j y (by omega) hy)
        have hs : (x.ln == line) = false ∨ (x.ln == line) = true ∧ (x.st != 0) = false ∧ x.lk = false := by
          unfold isL tk at hi
          rcases Bool.eq_false_or_eq_true (x.ln == line) with h1 | h1
          · rw [h1, Bool.true_and, Bool.or_eq_false_iff] at hi
            exact .inr ⟨h1, hi⟩
          · exact .inl h1
        clear hi
        rcases hs with hs | ⟨hs, hs2, hs3⟩
        all_goals
          go_wp2
          go_roundw
          case rel => exact ⟨k + 1, by omega, by go_num, HK, trivial⟩
          case measure => simp [intOf]; omega
    · have HK : Hid (oi (plcR L line) = -1) := Lib.hid (by rw [plcR_none (fun j x hx => HJ.out j x (by have := (List.getElem?_eq_some_iff.1 hx).1; omega) hx)]; rfl)
      go_wp2
      go_ret
      exact ⟨ret_int HK.out.symm, rfl⟩
/-- Where a line is, if each lies in its set. -/
theorem place_yes {w : World} {b g : Nat} {c : Cfg} {L : List Wy} (h : Ar w b g c L) (gd : Good c L) (line : Int) {k : Nat} (hp : plc c L line = some k) :
    Calls Tryd.prog 26 #[.pointer (some ⟨b, 0, none⟩), .int .i64 line] w fun e w' => e = .returned (.int .i64 (soN c line + k : Nat)) ∧ w = w' := by
  have := place_any h line
  rw [gd.plcR h.sz line, hp] at this
  exact this
theorem place_no {w : World} {b g : Nat} {c : Cfg} {L : List Wy} (h : Ar w b g c L) (gd : Good c L) (line : Int) (hp : plc c L line = none) :
    Calls Tryd.prog 26 #[.pointer (some ⟨b, 0, none⟩), .int .i64 line] w fun e w' => e = .returned (.int .i64 (-1)) ∧ w = w' := by
  have := place_any h line
  rw [gd.plcR h.sz line, hp] at this
  exact this
set_option maxHeartbeats 1000000 in
theorem refLock_any {w : World} {b g : Nat} {c : Cfg} {L : List Wy} (h : Ar w b g c L) (gd : Good c L) (line : Int) (q : Bool) :
    Calls Tryd.prog 12 #[.pointer (some ⟨b, 0, none⟩), .int .i64 line, .bool q] w (GaveA w b g c (lockP c L line q)) := by
  rcases hp : plc c L line with _ | k
  · have HP := Lib.hid (place_no h gd line hp)
    have HE : Hid (GaveA w b g c (lockP c L line q) (.returned (.int .i64 5)) w) := Lib.hid (by
      rw [lockP_no q hp]
      exact ⟨rfl, h, .of_below (Below.refl _ _)⟩)
    clear h gd hp
    go_enter Tryd.func12, Tryd.ntmps12
    go_wp2_with (go_at_call 26; refine HP.out.mono ?_; rintro e w1 ⟨rfl, rfl⟩)
    go_ret
    exact HE.out
  · obtain ⟨hl, hk, x, hx, hx'⟩ := h.sz.plc_some hp
    have HP := Lib.hid (place_yes h gd line hp)
    have hw := ok_ways h.sz.ok
    have hi := (List.getElem?_eq_some_iff.1 hx).1
    have hn : L.length ≤ 512 := by
      have := Nat.mul_le_mul (show c.se.toNat ≤ 64 by omega) (show c.wa.toNat ≤ 8 by omega)
      rw [h.sz.len]
      omega
    have HE : Hid (GaveA w b g c (lockP c L line q) (.returned (.int .i64 0)) (w.setCell ⟨g, (soN c line + k) * 11 + 10, none⟩ (.bool q))) := Lib.hid (by
      rw [lockP_yes q hp hx]
      have hs := h.store hx (lockY q x) 10 [.bool q] (by simp) (fun m hm => by simp at hm; subst hm; rfl) (fun m hm hm2 => by
        simp at hm2
        have : m < 10 := by omega
        rcases (show m = 0 ∨ m = 1 ∨ m = 2 ∨ m = 3 ∨ m = 4 ∨ m = 5 ∨ m = 6 ∨ m = 7 ∨ m = 8 ∨ m = 9 by omega) with rfl | rfl | rfl | rfl | rfl | rfl | rfl | rfl | rfl | rfl
        all_goals rfl)
      exact ⟨rfl, hs, turn_setCells g ((soN c line + k) * 11 + 10) [.bool q] w⟩)
    have hc1 : w.cell? ⟨g, (soN c line + k) * 11 + 10, none⟩ = some (.bool x.lk) := by
      have := h.ways _ x hx 10 (.bool x.lk) rfl
      rwa [Nat.zero_add] at this
    have hf1 := h.fz ((soN c line + k) * 11 + 10)
    have h13 := h.hd 13
    simp at h13
    generalize soN c line + k = i at *
    clear h gd hp hl hk hx hx' hw
    go_enter Tryd.func12, Tryd.ntmps12
    go_wp2_with (go_at_call 26; refine HP.out.mono ?_; rintro e w1 ⟨rfl, rfl⟩)
    go_ret
    exact HE.out

end Go.Proofs.YtldbepaclddgmaaDoor
