/-
  Where a line stands: IndexFunc, placeOf, part, setOf, wayOf, one contract each.
-/
import Derived.Test.YtldbepaclddgmaaDoorArA
namespace Go.Proofs.YtldbepaclddgmaaDoor
open Go Go.RowKit

theorem find_none {p : Wy → Bool} {l : List Wy} (h : ∀ (j : Nat) (x : Wy), l[j]? = some x → p x = false) : l.findIdx? p = none := by
  rw [List.findIdx?_eq_none_iff]
  intro x hx
  obtain ⟨j, hj, rfl⟩ := List.getElem_of_mem hx
  exact h j _ (List.getElem?_eq_getElem hj)
theorem find_some {p : Wy → Bool} {l : List Wy} {k : Nat} {x : Wy} (hk : l[k]? = some x) (hx : p x = true) (h : ∀ (j : Nat) (y : Wy), j < k → l[j]? = some y → p y = false) : l.findIdx? p = some k := by
  obtain ⟨hl, rfl⟩ := List.getElem?_eq_some_iff.1 hk
  rw [List.findIdx?_eq_some_iff_getElem]
  refine ⟨hl, hx, fun j hj => ?_⟩
  have := h j _ hj (List.getElem?_eq_getElem (by omega))
  simpa using this

abbrev isF (p : Addr) : Value := .func (.func 41) #[] #[.pointer (some p)]

set_option maxHeartbeats 1000000 in
/-- IndexFunc over a line's set. -/
theorem indexFunc_any (g o : Nat) (l : List Wy) (cp : Nat) (p : Addr) (line : Int) (w : World) (hl : WysIn w g o l) (hg : g < w.heap.size) (hn : l.length ≤ 5000) (hp : w.cell? p = some (.int .i64 line)) (hpb : p.block < w.heap.size) :
    Calls Tryd.prog 40 #[.slice (some ⟨g, o, none⟩) l.length cp, isF p] w fun e w' => e = .returned (.int .i64 (oi (l.findIdx? (isL line)))) ∧ Below w.heap.size w w' := by
  have HL := Lib.hid hl
  have HP := Lib.hid hp
  clear hl hp
  go_enter Tryd.func40, Tryd.ntmps40
  go_wp2
  go_loopw [8] (fun i wr => ∃ k : Nat, k ≤ l.length ∧ i = .int .i64 k ∧ Hid (∀ (j : Nat) (x : Wy), j < k → l[j]? = some x → isL line x = false) ∧ Below w.heap.size w wr) (fun i _ => l.length - (intOf i).toNat)
  case atStart => exact ⟨0, by omega, rfl, Lib.hid (fun j x hj => by omega), Below.refl _ _⟩
  case round =>
    obtain ⟨k, hk, rfl, HJ, hb⟩ := hrel
    by_cases hlt : k < l.length
    · obtain ⟨x, hx⟩ : ∃ x, l[k]? = some x := ⟨_, List.getElem?_eq_getElem hlt⟩
      have HR := Lib.hid (HL.out.below hg hb k x hx)
      have HC := Lib.hid ((hb.cell hpb).trans HP.out)
      have HX := Lib.hid hx
      clear hx
      go_wp2_with (first
        | ((with_reducible refine wpList_load_mid (op := ⟨some 15, _, _, _, _, _⟩) rfl 43 (.tmp 14) rfl g (o + k * 11) ?lx (yc x) _ ?lc Tryd.underlying43 ?ld ?li ?_); (case lx => rfl); (case lc => exact HR.out); (case ld => rfl); (case li => kernel_rfl))
        | (go_at_call 41; refine (isIt_any x p line _ HC.out).mono ?_; rintro e w1 ⟨rfl, hb1⟩))
      · have h : isL line x = true := by assumption
        go_ret
        exact ⟨ret_int (by rw [find_some HX.out h HJ.out]; rfl), bstep hb hb1⟩
      · have h : isL line x = false := by assumption
        have HK : Hid (∀ (j : Nat) (y : Wy), j < k + 1 → l[j]? = some y → isL line y = false) := Lib.hid (fun j y hj hy => by
          by_cases e : j = k
          · subst e
            obtain rfl : x = y := Option.some.inj (HX.out.symm.trans hy)
            exact h
          · exact HJ.out j y (by omega) hy)
        have hB := bstep hb hb1
        clear h
        go_roundw
        case rel => exact ⟨k + 1, by omega, by go_num, HK, hB⟩
        case measure => simp [intOf]; omega
    · have HK : Hid (oi (l.findIdx? (isL line)) = -1) := Lib.hid (by rw [find_none (fun j x hx => HJ.out j x (by have := (List.getElem?_eq_some_iff.1 hx).1; omega) hx)]; rfl)
      go_wp2
      go_ret
      exact ⟨ret_int HK.out.symm, hb⟩
theorem indexFunc_nil (cp : Nat) (p : Addr) (w : World) :
    Calls Tryd.prog 40 #[.slice none 0 cp, isF p] w fun e w' => e = .returned (.int .i64 (-1)) ∧ w = w' := by
  go_enter Tryd.func40, Tryd.ntmps40
  go_wp2
  go_loopw [8] (fun i wr => i = .int .i64 0 ∧ w = wr) (fun i _ => 0)
  case atStart => exact ⟨rfl, rfl⟩
  case round =>
    obtain ⟨rfl, rfl⟩ := hrel
    go_wp2
    go_ret
    exact ⟨rfl, rfl⟩

theorem placeOf_any (g o : Nat) (l : List Wy) (cp : Nat) (line : Int) (w : World) (hl : WysIn w g o l) (hg : g < w.heap.size) (hn : l.length ≤ 5000) :
    Calls Tryd.prog 28 #[.slice (some ⟨g, o, none⟩) l.length cp, .int .i64 line] w fun e w' => e = .returned (.int .i64 (oi (l.findIdx? (isL line)))) ∧ Below w.heap.size w w' := by
  have hmf : ∀ (fn : Fn) (first cap : Array Value) (w : World), (Instr.makeFunc fn first cap).run Tryd.prog w = .ok (.func fn first cap) w := fun _ _ _ _ => rfl
  have hb0 : Below w.heap.size w (w.alloc (.cells #[.int .i64 line] 3)) := (Below.refl _ _).alloc (Nat.le_refl _) _
  have HC := Lib.hid (indexFunc_any g o l cp ⟨w.heap.size, 0, none⟩ line (w.alloc (.cells #[.int .i64 line] 3)) (hl.below hg hb0) (by simp; omega) hn (by simp) (by simp))
  clear hl hb0
  go_enter Tryd.func28, Tryd.ntmps28
  go_wp2_with (go_at_call 40; refine HC.out.mono ?_; rintro e w1 ⟨rfl, hb1⟩)
  go_ret
  exact ⟨rfl, bbox hb1⟩
theorem placeOf_nil (cp : Nat) (line : Int) (w : World) :
    Calls Tryd.prog 28 #[.slice none 0 cp, .int .i64 line] w fun e w' => e = .returned (.int .i64 (-1)) ∧ Below w.heap.size w w' := by
  have hmf : ∀ (fn : Fn) (first cap : Array Value) (w : World), (Instr.makeFunc fn first cap).run Tryd.prog w = .ok (.func fn first cap) w := fun _ _ _ _ => rfl
  go_enter Tryd.func28, Tryd.ntmps28
  go_wp2_with (go_at_call 40; refine (indexFunc_nil cp _ _).mono ?_; rintro e w1 ⟨rfl, rfl⟩)
  go_ret
  exact ⟨rfl, (Below.refl _ _).alloc (Nat.le_refl _) _⟩

/-- A set's ways, as a slice. -/
abbrev sset (c : Cfg) (g s : Nat) : Value := .slice (some ⟨g, s * c.wa.toNat * 11, none⟩) c.wa.toNat c.wa.toNat
theorem wrap_small (x : Int) (h0 : 0 ≤ x) (h1 : x ≤ 1000000) : wrap64 x = x := by unfold wrap64; omega
theorem part_math (m W n : Nat) (hm : m + W ≤ n) (hn : n ≤ 512) (hW : 1 ≤ W) : wrap64 (m : Int) = m ∧ wrap64 ((m : Int) + W) = (m : Int) + W ∧ ((m : Int) + W).toNat = m + W ∧ (0 : Int) ≤ (m : Int) + W ∧ (m : Int) + W ≤ n ∧ ¬ m + W = m ∧ m + W - m = W := by
  refine ⟨wrap_small _ (by omega) (by omega), wrap_small _ (by omega) (by omega), ?_, ?_, ?_, ?_, ?_⟩ <;> omega
theorem part_yes {w : World} {b g : Nat} {c : Cfg} {L : List Wy} (h : Ar w b g c L) (s : Nat) (hs : (s : Int) < c.se) :
    Calls Tryd.prog 31 #[.pointer (some ⟨b, 0, none⟩), .int .i64 s] w fun e w' => e = .returned (sset c g s) ∧ w = w' := by
  have hw := ok_ways h.sz.ok
  have h2 := h.hd 2
  have h3 := h.hd 3
  have h13 := h.hd 13
  simp at h2 h3 h13
  have hlen := h.sz.len
  have hm := Nat.mul_le_mul_right c.wa.toNat (show s + 1 ≤ c.se.toNat by omega)
  rw [Nat.add_mul, Nat.one_mul, ← hlen] at hm
  obtain ⟨W, hW⟩ : ∃ W : Nat, c.wa = W := ⟨c.wa.toNat, by omega⟩
  have hL : L.length ≤ 512 := by
    have := Nat.mul_le_mul (show c.se.toNat ≤ 64 by omega) (show c.wa.toNat ≤ 8 by omega)
    rw [hlen]
    omega
  unfold sset
  rw [hW] at h3 hm hw ⊢
  simp only [Int.toNat_natCast] at hm ⊢
  obtain ⟨m, hsm⟩ : ∃ m, m = s * W := ⟨_, rfl⟩
  rw [← hsm] at hm ⊢
  have e1 : (s : Int) * (W : Int) = (m : Int) := by rw [hsm]; simp
  obtain ⟨e2, e3, e4, k3, k4, k5, k6⟩ := part_math m W L.length hm hL (by omega)
  have k1 : ¬ (s : Int) < 0 := by omega
  have k2 : ¬ c.se ≤ (s : Int) := by omega
  clear hsm hlen hW hw h hL hm
  go_enter Tryd.func31, Tryd.ntmps31
  go_wp2
  go_ret
  exact ⟨rfl, rfl⟩
theorem part_no {w : World} {b g : Nat} {c : Cfg} {L : List Wy} (h : Ar w b g c L) (s : Int) (hs : s < 0 ∨ c.se ≤ s) :
    Calls Tryd.prog 31 #[.pointer (some ⟨b, 0, none⟩), .int .i64 s] w fun e w' => e = .returned (.slice none 0 0) ∧ w = w' := by
  have h2 := h.hd 2
  simp at h2
  clear h
  rcases hs with hs | hs
  · go_enter Tryd.func31, Tryd.ntmps31
    go_wp2
    go_ret
    exact ⟨rfl, rfl⟩
  · go_enter Tryd.func31, Tryd.ntmps31
    go_wp2
    all_goals go_ret
    all_goals exact ⟨rfl, rfl⟩

abbrev lset (c : Cfg) (g : Nat) (line : Int) : Value := .slice (some ⟨g, soN c line * 11, none⟩) c.wa.toNat c.wa.toNat
set_option maxHeartbeats 1000000 in
theorem setOf_yes {w : World} {b g : Nat} {c : Cfg} {L : List Wy} (h : Ar w b g c L) (hT : Tb w) (line : Int) (hl : lnOk c line = true) :
    Calls Tryd.prog 27 #[.pointer (some ⟨b, 0, none⟩), .int .i64 line] w fun e w' => e = .returned (lset c g line) ∧ Below w.heap.size w w' := by
  have hw := ok_ways h.sz.ok
  have h1 := Int.emod_nonneg line (b := c.se) (by omega)
  have h2 := Int.emod_lt_of_pos line (b := c.se) (by omega)
  have e1 : lnS c line = ((line % c.se).toNat : Int) := by unfold lnS; rw [if_pos hl]; omega
  have e2 : lnE c line = 0 := by unfold lnE; rw [if_pos hl]
  have HC := Lib.hid (line_any c line w h.fits hT)
  rw [e1, e2] at HC
  have HP := Lib.hid (fun w1 (hb : Below w.heap.size w w1) => part_yes (h.below hb) (line % c.se).toNat (by omega))
  have hcl := h.hd
  unfold lset soN
  generalize (line % c.se).toNat = s at HC HP ⊢
  generalize lnH c line = xh at HC
  generalize lnT c line = xt at HC
  clear hw h1 h2 e1 e2 h hl hT
  go_enter Tryd.func27, Tryd.ntmps27
  go_wp2_with (first
    | (go_at_call 39; refine HC.out.mono ?_; rintro e w1 ⟨rfl, hb1⟩)
    | (go_at_call 31; refine (HP.out _ hb1).mono ?_; rintro e w2 ⟨rfl, rfl⟩))
  go_ret
  exact ⟨rfl, hb1⟩
theorem setOf_no {w : World} {b g : Nat} {c : Cfg} {L : List Wy} (h : Ar w b g c L) (hT : Tb w) (line : Int) (hl : lnOk c line = false) :
    Calls Tryd.prog 27 #[.pointer (some ⟨b, 0, none⟩), .int .i64 line] w fun e w' => e = .returned (.slice none 0 0) ∧ Below w.heap.size w w' := by
  have e2 : lnE c line = 1 := by unfold lnE; rw [if_neg (by simp [hl])]
  have HC := Lib.hid (line_any c line w h.fits hT)
  rw [e2] at HC
  have hcl := h.hd
  generalize lnH c line = xh at HC
  generalize lnT c line = xt at HC
  generalize lnS c line = xs at HC
  clear e2 h hl hT
  go_enter Tryd.func27, Tryd.ntmps27
  go_wp2_with (go_at_call 39; refine HC.out.mono ?_; rintro e w1 ⟨rfl, hb1⟩)
  go_ret
  exact ⟨rfl, hb1⟩
theorem placeOf_at {w : World} {b g : Nat} {c : Cfg} {L : List Wy} (h : Ar w b g c L) (line : Int) (hl : lnOk c line = true) :
    Calls Tryd.prog 28 #[lset c g line, .int .i64 line] w fun e w' => e = .returned (.int .i64 (oi (plc c L line))) ∧ Below w.heap.size w w' := by
  have hp : plc c L line = (pt c L line).findIdx? (isL line) := by unfold plc; rw [if_pos hl]
  have hw := ok_ways h.sz.ok
  rw [hp]
  have hlen := h.sz.pt_len line
  have := placeOf_any g (soN c line * 11) (pt c L line) c.wa.toNat line w (h.part line) h.gl (by omega)
  rw [hlen] at this
  exact this

end Go.Proofs.YtldbepaclddgmaaDoor
