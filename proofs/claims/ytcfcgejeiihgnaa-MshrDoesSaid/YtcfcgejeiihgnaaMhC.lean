/-
  Where a miss is: IndexFunc, place and first, of a line and of what owes.
-/
import Derived.Test.YtcfcgejeiihgnaaMhB
namespace Go.Proofs.Ytcfcgejeiihgnaa
open Go Go.RowKit


set_option maxHeartbeats 1000000 in
theorem indexFuncL (q : Option Addr) (l : List Ms) (cp : Nat) (p : Addr) (line : Int) (w : World) (hl : MsIn w q l) (hn : l.length ≤ 5000) (hp : w.cell? p = some (.int .i64 line)) (hpb : p.block < w.heap.size) :
    Calls Try.prog 42 #[.slice q l.length cp, isF p] w fun e w' => e = .returned (.int .i64 (oi (l.findIdx? (isL line)))) ∧ Below w.heap.size w w' := by
  have HL := Lib.hid hl
  have HP := Lib.hid hp
  clear hp
  clear hl
  go_enter Try.func42, Try.ntmps42
  go_wp2
  go_loopw [8] (fun i wr => ∃ k : Nat, k ≤ l.length ∧ i = .int .i64 k ∧ Hid (∀ (j : Nat) (x : Ms), j < k → l[j]? = some x → isL line x = false) ∧ Below w.heap.size w wr) (fun i _ => l.length - (intOf i).toNat)
  case atStart => exact ⟨0, by omega, rfl, Lib.hid (fun j x hj => by omega), Below.refl _ _⟩
  case round =>
    obtain ⟨k, hk, rfl, HJ, hb⟩ := hrel
    by_cases hlt : k < l.length
    · obtain ⟨x, hx⟩ : ∃ x, l[k]? = some x := ⟨_, List.getElem?_eq_getElem hlt⟩
      obtain ⟨g, rfl, hg, hr⟩ := HL.out.step hb k x hx
      have HR := Lib.hid hr
      have HC := Lib.hid ((hb.cell hpb).trans HP.out)
      have HX := Lib.hid hx
      clear hx hr
      go_wp2_with (first
        | ((with_reducible refine wpList_load_mid (op := ⟨some 15, _, _, _, _, _⟩) rfl 34 (.tmp 14) rfl g (k * 15) ?lx (mc x) _ ?lc Try.underlying34 ?ld ?li ?_); (case lx => rfl); (case lc => exact HR.out); (case ld => rfl); (case li => kernel_rfl))
        | (go_at_call 40; refine (isIt_any x p line _ HC.out).mono ?_; rintro e w1 ⟨rfl, hb1⟩))
      · have h : isL line x = true := by assumption
        go_ret
        exact ⟨ret_int (by rw [find_some HX.out h HJ.out]; rfl), bstep hb hb1⟩
      · have h : isL line x = false := by assumption
        have HK : Hid (∀ (j : Nat) (y : Ms), j < k + 1 → l[j]? = some y → isL line y = false) := Lib.hid (fun j y hj hy => by
          by_cases e : j = k
          · subst e
            obtain rfl : x = y := Option.some.inj (HX.out.symm.trans hy)
            exact h
          · exact HJ.out j y (by omega) hy)
        have hB := bstep hb hb1
        clear h
        go_roundw
        case rel => exact ⟨k + 1, by omega, by go_num, HK, hB⟩
        case measure => simp [intOf]; omega
    · have HK : Hid (oi (l.findIdx? (isL line)) = -1) := Lib.hid (by rw [find_none (fun j x hx => HJ.out j x (by have := (List.getElem?_eq_some_iff.1 hx).1; omega) hx)]; rfl)
      go_wp2
      go_ret
      exact ⟨ret_int HK.out.symm, hb⟩

set_option maxHeartbeats 1000000 in
theorem indexFuncO (q : Option Addr) (l : List Ms) (cp : Nat) (w : World) (hl : MsIn w q l) (hn : l.length ≤ 5000) :
    Calls Try.prog 42 #[.slice q l.length cp, osF] w fun e w' => e = .returned (.int .i64 (oi (l.findIdx? (Ms.os)))) ∧ Below w.heap.size w w' := by
  have HL := Lib.hid hl
  skip
  clear hl
  go_enter Try.func42, Try.ntmps42
  go_wp2
  go_loopw [8] (fun i wr => ∃ k : Nat, k ≤ l.length ∧ i = .int .i64 k ∧ Hid (∀ (j : Nat) (x : Ms), j < k → l[j]? = some x → Ms.os x = false) ∧ Below w.heap.size w wr) (fun i _ => l.length - (intOf i).toNat)
  case atStart => exact ⟨0, by omega, rfl, Lib.hid (fun j x hj => by omega), Below.refl _ _⟩
  case round =>
    obtain ⟨k, hk, rfl, HJ, hb⟩ := hrel
    by_cases hlt : k < l.length
    · obtain ⟨x, hx⟩ : ∃ x, l[k]? = some x := ⟨_, List.getElem?_eq_getElem hlt⟩
      obtain ⟨g, rfl, hg, hr⟩ := HL.out.step hb k x hx
      have HR := Lib.hid hr
      skip
      have HX := Lib.hid hx
      clear hx hr
      go_wp2_with (first
        | ((with_reducible refine wpList_load_mid (op := ⟨some 15, _, _, _, _, _⟩) rfl 34 (.tmp 14) rfl g (k * 15) ?lx (mc x) _ ?lc Try.underlying34 ?ld ?li ?_); (case lx => rfl); (case lc => exact HR.out); (case ld => rfl); (case li => kernel_rfl))
        | (go_at_call 29; refine (owes_any x _).mono ?_; rintro e w1 ⟨rfl, hb1⟩))
      · have h : Ms.os x = true := by assumption
        go_ret
        exact ⟨ret_int (by rw [find_some HX.out h HJ.out]; rfl), bstep hb hb1⟩
      · have h : Ms.os x = false := by assumption
        have HK : Hid (∀ (j : Nat) (y : Ms), j < k + 1 → l[j]? = some y → Ms.os y = false) := Lib.hid (fun j y hj hy => by
          by_cases e : j = k
          · subst e
            obtain rfl : x = y := Option.some.inj (HX.out.symm.trans hy)
            exact h
          · exact HJ.out j y (by omega) hy)
        have hB := bstep hb hb1
        clear h
        go_roundw
        case rel => exact ⟨k + 1, by omega, by go_num, HK, hB⟩
        case measure => simp [intOf]; omega
    · have HK : Hid (oi (l.findIdx? (Ms.os)) = -1) := Lib.hid (by rw [find_none (fun j x hx => HJ.out j x (by have := (List.getElem?_eq_some_iff.1 hx).1; omega) hx)]; rfl)
      go_wp2
      go_ret
      exact ⟨ret_int HK.out.symm, hb⟩

theorem placeL {w : World} {B b : Nat} {room : Int} {l : List Ms} {v : Value} (h : BgP w B b room l v) (p : Addr) (line : Int) (hn : l.length ≤ 5000) (hp : w.cell? p = some (.int .i64 line)) (hpb : p.block < w.heap.size) :
    Calls Try.prog 39 #[.pointer (some ⟨b, 0, none⟩), isF p] w fun e w' => e = .returned (.int .i64 (oi (l.findIdx? (isL line)))) ∧ Below w.heap.size w w' := by
  obtain ⟨q, cap, rfl, hin⟩ := h.ins
  have HC := Lib.hid (indexFuncL q l cap p line w hin hn hp hpb)
  have c1 := blk_cell h.blk 1
  simp at c1
  clear h hin hp
  go_enter Try.func39, Try.ntmps39
  go_wp2_with (go_at_call 42; refine HC.out.mono ?_; rintro e w1 ⟨rfl, hb1⟩)
  go_ret
  exact ⟨rfl, hb1⟩
theorem firstL_no {w : World} {B b : Nat} {room : Int} {l : List Ms} {v : Value} (h : BgP w B b room l v) (p : Addr) (line : Int) (hn : l.length ≤ 5000) (hp : w.cell? p = some (.int .i64 line)) (hpb : p.block < w.heap.size) (hf : l.findIdx? (isL line) = none) :
    Calls Try.prog 28 #[.pointer (some ⟨b, 0, none⟩), isF p] w fun e w' => e = .returned (.pointer none) ∧ Below w.heap.size w w' := by
  have HC := placeL h p line hn hp hpb
  rw [hf] at HC
  have HC := Lib.hid HC
  clear h hf hp
  go_enter Try.func28, Try.ntmps28
  go_wp2_with (go_at_call 39; refine HC.out.mono ?_; rintro e w1 ⟨rfl, hb1⟩; simp only [oi])
  go_ret
  exact ⟨rfl, hb1⟩
set_option maxHeartbeats 1000000 in
theorem firstL_yes {w : World} {B b : Nat} {room : Int} {l : List Ms} {g cap : Nat} (h : BgP w B b room l (.slice (some ⟨g, 0, none⟩) l.length cap)) (p : Addr) (line : Int) (hn : l.length ≤ 5000) (hp : w.cell? p = some (.int .i64 line)) (hpb : p.block < w.heap.size) {i : Nat} (hf : l.findIdx? (isL line) = some i) (hi : i < l.length) :
    Calls Try.prog 28 #[.pointer (some ⟨b, 0, none⟩), isF p] w fun e w' => e = .returned (.pointer (some ⟨g, i * 15, none⟩)) ∧ Below w.heap.size w w' := by
  have HC := placeL h p line hn hp hpb
  rw [hf] at HC
  have HC := Lib.hid HC
  have HH := Lib.hid (fun w1 (hb : Below w.heap.size w w1) => blk_cell (h.below hb).blk)
  clear h hf hp
  go_enter Try.func28, Try.ntmps28
  go_wp2_with (go_at_call 39; refine HC.out.mono ?_; rintro e w1 ⟨rfl, hb1⟩; simp only [oi]; have c1 := HH.out w1 hb1 1; simp at c1)
  go_ret
  exact ⟨rfl, hb1⟩

theorem placeO {w : World} {B b : Nat} {room : Int} {l : List Ms} {v : Value} (h : BgP w B b room l v) (hn : l.length ≤ 5000) :
    Calls Try.prog 39 #[.pointer (some ⟨b, 0, none⟩), osF] w fun e w' => e = .returned (.int .i64 (oi (l.findIdx? (Ms.os)))) ∧ Below w.heap.size w w' := by
  obtain ⟨q, cap, rfl, hin⟩ := h.ins
  have HC := Lib.hid (indexFuncO q l cap  w hin hn)
  have c1 := blk_cell h.blk 1
  simp at c1
  clear h hin 
  go_enter Try.func39, Try.ntmps39
  go_wp2_with (go_at_call 42; refine HC.out.mono ?_; rintro e w1 ⟨rfl, hb1⟩)
  go_ret
  exact ⟨rfl, hb1⟩
theorem firstO_no {w : World} {B b : Nat} {room : Int} {l : List Ms} {v : Value} (h : BgP w B b room l v) (hn : l.length ≤ 5000) (hf : l.findIdx? (Ms.os) = none) :
    Calls Try.prog 28 #[.pointer (some ⟨b, 0, none⟩), osF] w fun e w' => e = .returned (.pointer none) ∧ Below w.heap.size w w' := by
  have HC := placeO h  hn
  rw [hf] at HC
  have HC := Lib.hid HC
  clear h hf 
  go_enter Try.func28, Try.ntmps28
  go_wp2_with (go_at_call 39; refine HC.out.mono ?_; rintro e w1 ⟨rfl, hb1⟩; simp only [oi])
  go_ret
  exact ⟨rfl, hb1⟩
set_option maxHeartbeats 1000000 in
theorem firstO_yes {w : World} {B b : Nat} {room : Int} {l : List Ms} {g cap : Nat} (h : BgP w B b room l (.slice (some ⟨g, 0, none⟩) l.length cap)) (hn : l.length ≤ 5000) {i : Nat} (hf : l.findIdx? (Ms.os) = some i) (hi : i < l.length) :
    Calls Try.prog 28 #[.pointer (some ⟨b, 0, none⟩), osF] w fun e w' => e = .returned (.pointer (some ⟨g, i * 15, none⟩)) ∧ Below w.heap.size w w' := by
  have HC := placeO h  hn
  rw [hf] at HC
  have HC := Lib.hid HC
  have HH := Lib.hid (fun w1 (hb : Below w.heap.size w w1) => blk_cell (h.below hb).blk)
  clear h hf 
  go_enter Try.func28, Try.ntmps28
  go_wp2_with (go_at_call 39; refine HC.out.mono ?_; rintro e w1 ⟨rfl, hb1⟩; simp only [oi]; have c1 := HH.out w1 hb1 1; simp at c1)
  go_ret
  exact ⟨rfl, hb1⟩

end Go.Proofs.Ytcfcgejeiihgnaa
