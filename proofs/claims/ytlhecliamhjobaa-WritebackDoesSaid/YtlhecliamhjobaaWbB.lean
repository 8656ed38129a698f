/-
  Where an entry is: the closure, IndexFunc, place.
-/
import Derived.Test.YtlhecliamhjobaaWbA
namespace Go.Proofs.Ytlhecliamhjobaa
open Go Go.RowKit

/-- The closure of a line. -/
abbrev isF (p : Addr) : Value := .func (.func 28) #[] #[.pointer (some p)]
theorem isIt_any (x : En) (p : Addr) (line : Int) (w : World) (hp : w.cell? p = some (.int .i64 line)) :
    Calls Try.prog 28 #[.agg (mcells x), .pointer (some p)] w fun e w' => e = .returned (.bool (isL line x)) ∧ Below w.heap.size w w' := by
  have hp2 : ∀ o, (w.alloc o).cell? p = some (.int .i64 line) := fun o => Lib.cell?_alloc_some o hp
  have HT : Hid (isL line x = (x.ln == line)) := Lib.hid rfl
  have hb := balloc w (.cells (mcells x) 48)
  go_enter Try.func28, Try.ntmps28
  go_wp2
  go_ret
  exact ⟨ret_bool HT.out.symm, hb⟩

set_option maxHeartbeats 1000000 in
theorem indexFuncL (q : Option Addr) (l : List En) (cp : Nat) (p : Addr) (line : Int) (w : World) (hl : EnIn w q l) (hn : l.length ≤ 5000) (hp : w.cell? p = some (.int .i64 line)) (hpb : p.block < w.heap.size) :
    Calls Try.prog 27 #[.slice q l.length cp, isF p] w fun e w' => e = .returned (.int .i64 (oi (l.findIdx? (isL line)))) ∧ Below w.heap.size w w' := by
  have HL := Lib.hid hl
  have HP := Lib.hid hp
  clear hp
  clear hl
  go_enter Try.func27, Try.ntmps27
  go_wp2
  go_loopw [8] (fun i wr => ∃ k : Nat, k ≤ l.length ∧ i = .int .i64 k ∧ Hid (∀ (j : Nat) (x : En), j < k → l[j]? = some x → isL line x = false) ∧ Below w.heap.size w wr) (fun i _ => l.length - (intOf i).toNat)
  case atStart => exact ⟨0, by omega, rfl, Lib.hid (fun j x hj => by omega), Below.refl _ _⟩
  case round =>
    obtain ⟨k, hk, rfl, HJ, hb⟩ := hrel
    by_cases hlt : k < l.length
    · obtain ⟨x, hx⟩ : ∃ x, l[k]? = some x := ⟨_, List.getElem?_eq_getElem hlt⟩
      obtain ⟨g, rfl, hg, hr⟩ := HL.out.step hb k x hx
      have HR := Lib.hid hr
      have HC := Lib.hid ((hb.cell hpb).trans HP.out)
      have HX := Lib.hid hx
      clear hx hr
      go_wp2_with (first
        | ((with_reducible refine wpList_load_mid (op := ⟨some 15, _, _, _, _, _⟩) rfl 48 (.tmp 14) rfl g (k * 10) ?lx (mc x) _ ?lc Try.underlying48 ?ld ?li ?_); (case lx => rfl); (case lc => exact HR.out); (case ld => rfl); (case li => kernel_rfl))
        | (go_at_call 28; refine (isIt_any x p line _ HC.out).mono ?_; rintro e w1 ⟨rfl, hb1⟩))
      · have h : isL line x = true := by assumption
        go_ret
        exact ⟨ret_int (by rw [find_some HX.out h HJ.out]; rfl), bstep hb hb1⟩
      · have h : isL line x = false := by assumption
        have HK : Hid (∀ (j : Nat) (y : En), j < k + 1 → l[j]? = some y → isL line y = false) := Lib.hid (fun j y hj hy => by
          by_cases e : j = k
          · subst e
            obtain rfl : x = y := Option.some.inj (HX.out.symm.trans hy)
            exact h
          · exact HJ.out j y (by omega) hy)
        have hB := bstep hb hb1
        clear h
        go_roundw
        case rel => exact ⟨k + 1, by omega, by go_num, HK, hB⟩
        case measure => simp [intOf]; omega
    · have HK : Hid (oi (l.findIdx? (isL line)) = -1) := Lib.hid (by rw [find_none (fun j x hx => HJ.out j x (by have := (List.getElem?_eq_some_iff.1 hx).1; omega) hx)]; rfl)
      go_wp2
      go_ret
      exact ⟨ret_int HK.out.symm, hb⟩


/-- place. -/
theorem place_any {w : World} {B b : Nat} {room : Int} {l : List En} {v : Value} (h : BgP w B b room l v) (line : Int) (hn : l.length ≤ 5000) :
    Calls Try.prog 22 #[.pointer (some ⟨b, 0, none⟩), .int .i64 line] w fun e w' => e = .returned (.int .i64 (oi (fnd l line))) ∧ Below w.heap.size w w' := by
  have hb1 := h.below (balloc w (.cells #[.int .i64 line] 3))
  obtain ⟨q, cap, rfl, hin⟩ := hb1.ins
  have HC := Lib.hid (indexFuncL q l cap ⟨w.heap.size, 0, none⟩ line (w.alloc (.cells #[.int .i64 line] 3)) hin hn (by simp) (by simp))
  have c1 := blk_cell hb1.blk 1
  simp at c1
  have hmf : ∀ (fn : Fn) (first cap : Array Value) (w : World), (Instr.makeFunc fn first cap).run Try.prog w = .ok (.func fn first cap) w := fun _ _ _ _ => rfl
  clear h hb1 hin
  go_enter Try.func22, Try.ntmps22
  go_wp2_with (go_at_call 27; refine HC.out.mono ?_; rintro e w1 ⟨rfl, hb1⟩)
  go_ret
  exact ⟨rfl, bbox hb1⟩

end Go.Proofs.Ytlhecliamhjobaa
