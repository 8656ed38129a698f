/-
  Operations that come in; are they more than are looked at?
-/
import Derived.Test.YtnpbbkiojoafbaaQuN
namespace Go.Proofs.Ytnpbbkiojoafbaa
open Go Go.RowKit

/-- Where a slice's operations lie. -/
def OpsIn (w : World) (p : Option Addr) (l : List Qo) : Prop := (∀ i x, l[i]? = some x → ∃ g o, p = some ⟨g, o, none⟩ ∧ g < w.heap.size ∧ w.rangeAt g (o + i * 18) (oc x)) ∧ ∀ x ∈ l, MIn w x.p x.l
theorem OpsIn.step {w w' : World} {p : Option Addr} {l : List Qo} (h : OpsIn w p l) (hb : Below w.heap.size w w') : OpsIn w' p l :=
  ⟨fun i x hx => by
    obtain ⟨g, o, rfl, hg, hr⟩ := h.1 i x hx
    exact ⟨g, o, rfl, Nat.lt_of_lt_of_le hg hb.size, fun j v hv => (hb.cell (p := ⟨g, o + i * 18 + j, none⟩) hg).trans (hr j v hv)⟩, fun x hx => (h.2 x hx).step hb⟩
/-- What large gives. -/
def LargeGave (l : List Qo) (w : World) (e : Ending) (w' : World) : Prop := ∃ q, e = .returned (.bool q) ∧ w' = w ∧ (q = false → l.length ≤ 60 ∧ ∀ x ∈ l, x.l.length ≤ 400)
set_option maxHeartbeats 1000000 in
theorem large_any (p : Option Addr) (c : Nat) (l : List Qo) (w : World) (h : OpsIn w p l) (hl : l.length ≤ 9223372036854775807) (hf : ∀ x ∈ l, x.l.length ≤ 140737488355328) :
    Calls Try.prog 7 #[.slice p l.length c] w (LargeGave l w) := by
  have H := Lib.hid h
  have HF := Lib.hid hf
  clear h hf
  go_enter Try.func7, Try.ntmps7
  go_wp2
  go_loopw [3, 4] (fun n i wr => ∃ N k : Nat, n = .int .i64 N ∧ i = .int .i64 k ∧ k ≤ l.length ∧ N ≤ 140737488355729 ∧ Hid (∀ j x, j < k → l[j]? = some x → x.l.length ≤ N) ∧ wr = w) (fun _ i _ => l.length - (intOf i).toNat)
  case atStart => exact ⟨0, 0, rfl, rfl, Nat.zero_le _, by omega, Lib.hid (fun j x hj => by omega), rfl⟩
  case round =>
    obtain ⟨N, k, rfl, rfl, hk, hN, HJ, rfl⟩ := hrel
    by_cases hlt : k < l.length
    · by_cases hn4 : N ≤ 400
      · obtain ⟨x, hx⟩ : ∃ x, l[k]? = some x := ⟨_, List.getElem?_eq_getElem hlt⟩
        obtain ⟨g, o, rfl, hg, hr⟩ := H.out.1 k x hx
        have c17 := hr 17 _ rfl
        have hxl := HF.out x (List.mem_of_getElem? hx)
        obtain ⟨n, hn⟩ : ∃ n, n = x.l.length := ⟨_, rfl⟩
        rw [← hn] at c17 hxl
        have HN := Lib.hid hn
        have HX := Lib.hid hx
        have d4 : decide ((N : Int) ≤ 400) = true := by simp; omega
        clear hx hr hn
        go_wp2
        go_roundw
        case rel =>
          refine ⟨N + n + 1, k + 1, by go_num, by go_num, by omega, by omega, Lib.hid (fun j y hj hy => ?_), trivial⟩
          by_cases e : j = k
          · subst e
            obtain rfl : x = y := Option.some.inj (HX.out.symm.trans hy)
            rw [← HN.out]
            omega
          · have := HJ.out j y (by omega) hy
            omega
        case measure => simp [intOf]; omega
      · have d4 : decide ((N : Int) ≤ 400) = false := by simp; omega
        have d5 : decide (400 < (N : Int)) = true := by simp; omega
        go_wp2
        all_goals
          go_ret
          exact ⟨true, rfl, rfl, fun e => by cases e⟩
    · have hkl : k = l.length := by omega
      have HE : Hid (N ≤ 400 → ∀ x ∈ l, x.l.length ≤ 400) := Lib.hid (fun h4 x hx => by
        obtain ⟨i, hi, rfl⟩ := List.getElem_of_mem hx
        have := HJ.out i _ (by omega) (List.getElem?_eq_getElem hi)
        omega)
      clear hkl
      by_cases h6 : 60 < l.length
      · have d6 : decide (60 < (l.length : Int)) = true := by simp; omega
        go_wp2
        all_goals
          go_ret
          exact ⟨true, rfl, rfl, fun e => by cases e⟩
      · have d6 : decide (60 < (l.length : Int)) = false := by simp; omega
        by_cases hn4 : N ≤ 400
        · have d5 : decide (400 < (N : Int)) = false := by simp; omega
          have HG : Hid (l.length ≤ 60 ∧ ∀ x ∈ l, x.l.length ≤ 400) := Lib.hid ⟨by omega, HE.out hn4⟩
          go_wp2
          go_ret
          exact ⟨false, rfl, rfl, fun _ => HG.out⟩
        · have d5 : decide (400 < (N : Int)) = true := by simp; omega
          go_wp2
          go_ret
          exact ⟨true, rfl, rfl, fun e => by cases e⟩

end Go.Proofs.Ytnpbbkiojoafbaa
