/-
  The document's buffer: New and Place, one contract each.
-/
import Derived.Test.YtlhecliamhjobaaWbC
namespace Go.Proofs.Ytlhecliamhjobaa
open Go Go.RowKit

theorem refNew_no (room : Int) (w : World) (h : room < 1 ∨ 8 < room) :
    Calls Try.prog 7 #[.int .i64 room] w fun e w' => e = .returned (.tuple #[.pointer none, .int .i64 1]) ∧ w = w' := by
  rcases h with h | h
  · go_enter Try.func7, Try.ntmps7
    go_wp2
    go_ret2
    exact ⟨rfl, rfl⟩
  · have h1 : ¬ room < 1 := by omega
    go_enter Try.func7, Try.ntmps7
    go_wp2
    go_ret2
    exact ⟨rfl, rfl⟩
theorem refNew_yes (room : Int) (w : World) (h : 1 ≤ room) (h2 : room ≤ 8) :
    Calls Try.prog 7 #[.int .i64 room] w fun e w' => e = .returned (.tuple #[.pointer (some ⟨w.heap.size, 0, none⟩), .int .i64 0]) ∧ w.alloc (.cells #[.int .i64 room, .slice none 0 0] 44) = w' := by
  go_enter Try.func7, Try.ntmps7
  go_wp2
  go_ret2
  exact ⟨rfl, rfl⟩

set_option maxHeartbeats 1000000 in
theorem refPlace_any {w : World} {B b : Nat} {room : Int} {l : List En} {v : Value} (h : BgD w B b room l v) (line : Int) (hl : l.length ≤ 5000) :
    Calls Try.prog 16 #[.pointer (some ⟨b, 0, none⟩), .int .i64 line] w fun e w' => e = .returned (.int .i64 (oi (fnd l line))) ∧ w = w' := by
  obtain ⟨q, cap, rfl, hin⟩ := h.ins
  have c1 := blk_cell h.blk 1
  simp at c1
  have HI := Lib.hid hin
  clear h hin
  go_enter Try.func16, Try.ntmps16
  go_wp2
  go_loop [5] (fun i => ∃ k : Nat, k ≤ l.length ∧ i = .int .i64 k ∧ Hid (∀ (j : Nat) (x : En), j < k → l[j]? = some x → isL line x = false)) (fun i => l.length - (intOf i).toNat)
  case atStart => exact ⟨0, by omega, rfl, Lib.hid (fun j x hj => by omega)⟩
  case round =>
    obtain ⟨k, hk, rfl, HJ⟩ := hrel
    by_cases hlt : k < l.length
    · obtain ⟨x, hx⟩ : ∃ x, l[k]? = some x := ⟨_, List.getElem?_eq_getElem hlt⟩
      obtain ⟨g, rfl, hg, hr⟩ := HI.out k x hx
      have c0 := hr 0 _ rfl
      rw [Nat.add_zero] at c0
      have HX := Lib.hid hx
      clear hx hr
      rcases Bool.eq_false_or_eq_true (x.ln == line) with he | he
      · have HT : Hid (oi (fnd l line) = k) := Lib.hid (by unfold fnd; rw [find_some HX.out (by simpa [isL] using he) HJ.out]; rfl)
        go_wp2
        go_ret
        exact ⟨ret_int HT.out.symm, rfl⟩
      · have HK : Hid (∀ (j : Nat) (y : En), j < k + 1 → l[j]? = some y → isL line y = false) := Lib.hid (fun j y hj hy => by
          by_cases e : j = k
          · subst e
            obtain rfl : x = y := Option.some.inj (HX.out.symm.trans hy)
            exact he
          · exact HJ.out j y (by omega) hy)
        go_wp2
        go_round
        case rel => exact ⟨k + 1, by omega, by go_num, HK⟩
        case measure => simp [intOf]; omega
    · have HT : Hid (oi (fnd l line) = -1) := Lib.hid (by unfold fnd; rw [find_none (fun j x hx => HJ.out j x (by have := (List.getElem?_eq_some_iff.1 hx).1; omega) hx)]; rfl)
      go_wp2
      go_ret
      exact ⟨ret_int HT.out.symm, rfl⟩

end Go.Proofs.Ytlhecliamhjobaa
