/-
  The document's file: New, place, Owing, Get and Open, one contract each.
-/
import Derived.Test.YtcfcgejeiihgnaaMhA
namespace Go.Proofs.Ytcfcgejeiihgnaa
open Go Go.RowKit

theorem refNew_no (room : Int) (w : World) (h : room < 1 ∨ 8 < room) :
    Calls Try.prog 8 #[.int .i64 room] w fun e w' => e = .returned (.tuple #[.pointer none, .int .i64 1]) ∧ w = w' := by
  rcases h with h | h
  · go_enter Try.func8, Try.ntmps8
    go_wp2
    go_ret2
    exact ⟨rfl, rfl⟩
  · have h1 : ¬ room < 1 := by omega
    go_enter Try.func8, Try.ntmps8
    go_wp2
    go_ret2
    exact ⟨rfl, rfl⟩
theorem refNew_yes (room : Int) (w : World) (h : 1 ≤ room) (h2 : room ≤ 8) :
    Calls Try.prog 8 #[.int .i64 room] w fun e w' => e = .returned (.tuple #[.pointer (some ⟨w.heap.size, 0, none⟩), .int .i64 0]) ∧ w.alloc (.cells #[.int .i64 room, .slice none 0 0] 52) = w' := by
  go_enter Try.func8, Try.ntmps8
  go_wp2
  go_ret2
  exact ⟨rfl, rfl⟩

set_option maxHeartbeats 1000000 in
theorem refPlace_any {w : World} {B b : Nat} {room : Int} {l : List Ms} {v : Value} (h : BgD w B b room l v) (line : Int) (hl : l.length ≤ 5000) :
    Calls Try.prog 31 #[.pointer (some ⟨b, 0, none⟩), .int .i64 line] w fun e w' => e = .returned (.int .i64 (oi (fnd l line))) ∧ w = w' := by
  obtain ⟨q, cap, rfl, hin⟩ := h.ins
  have c1 := blk_cell h.blk 1
  simp at c1
  have HI := Lib.hid hin
  clear h hin
  go_enter Try.func31, Try.ntmps31
  go_wp2
  go_loop [5] (fun i => ∃ k : Nat, k ≤ l.length ∧ i = .int .i64 k ∧ Hid (∀ (j : Nat) (x : Ms), j < k → l[j]? = some x → isL line x = false)) (fun i => l.length - (intOf i).toNat)
  case atStart => exact ⟨0, by omega, rfl, Lib.hid (fun j x hj => by omega)⟩
  case round =>
    obtain ⟨k, hk, rfl, HJ⟩ := hrel
    by_cases hlt : k < l.length
    · obtain ⟨x, hx⟩ : ∃ x, l[k]? = some x := ⟨_, List.getElem?_eq_getElem hlt⟩
      obtain ⟨g, rfl, hg, hr⟩ := HI.out k x hx
      have c0 := hr 0 _ rfl
      rw [Nat.add_zero] at c0
      have HX := Lib.hid hx
      clear hx hr
      rcases Bool.eq_false_or_eq_true (x.ln == line) with he | he
      · have HT : Hid (oi (fnd l line) = k) := Lib.hid (by unfold fnd; rw [find_some HX.out (by simpa [isL] using he) HJ.out]; rfl)
        go_wp2
        go_ret
        exact ⟨ret_int HT.out.symm, rfl⟩
      · have HK : Hid (∀ (j : Nat) (y : Ms), j < k + 1 → l[j]? = some y → isL line y = false) := Lib.hid (fun j y hj hy => by
          by_cases e : j = k
          · subst e
            obtain rfl : x = y := Option.some.inj (HX.out.symm.trans hy)
            exact he
          · exact HJ.out j y (by omega) hy)
        go_wp2
        go_round
        case rel => exact ⟨k + 1, by omega, by go_num, HK⟩
        case measure => simp [intOf]; omega
    · have HT : Hid (oi (fnd l line) = -1) := Lib.hid (by unfold fnd; rw [find_none (fun j x hx => HJ.out j x (by have := (List.getElem?_eq_some_iff.1 hx).1; omega) hx)]; rfl)
      go_wp2
      go_ret
      exact ⟨ret_int HT.out.symm, rfl⟩
set_option maxHeartbeats 1000000 in
theorem refOwing_any {w : World} {B b : Nat} {room : Int} {l : List Ms} {v : Value} (h : BgD w B b room l v) (hl : l.length ≤ 5000) :
    Calls Try.prog 12 #[.pointer (some ⟨b, 0, none⟩)] w fun e w' => e = .returned (.tuple #[.int .i64 (owingP l).1, .bool (owingP l).2]) ∧ w = w' := by
  obtain ⟨q, cap, rfl, hin⟩ := h.ins
  have c1 := blk_cell h.blk 1
  simp at c1
  have HI := Lib.hid hin
  clear h hin
  go_enter Try.func12, Try.ntmps12
  go_wp2
  go_loop [4] (fun i => ∃ k : Nat, k ≤ l.length ∧ i = .int .i64 k ∧ Hid (∀ (j : Nat) (x : Ms), j < k → l[j]? = some x → x.os = false)) (fun i => l.length - (intOf i).toNat)
  case atStart => exact ⟨0, by omega, rfl, Lib.hid (fun j x hj => by omega)⟩
  case round =>
    obtain ⟨k, hk, rfl, HJ⟩ := hrel
    by_cases hlt : k < l.length
    · obtain ⟨x, hx⟩ : ∃ x, l[k]? = some x := ⟨_, List.getElem?_eq_getElem hlt⟩
      obtain ⟨g, rfl, hg, hr⟩ := HI.out k x hx
      have c0 := hr 0 _ rfl
      rw [Nat.add_zero] at c0
      have c14 := hr 14 _ rfl
      have HX := Lib.hid hx
      clear hx hr
      rcases Bool.eq_false_or_eq_true x.os with he | he
      · have HT : Hid (owingP l = (x.ln, true)) := Lib.hid (owingP_yes (find_some HX.out he HJ.out) HX.out)
        rw [he] at c14
        clear he
        go_wp2
        go_ret2
        rw [HT.out]
        exact ⟨rfl, rfl⟩
      · have HK : Hid (∀ (j : Nat) (y : Ms), j < k + 1 → l[j]? = some y → y.os = false) := Lib.hid (fun j y hj hy => by
          by_cases e : j = k
          · subst e
            obtain rfl : x = y := Option.some.inj (HX.out.symm.trans hy)
            exact he
          · exact HJ.out j y (by omega) hy)
        rw [he] at c14
        clear he
        go_wp2
        go_round
        case rel => exact ⟨k + 1, by omega, by go_num, HK⟩
        case measure => simp [intOf]; omega
    · have HT : Hid (owingP l = (0, false)) := Lib.hid (owingP_none (find_none (fun j x hx => HJ.out j x (by have := (List.getElem?_eq_some_iff.1 hx).1; omega) hx)))
      go_wp2
      go_ret2
      rw [HT.out]
      exact ⟨rfl, rfl⟩

/-- What a call gives that tells a miss, and something beside it. -/
def RetR (x : Ms) (q : Bool) (P : World → Prop) (e : Ending) (w' : World) : Prop := e = .returned (.tuple #[.agg (mcells x), .bool q]) ∧ P w'
theorem refGet_ret {wr : World} {x : Ms} {q : Bool} {P : World → Prop} {a : Act} {g : Nat} (hp : a.tmps.getD 4 undef = .pointer (some ⟨g, 0, none⟩)) (hq : a.tmps.getD 5 undef = .bool q) (hd : a.defers = []) (hg : wr.heap[g]? = some (.cells (mcells x) 39 (0, 0))) (hb : P wr) :
    bodyPost Try.prog Try.f14 (RetR x q P) Exit.ret a wr :=
  bodyPost_ret (v := .tuple #[.agg (mcells x), a.tmps.getD 5 undef]) (results_cell_two Try.results14 _ _ g 39 _ (0, 0) _ hp hg Try.underlying39 rfl (by kernel_rfl)) hd ⟨by rw [hq], hb⟩
set_option maxHeartbeats 1000000 in
theorem refGet_any {w : World} {B b : Nat} {room : Int} {l : List Ms} {v : Value} (h : BgD w B b room l v) (line : Int) (hl : l.length ≤ 5000) :
    Calls Try.prog 14 #[.pointer (some ⟨b, 0, none⟩), .int .i64 line] w (RetR (getP l line).1 (getP l line).2 (Below w.heap.size w)) := by
  have HP := fun (o : Obj) => refPlace_any (h.below (balloc w o)) line hl
  rcases hp : fnd l line with _ | i
  · rw [hp] at HP
    rw [getP_none hp]
    have HP := Lib.hid HP
    clear h hp
    go_enter Try.func14, Try.ntmps14
    go_wp2_with fail
    refine (HP.out _).mono ?_
    rintro e w1 ⟨rfl, rfl⟩
    simp only [oi]
    go_wp2_with ((with_reducible refine wpList_store_row (o := ⟨none, _, _, _, _, _⟩) rfl 39 (.tmp 4) (.tmp 12) rfl w.heap.size (mcells m0) ?sx ?sy 39 ?old ?sg ?si ?so ?s1 ?_); (case sx => rfl); (case sy => rfl); (case old => exact mcells m0); (case sg => exact heap_alloc_new w _); (case si => kernel_rfl); (case so => rfl); (case s1 => kernel_rfl))
    exact refGet_ret rfl rfl rfl (setRow_heap _ _ _ _ _ _ (heap_alloc_new w _)) (below_setRow (balloc w _) (Nat.le_refl _) _)
  · obtain ⟨x, hx, _, hi⟩ := fnd_some hp
    rw [hp] at HP
    rw [getP_yes hp hx]
    obtain ⟨g, cap, rfl, hbg, hgl, hBg, hr, hfz, _, _⟩ := h.one hx
    have HP := Lib.hid HP
    have HR := Lib.hid (fun w1 (hb : Below w.heap.size w w1) => (show w1.rangeAt g (i * 15) (mc x) from fun j u hu => (hb.cell (p := ⟨g, i * 15 + j, none⟩) hgl).trans (hr j u hu)))
    have hc := fun (o : Obj) => blk_cell (h.below (balloc w o)).blk 1
    simp at hc
    have hn : ¬ (i : Int) < 0 := by omega
    clear h hp hx hr hfz
    go_enter Try.func14, Try.ntmps14
    go_wp2_with fail
    refine (HP.out _).mono ?_
    rintro e w1 ⟨rfl, rfl⟩
    simp only [oi]
    go_wp2_with (first
      | ((with_reducible refine wpList_load_mid (op := ⟨some 19, _, _, _, _, _⟩) rfl 39 (.tmp 18) rfl g (i * 15) ?lx (mc x) _ ?lc Try.underlying39 ?ld ?li ?_); (case lx => rfl); (case lc => exact HR.out _ (balloc w _)); (case ld => rfl); (case li => kernel_rfl))
      | ((with_reducible refine wpList_store_row (o := ⟨none, _, _, _, _, _⟩) rfl 39 (.tmp 4) (.tmp 19) rfl w.heap.size (mcells x) ?sx ?sy 39 ?old ?sg ?si ?so ?s1 ?_); (case sx => rfl); (case sy => rfl); (case old => exact mcells m0); (case sg => exact heap_alloc_new w _); (case si => kernel_rfl); (case so => rfl); (case s1 => kernel_rfl)))
    exact refGet_ret rfl rfl rfl (setRow_heap _ _ _ _ _ _ (heap_alloc_new w _)) (below_setRow (balloc w _) (Nat.le_refl _) _)

end Go.Proofs.Ytcfcgejeiihgnaa
