/-
  New, Clone, List, Left and Get, one contract each.
-/
import Derived.Test.YtlhecliamhjobaaWbB
namespace Go.Proofs.Ytlhecliamhjobaa
open Go Go.RowKit

theorem new_no (room : Int) (w : World) (h : room < 1 ∨ 8 < room) :
    Calls Try.prog 6 #[.int .i64 room] w fun e w' => e = .returned (.tuple #[.pointer none, .int .i64 1]) ∧ w = w' := by
  rcases h with h | h
  · go_enter Try.func6, Try.ntmps6
    go_wp2
    go_ret2
    exact ⟨rfl, rfl⟩
  · have h1 : ¬ room < 1 := by omega
    go_enter Try.func6, Try.ntmps6
    go_wp2
    go_ret2
    exact ⟨rfl, rfl⟩
theorem new_yes (room : Int) (w : World) (h : 1 ≤ room) (h2 : room ≤ 8) :
    Calls Try.prog 6 #[.int .i64 room] w fun e w' => e = .returned (.tuple #[.pointer (some ⟨w.heap.size, 0, none⟩), .int .i64 0]) ∧ w.alloc (.cells #[.int .i64 room, .slice none 0 0] 57) = w' := by
  go_enter Try.func6, Try.ntmps6
  go_wp2
  go_ret2
  exact ⟨rfl, rfl⟩

/-- Clone. -/
theorem clone_any {w : World} {B : Nat} {v : Value} {l : List En} (h : w.ownsRow B 48 10 v l.length (cellsOf mc l)) (hl : l.length ≤ 5000) :
    Calls Try.prog 21 #[v] w (RowGave 48 10 mc l w) := by
  obtain ⟨i0, hi0, hz0, hz1, hz2⟩ := info_parts A34
  have hq := fun (w : World) (a : Option Addr) (n c n' c' : Nat) => Lib.run_eql_slice_nil (P := Try.prog) w 40 48 a n c n' c' Try.underlying40
  rcases h.2 with ⟨rfl, h0⟩ | ⟨g, cap, cur, rfl, hb, hg, rest⟩
  · have e : l = [] := List.eq_nil_of_length_eq_zero h0
    subst e
    clear h h0 hl
    go_enter Try.func21, Try.ntmps21
    go_wp2
    go_ret
    exact ⟨_, rfl, World.ownsRow_nil _ _ _ _, Below.refl _ _⟩
  · have hcell := h.cells (g := g) rfl
    have HC := Lib.hid hcell
    have HL := Lib.hid (cellsOf_len mc_len l)
    have H1 : Hid (∀ u ∈ cellsOf mc l, u.oneCell' = true) := Lib.hid (mcs_one l)
    clear h hcell hg rest
    go_enter Try.func21, Try.ntmps21
    go_wp2_with (at_builtin; refine wpList_append_own _ rfl (.tmp 5) (.tmp 6) 40 rfl w.heap.size 48 i0 (.agg (mcells m0)) 10 80 Try.underlying40 hi0 hz0 hz1 hz2 rfl (by decide) _ _ _ rfl (World.ownsRow_made w #[] 0 (Nat.le_refl _) (Nat.zero_le _) rfl) ⟨g, 0, none⟩ l.length cap (cellsOf mc l) rfl HL.out ?c1 H1.out ?c3 ?c4 ?c5 ?_)
    case c1 => exact fun j u hj => (Lib.cell?_alloc_some _ (HC.out j u hj))
    case c3 => simp only [maxLen]; omega
    case c4 => omega
    case c5 => simp
    intro v' w1 hown hgrow hnil
    go_wp2
    go_ret
    exact ⟨v', rfl, by simpa using hown, ((Below.refl _ w).alloc (Nat.le_refl _) _).grown hgrow (by simp) (by intro k hk; simp [Value.ownBlock] at hk; omega)⟩
/-- List. -/
theorem list_any {w : World} {B b : Nat} {room : Int} {l : List En} {v : Value} (h : BgP w B b room l v) (hl : l.length ≤ 5000) :
    Calls Try.prog 13 #[.pointer (some ⟨b, 0, none⟩)] w (RowGave 48 10 mc l w) := by
  have HC := Lib.hid (clone_any h.row hl)
  have c1 := blk_cell h.blk 1
  simp at c1
  clear h
  go_enter Try.func13, Try.ntmps13
  go_wp2_with (go_at_call 21; refine HC.out.mono ?_; rintro e w1 ⟨v', rfl, hown, hb⟩)
  go_ret
  exact ⟨v', rfl, hown, hb⟩

/-- What a call gives that tells a miss, and something beside it. -/
def RetM (x : En) (q : Bool) (P : World → Prop) (e : Ending) (w' : World) : Prop := e = .returned (.tuple #[.agg (mcells x), .bool q]) ∧ P w'
theorem get_ret {wr : World} {x : En} {q : Bool} {P : World → Prop} {a : Act} {g : Nat} (hp : a.tmps.getD 4 undef = .pointer (some ⟨g, 0, none⟩)) (hq : a.tmps.getD 5 undef = .bool q) (hd : a.defers = []) (hg : wr.heap[g]? = some (.cells (mcells x) 48 (0, 0))) (hb : P wr) :
    bodyPost Try.prog Try.f15 (RetM x q P) Exit.ret a wr :=
  bodyPost_ret (v := .tuple #[.agg (mcells x), a.tmps.getD 5 undef]) (results_cell_two Try.results15 _ _ g 48 _ (0, 0) _ hp hg Try.underlying48 rfl (by kernel_rfl)) hd ⟨by rw [hq], hb⟩

/-- Left. -/
theorem left_any {w : World} {B b : Nat} {room : Int} {l : List En} {v : Value} (h : BgP w B b room l v) (h1 : 1 ≤ room) (h2 : room ≤ 8) (hl : l.length ≤ 8) :
    Calls Try.prog 14 #[.pointer (some ⟨b, 0, none⟩)] w fun e w' => e = .returned (.int .i64 (room - l.length)) ∧ ∃ n, w' = w.drewN n := by
  obtain ⟨p, cap, rfl, -⟩ := h.form
  have c0 := blk_cell h.blk 0
  have c1 := blk_cell h.blk 1
  simp at c0 c1
  clear h
  go_enter Try.func14, Try.ntmps14
  go_wp2
  go_quiet (fail)
  go_wp2
  go_ret
  exact ⟨rfl, _, rfl⟩

set_option maxHeartbeats 1000000 in
/-- Get. -/
theorem get_any {w : World} {B b : Nat} {room : Int} {l : List En} {v : Value} (h : BgP w B b room l v) (line : Int) (hl : l.length ≤ 5000) :
    Calls Try.prog 15 #[.pointer (some ⟨b, 0, none⟩), .int .i64 line] w (RetM (getP l line).1 (getP l line).2 (Below w.heap.size w)) := by
  have HP := fun (o : Obj) => place_any (h.below (balloc w o)) line hl
  rcases hp : fnd l line with _ | i
  · rw [getP_none hp]
    rw [hp] at HP
    have HP := Lib.hid HP
    clear h hp
    go_enter Try.func15, Try.ntmps15
    go_wp2_with fail
    refine (HP.out _).mono ?_
    rintro e w1 ⟨rfl, hb1⟩
    simp only [oi]
    go_wp2_with ((with_reducible refine wpList_store_row (o := ⟨none, _, _, _, _, _⟩) rfl 48 (.tmp 4) (.tmp 12) rfl w.heap.size (mcells m0) ?sx ?sy 48 ?old ?sg ?si ?so ?s1 ?_); (case sx => rfl); (case sy => rfl); (case old => exact mcells m0); (case sg => exact box_at hb1); (case si => kernel_rfl); (case so => rfl); (case s1 => kernel_rfl))
    exact get_ret rfl rfl rfl (setRow_heap _ _ _ _ _ _ (box_at hb1)) (below_setRow (bbox hb1) (Nat.le_refl _) _)
  · obtain ⟨x, hx, _, hi⟩ := fnd_some hp
    rw [getP_yes hp hx]
    obtain ⟨g, cap, rfl, hbg, hgl, hBg, hr, hfz, _, _⟩ := h.one hx
    rw [hp] at HP
    have HP := Lib.hid HP
    have HC := Lib.hid (fun w1 (hb : Below w.heap.size w w1) => blk_cell (h.below hb).blk)
    have HR := Lib.hid (fun w1 (hb : Below w.heap.size w w1) => (show w1.rangeAt g (i * 10) (mc x) from fun j u hu => (hb.cell (p := ⟨g, i * 10 + j, none⟩) hgl).trans (hr j u hu)))
    have hni : ¬ (i : Int) < 0 := by omega
    clear h hp hx hr hfz
    go_enter Try.func15, Try.ntmps15
    go_wp2_with fail
    refine (HP.out _).mono ?_
    rintro e w1 ⟨rfl, hb1⟩
    simp only [oi]
    have c1 := HC.out _ (bbox hb1) 1
    simp at c1
    go_wp2_with (first
      | ((with_reducible refine wpList_load_mid (op := ⟨some 19, _, _, _, _, _⟩) rfl 48 (.tmp 18) rfl g (i * 10) ?lx (mc x) _ ?lc Try.underlying48 ?ld ?li ?_); (case lx => rfl); (case lc => exact HR.out _ (bbox hb1)); (case ld => rfl); (case li => kernel_rfl))
      | ((with_reducible refine wpList_store_row (o := ⟨none, _, _, _, _, _⟩) rfl 48 (.tmp 4) (.tmp 19) rfl w.heap.size (mcells x) ?sx ?sy 48 ?old ?sg ?si ?so ?s1 ?_); (case sx => rfl); (case sy => rfl); (case old => exact mcells m0); (case sg => exact box_at hb1); (case si => kernel_rfl); (case so => rfl); (case s1 => kernel_rfl)))
    exact get_ret rfl rfl rfl (setRow_heap _ _ _ _ _ _ (box_at hb1)) (below_setRow (bbox hb1) (Nat.le_refl _) _)

end Go.Proofs.Ytlhecliamhjobaa
