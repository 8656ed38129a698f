/-
  New, Clone, List, Get and Owing, one contract each.
-/
import Derived.Test.YtcfcgejeiihgnaaMhC
namespace Go.Proofs.Ytcfcgejeiihgnaa
open Go Go.RowKit

theorem new_no (room : Int) (w : World) (h : room < 1 ∨ 8 < room) :
    Calls Try.prog 7 #[.int .i64 room] w fun e w' => e = .returned (.tuple #[.pointer none, .int .i64 1]) ∧ w = w' := by
  rcases h with h | h
  · go_enter Try.func7, Try.ntmps7
    go_wp2
    go_ret2
    exact ⟨rfl, rfl⟩
  · have h1 : ¬ room < 1 := by omega
    go_enter Try.func7, Try.ntmps7
    go_wp2
    go_ret2
    exact ⟨rfl, rfl⟩
theorem new_yes (room : Int) (w : World) (h : 1 ≤ room) (h2 : room ≤ 8) :
    Calls Try.prog 7 #[.int .i64 room] w fun e w' => e = .returned (.tuple #[.pointer (some ⟨w.heap.size, 0, none⟩), .int .i64 0]) ∧ w.alloc (.cells #[.int .i64 room, .slice none 0 0] 60) = w' := by
  go_enter Try.func7, Try.ntmps7
  go_wp2
  go_ret2
  exact ⟨rfl, rfl⟩

/-- Clone. -/
theorem clone_any {w : World} {B : Nat} {v : Value} {l : List Ms} (h : w.ownsRow B 34 15 v l.length (cellsOf mc l)) (hl : l.length ≤ 5000) :
    Calls Try.prog 32 #[v] w (RowGave 34 15 mc l w) := by
  obtain ⟨i0, hi0, hz0, hz1, hz2⟩ := info_parts A34
  have hq := fun (w : World) (a : Option Addr) (n c n' c' : Nat) => Lib.run_eql_slice_nil (P := Try.prog) w 48 34 a n c n' c' Try.underlying48
  rcases h.2 with ⟨rfl, h0⟩ | ⟨g, cap, cur, rfl, hb, hg, rest⟩
  · have e : l = [] := List.eq_nil_of_length_eq_zero h0
    subst e
    clear h h0 hl
    go_enter Try.func32, Try.ntmps32
    go_wp2
    go_ret
    exact ⟨_, rfl, World.ownsRow_nil _ _ _ _, Below.refl _ _⟩
  · have hcell := h.cells (g := g) rfl
    have HC := Lib.hid hcell
    have HL := Lib.hid (cellsOf_len mc_len l)
    have H1 : Hid (∀ u ∈ cellsOf mc l, u.oneCell' = true) := Lib.hid (mcs_one l)
    clear h hcell hg rest
    go_enter Try.func32, Try.ntmps32
    go_wp2_with (at_builtin; refine wpList_append_own _ rfl (.tmp 5) (.tmp 6) 48 rfl w.heap.size 34 i0 (.agg (mcells m0)) 15 112 Try.underlying48 hi0 hz0 hz1 hz2 rfl (by decide) _ _ _ rfl (World.ownsRow_made w #[] 0 (Nat.le_refl _) (Nat.zero_le _) rfl) ⟨g, 0, none⟩ l.length cap (cellsOf mc l) rfl HL.out ?c1 H1.out ?c3 ?c4 ?c5 ?_)
    case c1 => exact fun j u hj => (Lib.cell?_alloc_some _ (HC.out j u hj))
    case c3 => simp only [maxLen]; omega
    case c4 => omega
    case c5 => simp
    intro v' w1 hown hgrow hnil
    go_wp2
    go_ret
    exact ⟨v', rfl, by simpa using hown, ((Below.refl _ w).alloc (Nat.le_refl _) _).grown hgrow (by simp) (by intro k hk; simp [Value.ownBlock] at hk; omega)⟩
/-- List. -/
theorem list_any {w : World} {B b : Nat} {room : Int} {l : List Ms} {v : Value} (h : BgP w B b room l v) (hl : l.length ≤ 5000) :
    Calls Try.prog 15 #[.pointer (some ⟨b, 0, none⟩)] w (RowGave 34 15 mc l w) := by
  have HC := Lib.hid (clone_any h.row hl)
  have c1 := blk_cell h.blk 1
  simp at c1
  clear h
  go_enter Try.func15, Try.ntmps15
  go_wp2_with (go_at_call 32; refine HC.out.mono ?_; rintro e w1 ⟨v', rfl, hown, hb⟩)
  go_ret
  exact ⟨v', rfl, hown, hb⟩

/-- What a call gives that tells a miss, and something beside it. -/
def RetM (x : Ms) (q : Bool) (P : World → Prop) (e : Ending) (w' : World) : Prop := e = .returned (.tuple #[.agg (mcells x), .bool q]) ∧ P w'
theorem get_ret {wr : World} {x : Ms} {q : Bool} {P : World → Prop} {a : Act} {g : Nat} (hp : a.tmps.getD 4 undef = .pointer (some ⟨g, 0, none⟩)) (hq : a.tmps.getD 5 undef = .bool q) (hd : a.defers = []) (hg : wr.heap[g]? = some (.cells (mcells x) 34 (0, 0))) (hb : P wr) :
    bodyPost Try.prog Try.f13 (RetM x q P) Exit.ret a wr :=
  bodyPost_ret (v := .tuple #[.agg (mcells x), a.tmps.getD 5 undef]) (results_cell_two Try.results13 _ _ g 34 _ (0, 0) _ hp hg Try.underlying34 rfl (by kernel_rfl)) hd ⟨by rw [hq], hb⟩
theorem owe_ret {wr : World} {x : Ms} {q : Bool} {P : World → Prop} {a : Act} {g : Nat} (hp : a.tmps.getD 4 undef = .pointer (some ⟨g, 0, none⟩)) (hq : a.tmps.getD 5 undef = .bool q) (hd : a.defers = []) (hg : wr.heap[g]? = some (.cells (mcells x) 34 (0, 0))) (hb : P wr) :
    bodyPost Try.prog Try.f17 (RetM x q P) Exit.ret a wr :=
  bodyPost_ret (v := .tuple #[.agg (mcells x), a.tmps.getD 5 undef]) (results_cell_two Try.results17 _ _ g 34 _ (0, 0) _ hp hg Try.underlying34 rfl (by kernel_rfl)) hd ⟨by rw [hq], hb⟩

theorem line_at (w : World) (o : Obj) (line : Int) : ((w.alloc o).alloc (.cells #[.int .i64 line] 3)).cell? ⟨w.heap.size + 1, 0, none⟩ = some (.int .i64 line) := by
  simp
theorem balloc2 (w : World) (o o2 : Obj) : Below w.heap.size w ((w.alloc o).alloc o2) := bstep (balloc w o) (balloc _ o2)
set_option maxHeartbeats 1000000 in
/-- Get. -/
theorem get_any {w : World} {B b : Nat} {room : Int} {l : List Ms} {v : Value} (h : BgP w B b room l v) (line : Int) (hl : l.length ≤ 5000) :
    Calls Try.prog 13 #[.pointer (some ⟨b, 0, none⟩), .int .i64 line] w (RetM (getP l line).1 (getP l line).2 (Below w.heap.size w)) := by
  rcases hp : fnd l line with _ | i
  · rw [getP_none hp]
    have HP := Lib.hid (fun (o : Obj) => firstL_no (h.below (balloc2 w o (.cells #[.int .i64 line] 3))) ⟨w.heap.size + 1, 0, none⟩ line hl (line_at w o line) (by simp) hp)
    clear h hp
    go_enter Try.func13, Try.ntmps13
    go_wp2_with fail
    refine (ofLine_any line _).mono ?_
    rintro e w1 ⟨rfl, rfl⟩
    go_wp2_with fail
    refine (HP.out _).mono ?_
    rintro e w1 ⟨rfl, hb1⟩
    have hb2 := bstep (balloc _ _) hb1
    clear hb1
    go_wp2_with ((with_reducible refine wpList_store_row (o := ⟨none, _, _, _, _, _⟩) rfl 34 (.tmp 4) (.tmp 13) rfl w.heap.size (mcells m0) ?sx ?sy 34 ?old ?sg ?si ?so ?s1 ?_); (case sx => rfl); (case sy => rfl); (case old => exact mcells m0); (case sg => exact box_at hb2); (case si => kernel_rfl); (case so => rfl); (case s1 => kernel_rfl))
    exact get_ret rfl rfl rfl (setRow_heap _ _ _ _ _ _ (box_at hb2)) (below_setRow (bbox hb2) (Nat.le_refl _) _)
  · obtain ⟨x, hx, _, hi⟩ := fnd_some hp
    rw [getP_yes hp hx]
    obtain ⟨g, cap, rfl, hbg, hgl, hBg, hr, hfz, _, _⟩ := h.one hx
    have HP := Lib.hid (fun (o : Obj) => firstL_yes (h.below (balloc2 w o (.cells #[.int .i64 line] 3))) ⟨w.heap.size + 1, 0, none⟩ line hl (line_at w o line) (by simp) hp hi)
    have HR := Lib.hid (fun w1 (hb : Below w.heap.size w w1) => (show w1.rangeAt g (i * 15) (mc x) from fun j u hu => (hb.cell (p := ⟨g, i * 15 + j, none⟩) hgl).trans (hr j u hu)))
    clear h hp hx hr hfz
    go_enter Try.func13, Try.ntmps13
    go_wp2_with fail
    refine (ofLine_any line _).mono ?_
    rintro e w1 ⟨rfl, rfl⟩
    go_wp2_with fail
    refine (HP.out _).mono ?_
    rintro e w1 ⟨rfl, hb1⟩
    have hb2 := bstep (balloc _ _) hb1
    clear hb1
    go_wp2_with (first
      | ((with_reducible refine wpList_load_mid (op := ⟨some 16, _, _, _, _, _⟩) rfl 34 (.tmp 15) rfl g (i * 15) ?lx (mc x) _ ?lc Try.underlying34 ?ld ?li ?_); (case lx => rfl); (case lc => exact HR.out _ (bbox hb2)); (case ld => rfl); (case li => kernel_rfl))
      | ((with_reducible refine wpList_store_row (o := ⟨none, _, _, _, _, _⟩) rfl 34 (.tmp 4) (.tmp 16) rfl w.heap.size (mcells x) ?sx ?sy 34 ?old ?sg ?si ?so ?s1 ?_); (case sx => rfl); (case sy => rfl); (case old => exact mcells m0); (case sg => exact box_at hb2); (case si => kernel_rfl); (case so => rfl); (case s1 => kernel_rfl)))
    exact get_ret rfl rfl rfl (setRow_heap _ _ _ _ _ _ (box_at hb2)) (below_setRow (bbox hb2) (Nat.le_refl _) _)

set_option maxHeartbeats 1000000 in
/-- Owing. -/
theorem owing_any {w : World} {B b : Nat} {room : Int} {l : List Ms} {v : Value} (h : BgP w B b room l v) (hl : l.length ≤ 5000) :
    Calls Try.prog 11 #[.pointer (some ⟨b, 0, none⟩)] w fun e w' => e = .returned (.tuple #[.int .i64 (owingP l).1, .bool (owingP l).2]) ∧ Below w.heap.size w w' := by
  rcases hp : l.findIdx? Ms.os with _ | i
  · rw [owingP_none hp]
    have HP := Lib.hid (firstO_no h hl hp)
    clear h hp
    go_enter Try.func11, Try.ntmps11
    go_wp2_with (go_at_call 28; refine HP.out.mono ?_; rintro e w1 ⟨rfl, hb1⟩)
    go_ret2
    exact ⟨rfl, hb1⟩
  · have hi := (List.findIdx?_eq_some_iff_getElem.1 hp).1
    obtain ⟨x, hx⟩ : ∃ x, l[i]? = some x := ⟨_, List.getElem?_eq_getElem hi⟩
    rw [owingP_yes hp hx]
    obtain ⟨g, cap, rfl, hbg, hgl, hBg, hr, hfz, _, _⟩ := h.one hx
    have HP := Lib.hid (firstO_yes h hl hp hi)
    have HR := Lib.hid (fun w1 (hb : Below w.heap.size w w1) => (hb.cell (p := ⟨g, i * 15, none⟩) hgl).trans (hr 0 _ rfl))
    clear h hp hx hr hfz
    go_enter Try.func11, Try.ntmps11
    go_wp2_with (go_at_call 28; refine HP.out.mono ?_; rintro e w1 ⟨rfl, hb1⟩; have hc := HR.out _ hb1)
    go_ret2
    exact ⟨rfl, hb1⟩

end Go.Proofs.Ytcfcgejeiihgnaa
