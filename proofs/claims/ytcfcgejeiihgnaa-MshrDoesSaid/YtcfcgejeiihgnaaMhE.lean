/-
  Open.
-/
import Derived.Test.YtcfcgejeiihgnaaMhD
namespace Go.Proofs.Ytcfcgejeiihgnaa
open Go Go.RowKit

/-- What a change of a file gives: an answer, and its misses. -/
structure GaveP (w : World) (B b : Nat) (room : Int) (v : Value) (r : Int × List Ms) (e : Ending) (w' : World) : Prop where
  res : e = .returned (.int .i64 r.1)
  put : PutGave 60 34 15 mc w B b room r.2 v w'

theorem kind_no {kind : Int} (h : (kind != 1 && kind != 2) = true) : (kind != 1) = true ∧ (kind != 2) = true := by simpa using h
set_option maxHeartbeats 2000000 in
theorem open_any {w : World} {B b : Nat} {room : Int} {l : List Ms} {v : Value} (h : BgP w B b room l v) (hB : B ≤ w.heap.size) (line kind : Int) (hr : room ≤ 8) (hl : (l.length : Int) ≤ room) :
    Calls Try.prog 16 #[.pointer (some ⟨b, 0, none⟩), .int .i64 line, .int .i64 kind] w (GaveP w B b room v (openP room l line kind)) := by
  have HEl : ∀ n, openP room l line kind = (n, l) → Hid (∀ w', Below w.heap.size w w' → GaveP w B b room v (openP room l line kind) (.returned (.int .i64 n)) w') := fun n e => Lib.hid (fun w' hb => by
    rw [e]
    exact ⟨rfl, gave_same h hb⟩)
  rcases Bool.eq_false_or_eq_true (kind != 1 && kind != 2) with hk | hk
  · have HE := HEl 1 (openP_kind hk)
    obtain ⟨k1, k2⟩ := kind_no hk
    clear h HEl hk
    go_enter Try.func16, Try.ntmps16
    go_wp2
    go_ret
    exact HE.out _ (Below.refl _ _)
  · have hks : (kind != 1) = false ∨ (kind != 1) = true ∧ (kind != 2) = false := by
      rcases Bool.eq_false_or_eq_true (kind != 1) with h1 | h1
      · exact .inr ⟨h1, by simpa [h1] using hk⟩
      · exact .inl h1
    have hbx := balloc w (.cells #[.int .i64 line] 3)
    rcases hp : fnd l line with _ | i
    · have HP := Lib.hid (firstL_no (h.below hbx) ⟨w.heap.size, 0, none⟩ line (by omega) (by simp) (by simp) hp)
      have HC := Lib.hid (fun w1 (hb : Below w.heap.size w w1) => (h.below hb).blk)
      by_cases hf : (l.length : Int) = room
      · have HE := HEl 4 (openP_full hk hp hf)
        have hfb : ((l.length : Int) == room) = true := by simpa using hf
        obtain ⟨q, cap, rfl, hq⟩ := h.form
        clear h HEl hk hp hf hq
        rcases hks with k1 | ⟨k1, k2⟩
        all_goals
          go_enter Try.func16, Try.ntmps16
          go_wp2_with fail
          refine (ofLine_any line _).mono ?_
          rintro e w1 ⟨rfl, rfl⟩
          go_wp2_with fail
          refine HP.out.mono ?_
          rintro e w1 ⟨rfl, hb1⟩
          have hb2 := bbox hb1
          have hc := blk_cell (HC.out _ hb2)
          have c0 := hc 0
          have c1 := hc 1
          simp at c0 c1
          clear hb1 hc
          go_wp2
          go_quiet (fail)
          go_wp2
          go_ret
          exact HE.out _ (below_drewN hb2 _)
      · have e0 := openP_yes hk hp hf
        have hfb : ((l.length : Int) == room) = false := by simpa using hf
        have H := Lib.hid h
        have hlt := h.lt
        obtain ⟨q, cap0, e1, hq⟩ := h.form
        obtain ⟨i0, hi, hz0, hz1, hz2⟩ := info_parts A34
        have HZ := Lib.hid e0
        have hll : l.length ≤ 8 := by omega
        subst e1
        clear h HEl hk hp hf hq e0
        rcases hks with k1 | ⟨k1, k2⟩
        all_goals
          go_enter Try.func16, Try.ntmps16
          go_wp2_with fail
          refine (ofLine_any line _).mono ?_
          rintro e w1 ⟨rfl, rfl⟩
          go_wp2_with fail
          refine HP.out.mono ?_
          rintro e w1 ⟨rfl, hb1⟩
          have hb2 := bbox hb1
          have hc := blk_cell (HC.out _ hb2)
          have c0 := hc 0
          have c1 := hc 1
          simp at c0 c1
          clear hb1 hc
          go_wp2
          go_quiet (fail)
          have hb3 := below_drewN hb2 nq
          clear hb2 c0 c1
          generalize w1.drewN nq = w2 at *
          have H1 := Lib.hid (H.out.below hb3)
          have c1 := blk_cell H1.out.blk 1
          have f1 := blk_free H1.out.blk 1
          have hsz := hb3.size
          have HB3 := Lib.hid hb3
          simp at c1
          clear hb3
          go_wp2_with (at_builtin; refine wpList_append_lies _ rfl (.tmp 35) (.tmp 39) 48 rfl B 34 i0 (.agg (mcells m0)) 15 112 Try.underlying48 hi hz0 hz1 hz2 rfl (by decide) _ l.length (cellsOf mc l) rfl (H1.out.row.alloc _) ⟨w2.heap.size, 0, none⟩ 1 1 (mc (newM line kind)) rfl rfl ?c1 ?c2 (by decide) ?c3 ?c4 ?c5 _ rfl ?_)
          case c1 => exact World.news_of_block (cs := mcells (newM line kind)) (t := 34) (fr := (0, 0)) (heap_alloc_new w2 _)
          case c2 => exact mc_one _
          case c3 => simp only [maxLen]; omega
          case c4 => omega
          case c5 => simp; omega
          intro gg cap w3 hown hgrow hat hlt3
          have hb4 := put_blk H1.out (balloc w2 (.cells (mcells (newM line kind)) 34)) hgrow
          have c2 := blk_cell hb4 1
          have f2 := blk_free hb4 1
          simp at c2
          have R := put_gave (x := newM line kind) H.out (bstep HB3.out (balloc w2 (.cells (mcells (newM line kind)) 34))) hown hgrow (hat.imp id fun h => by omega)
          clear hown hgrow hat hb4 c1 f1
          go_wp2
          go_ret
          rw [HZ.out]
          exact ⟨rfl, R⟩
    · obtain ⟨x, hx, _, hi⟩ := fnd_some hp
      have HE := HEl 6 (openP_twice hk hp)
      obtain ⟨g, cap, rfl, hbg, hgl, hBg, hr, hfz, _, _⟩ := h.one hx
      have HP := Lib.hid (firstL_yes (h.below hbx) ⟨w.heap.size, 0, none⟩ line (by omega) (by simp) (by simp) hp hi)
      clear h HEl hk hp hx hr hfz
      rcases hks with k1 | ⟨k1, k2⟩
      all_goals
        go_enter Try.func16, Try.ntmps16
        go_wp2_with fail
        refine (ofLine_any line _).mono ?_
        rintro e w1 ⟨rfl, rfl⟩
        go_wp2_with fail
        refine HP.out.mono ?_
        rintro e w1 ⟨rfl, hb1⟩
        go_wp2
        go_ret
        exact HE.out _ (bbox hb1)

end Go.Proofs.Ytcfcgejeiihgnaa
