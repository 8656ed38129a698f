/-
  The document's Drop.
-/
import Derived.Test.YtlhecliamhjobaaWbW
namespace Go.Proofs.Ytlhecliamhjobaa
open Go Go.RowKit

/-- What is left of the first k without the i-th. -/
def but (l : List En) (i k : Nat) : List En := (l.take k).eraseIdx i
theorem but_zero (l : List En) (i : Nat) : but l i 0 = [] := by simp [but]
theorem but_ne (l : List En) (i k : Nat) (x : En) (hx : l[k]? = some x) (h : k ≠ i) : but l i (k + 1) = but l i k ++ [x] := by
  obtain ⟨hk, e⟩ := List.getElem?_eq_some_iff.1 hx
  unfold but
  rw [List.take_succ_eq_append_getElem hk, e]
  have hl : (l.take k).length = k := by rw [List.length_take]; omega
  rcases Nat.lt_or_ge i k with hi | hi
  · rw [List.eraseIdx_append_of_lt_length (by omega)]
  · rw [List.eraseIdx_of_length_le (by simp; omega), List.eraseIdx_of_length_le (by omega)]
theorem but_eq (l : List En) (i : Nat) (hi : i < l.length) : but l i (i + 1) = but l i i := by
  unfold but
  rw [List.take_succ_eq_append_getElem hi]
  have hl : (l.take i).length = i := by rw [List.length_take]; omega
  rw [List.eraseIdx_append_of_length_le (by omega), hl, Nat.sub_self]
  simp [List.eraseIdx_of_length_le, hl]
theorem but_len (l : List En) (i k : Nat) : (but l i k).length ≤ k := by
  unfold but
  have h := List.length_eraseIdx_le (l.take k) i
  have h2 : (l.take k).length ≤ k := by rw [List.length_take]; omega
  omega

/-- What holds at each round's head. -/
def DropRel (w : World) (l : List En) (i : Nat) (out t : Value) (wr : World) : Prop :=
  ∃ k : Nat, k ≤ l.length ∧ t = .int .i64 k ∧ wr.ownsRow w.heap.size 47 10 out (but l i k).length (cellsOf mc (but l i k)) ∧ Below w.heap.size w wr

theorem refDrop_none {w : World} {B b : Nat} {room : Int} {l : List En} {v : Value} (h : BgD w B b room l v) (line : Int) (hl : l.length ≤ 5000) (hp : fnd l line = none) :
    Calls Try.prog 12 #[.pointer (some ⟨b, 0, none⟩), .int .i64 line] w fun e w' => e = .returned (.int .i64 5) ∧ w = w' := by
  have HP := refPlace_any h line hl
  rw [hp] at HP
  have HP := Lib.hid HP
  clear h hp
  go_enter Try.func12, Try.ntmps12
  go_wp2_with fail
  refine HP.out.mono ?_
  rintro e w1 ⟨rfl, rfl⟩
  simp only [oi]
  go_wp2
  go_ret
  exact ⟨rfl, rfl⟩

set_option maxRecDepth 100000 in
set_option maxHeartbeats 800000 in
theorem refDrop_yes {w : World} {B b : Nat} {room : Int} {l : List En} {g cap : Nat} (h : BgD w B b room l (.slice (some ⟨g, 0, none⟩) l.length cap)) (hB : B ≤ w.heap.size) (line : Int) (hl : l.length ≤ 5000) {i : Nat} {x : En} (hp : fnd l line = some i) (hx : l[i]? = some x) :
    Calls Try.prog 12 #[.pointer (some ⟨b, 0, none⟩), .int .i64 line] w fun e w' => e = .returned (.int .i64 0) ∧ PutGave 44 47 10 mc w B b room (l.eraseIdx i) (.slice (some ⟨g, 0, none⟩) l.length cap) w' := by
  obtain ⟨i0, hi0, hz0, hz1, hz2⟩ := info_parts A39
  have HP := refPlace_any h line hl
  rw [hp] at HP
  have HP := Lib.hid HP
  have hi := (List.getElem?_eq_some_iff.1 hx).1
  have hni : ¬ (i : Int) < 0 := by omega
  have hlt := h.lt
  have hgl := (h.row.lt g rfl).2
  have c1 := blk_cell h.blk 1
  simp at c1
  obtain ⟨q, cap', e0, hin⟩ := h.ins
  obtain ⟨rfl, rfl⟩ : some (⟨g, 0, none⟩ : Addr) = q ∧ cap = cap' := by simpa using e0
  have HI := Lib.hid hin
  have H := Lib.hid h
  clear h hp hx e0 hin
  go_enter Try.func12, Try.ntmps12
  go_wp2_with fail
  refine HP.out.mono ?_
  rintro e w1 ⟨rfl, rfl⟩
  simp only [oi]
  go_wp2
  go_loopw [6, 7] (fun out t wr => DropRel w l i out t wr) (fun _ t _ => l.length - (intOf t).toNat)
  case atStart =>
    refine ⟨0, Nat.zero_le _, rfl, ?_, (Below.refl _ _).alloc (Nat.le_refl _) _⟩
    rw [but_zero]
    exact World.ownsRow_made w #[] 0 (Nat.le_refl _) (Nat.zero_le _) rfl
  case round =>
    obtain ⟨k, hk, rfl, hown, hb⟩ := hrel
    have hcc := (hb.cell (p := ⟨b, 1, none⟩) hlt).trans c1
    have hsz := hb.size
    have HO := Lib.hid hown
    have HB := Lib.hid hb
    clear hown hb
    by_cases hlk : k < l.length
    · obtain ⟨y, hy⟩ : ∃ y, l[k]? = some y := ⟨_, List.getElem?_eq_getElem hlk⟩
      obtain ⟨g2, e2, _, hry⟩ := HI.out.step HB.out k y hy
      obtain rfl : g = g2 := by simpa using e2
      have HRY := Lib.hid hry
      have HY := Lib.hid hy
      clear hy hry e2
      by_cases hki : k = i
      · have hne : ((k : Int) != (i : Int)) = false := by simp [hki]
        have HK := Lib.hid hki
        clear hki
        go_wp2
        go_roundw
        case rel =>
          refine ⟨k + 1, by omega, by go_num, ?_, HB.out⟩
          rw [HK.out, but_eq l i hi, ← HK.out]
          exact HK.out ▸ HO.out
        case measure => simp [intOf]; omega
      · have hne : ((k : Int) != (i : Int)) = true := by simp; omega
        have HK := Lib.hid hki
        have hbl := but_len l i k
        have HOO := Lib.hid (HO.out.alloc (.cells (mcells y) 47))
        clear hki
        go_wp2_with (first
          | ((with_reducible refine wpList_load_at (op := ⟨some 33, _, _, _, _, _⟩) rfl 47 (.tmp 32) rfl g (k * 10) ?lx (mcells y) _ ?lc Try.underlying47 ?ld ?li ?_); (case lx => rfl); (case lc => exact HRY.out); (case ld => rfl); (case li => kernel_rfl))
          | (at_builtin; refine wpList_append_lies _ rfl (.tmp 26) (.tmp 34) 42 rfl w.heap.size 47 i0 (.agg (mcells m0)) 10 80 Try.underlying42 hi0 hz0 hz1 hz2 rfl (by decide) _ (but l i k).length (cellsOf mc (but l i k)) rfl HOO.out ⟨wr.heap.size, 0, none⟩ 1 1 (mc y) rfl rfl ?c1 ?c2 (by decide) ?c3 ?c4 ?c5 _ rfl ?_))
        case c1 => exact World.news_of_block (cs := mcells y) (t := 47) (fr := (0, 0)) (heap_alloc_new wr _)
        case c2 => exact mc_one _
        case c3 => simp only [maxLen]; omega
        case c4 => omega
        case c5 => simp; omega
        intro g' cap' w2 hown hgrow hat hlt2
        have hb2 := (HB.out.alloc (by omega) (.cells (mcells y) 47)).grown hgrow (by simp; omega) (fun k hk => (HO.out.lt k hk).1)
        have HO2 := Lib.hid hown
        have HB2 := Lib.hid hb2
        clear hown hgrow hat hb2
        go_wp2
        go_roundw
        case rel =>
          refine ⟨k + 1, by omega, by go_num, ?_, HB2.out⟩
          rw [but_ne l i k y HY.out HK.out, cellsOf_append, List.length_append]
          simpa [cellsOf] using HO2.out
        case measure => simp [intOf]; omega
    · have hkl : k = l.length := by omega
      have hbk := (HB.out.block b hlt).trans H.out.blk
      have hfz := blk_free hbk 1
      obtain ⟨q, cq, hq⟩ : ∃ q cq, u6 = Value.slice q (but l i k).length cq := by
        rcases HO.out.2 with ⟨e, h0⟩ | ⟨g', cap', cur, e, _⟩
        · exact ⟨none, 0, by rw [e, h0]⟩
        · exact ⟨_, cap', e⟩
      subst hq
      have HK := Lib.hid hkl
      have HBK := Lib.hid hbk
      clear hkl hbk
      go_wp2
      go_ret
      refine ⟨rfl, gave_new (n := (but l i k).length) H.out HB.out hB ?_ ?_⟩
      · rw [HK.out]; unfold but; rw [List.take_length]
      · have := HO.out
        have e : but l i k = l.eraseIdx i := by rw [HK.out]; unfold but; rw [List.take_length]
        rw [e] at this ⊢
        exact this
theorem refDrop_any {w : World} {B b : Nat} {room : Int} {l : List En} {v : Value} (h : BgD w B b room l v) (hB : B ≤ w.heap.size) (line : Int) (hl : l.length ≤ 5000) :
    Calls Try.prog 12 #[.pointer (some ⟨b, 0, none⟩), .int .i64 line] w (GaveD w B b room v (dropP l line)) := by
  rcases hp : fnd l line with _ | i
  · rw [dropP_none hp]
    exact (refDrop_none h line hl hp).mono fun e w' ⟨h1, h2⟩ => ⟨h1, gave_same h (h2 ▸ Below.refl _ _)⟩
  · obtain ⟨x, hx, _, hi⟩ := fnd_some hp
    obtain ⟨g, cap, rfl, _⟩ := h.one hx
    rw [dropP_yes hp]
    exact (refDrop_yes h hB line hl hp hx).mono fun e w' ⟨h1, h2⟩ => ⟨h1, h2⟩

end Go.Proofs.Ytlhecliamhjobaa
