/-
  What the document's Take does.
-/
import Derived.Test.YtnimaogdjfenpaaBgG
namespace Go.Proofs.Ytnimaogdjfenpaa
open Go Go.RowKit

/-- What is left of the first k without the i-th. -/
def but (l : List Int) (i k : Nat) : List Int := (l.take k).eraseIdx i
theorem but_zero (l : List Int) (i : Nat) : but l i 0 = [] := by simp [but]
theorem but_ne (l : List Int) (i k : Nat) (x : Int) (hx : l[k]? = some x) (h : k ≠ i) : but l i (k + 1) = but l i k ++ [x] := by
  obtain ⟨hk, e⟩ := List.getElem?_eq_some_iff.1 hx
  unfold but
  rw [List.take_succ_eq_append_getElem hk, e]
  have hl : (l.take k).length = k := by rw [List.length_take]; omega
  rcases Nat.lt_or_ge i k with hi | hi
  · rw [List.eraseIdx_append_of_lt_length (by omega)]
  · rw [List.eraseIdx_of_length_le (by simp; omega), List.eraseIdx_of_length_le (by omega)]
theorem but_eq (l : List Int) (i : Nat) (hi : i < l.length) : but l i (i + 1) = but l i i := by
  unfold but
  rw [List.take_succ_eq_append_getElem hi]
  have hl : (l.take i).length = i := by rw [List.length_take]; omega
  rw [List.eraseIdx_append_of_length_le (by omega), hl, Nat.sub_self]
  simp [List.eraseIdx_of_length_le, hl]
theorem but_len (l : List Int) (i k : Nat) : (but l i k).length ≤ k := by
  unfold but
  have h := List.length_eraseIdx_le (l.take k) i
  have h2 : (l.take k).length ≤ k := by rw [List.length_take]; omega
  omega

/-- What holds at each round's head. -/
def TakeRel (w : World) (l : List Int) (i : Nat) (out t : Value) (wr : World) : Prop :=
  ∃ k : Nat, k ≤ l.length ∧ t = .int .i64 k ∧ wr.ownsRow w.heap.size 3 1 out (but l i k).length (cellsOf one (but l i k)) ∧ Below w.heap.size w wr

set_option maxHeartbeats 2000000 in
theorem takeR_yes {w : World} {B b : Nat} {room : Int} {l : List Int} {v : Value} (h : BgR w B b room l v) (i : Nat) (x : Int) (hB : B ≤ w.heap.size) (hl : l.length ≤ 5000) (hx : l[i]? = some x) :
    Calls Try.prog 12 #[.pointer (some ⟨b, 0, none⟩), .int .i64 i] w fun e w' => e = .returned (.tuple #[.int .i64 x, .int .i64 0]) ∧ RefGave w B b room (l.eraseIdx i) w' := by
  obtain ⟨i0, hi0, hz0, hz1, hz2⟩ := info_parts A3
  have hi : i < l.length := (List.getElem?_eq_some_iff.1 hx).1
  obtain ⟨p, cap, rfl, hp⟩ := h.form
  obtain ⟨g, rfl⟩ := hp (by omega)
  have hlt := h.lt
  have hgl := (h.row.lt g rfl).2
  have c1 := blk_cell h.blk 1
  simp at c1
  have HC := Lib.hid (fun k y (hy : l[k]? = some y) => one_at h.row hy)
  have H := Lib.hid h
  have HX := Lib.hid hx
  have hd1 : decide (l.length ≤ i) = false := by simpa using hi
  have hd2 : decide ((i : Int) < 0) = false := by simp
  clear h hp hx
  go_enter Try.func12, Try.ntmps12
  go_wp2
  go_loopw [6, 7] (fun out t wr => TakeRel w l i out t wr) (fun _ t _ => l.length - (intOf t).toNat)
  case atStart =>
    refine ⟨0, Nat.zero_le _, rfl, ?_, (Below.refl _ _).alloc (Nat.le_refl _) _⟩
    rw [but_zero]
    exact World.ownsRow_made w #[] 0 (Nat.le_refl _) (Nat.zero_le _) rfl
  case round =>
    obtain ⟨k, hk, rfl, hown, hb⟩ := hrel
    have hcc := (hb.cell (p := ⟨b, 1, none⟩) hlt).trans c1
    have hsz := hb.size
    have HO := Lib.hid hown
    have HB := Lib.hid hb
    clear hown hb
    by_cases hlk : k < l.length
    · obtain ⟨y, hy⟩ : ∃ y, l[k]? = some y := ⟨_, List.getElem?_eq_getElem hlk⟩
      have hcy := (HB.out.cell (p := ⟨g, k, none⟩) hgl).trans (HC.out k y hy)
      have HY := Lib.hid hy
      clear hy
      by_cases hki : k = i
      · have hne : ((k : Int) != (i : Int)) = false := by simp [hki]
        have HK := Lib.hid hki
        clear hki
        go_wp2
        go_roundw
        case rel =>
          refine ⟨k + 1, by omega, by go_num, ?_, HB.out⟩
          rw [HK.out, but_eq l i hi, ← HK.out]
          exact HK.out ▸ HO.out
        case measure => simp [intOf]; omega
      · have hne : ((k : Int) != (i : Int)) = true := by simp; omega
        have HK := Lib.hid hki
        have hbl := but_len l i k
        have HOO := Lib.hid (HO.out.alloc (.cells #[.int .i64 y] 3))
        clear hki
        go_wp2_with (at_builtin; refine wpList_append_lies _ rfl (.tmp 33) (.tmp 41) 38 rfl w.heap.size 3 i0 (.int .i64 0) 1 8 Try.underlying38 hi0 hz0 hz1 hz2 rfl (by decide) _ (but l i k).length (cellsOf one (but l i k)) rfl HOO.out ⟨wr.heap.size, 0, none⟩ 1 1 [.int .i64 y] rfl rfl ?c1 ?c2 (by decide) ?c3 ?c4 ?c5 _ rfl ?_)
        case c1 => intro j u hj; cases j <;> simp at hj; subst hj; exact World.cell?_alloc_mark wr #[.int .i64 y] 3 (0, 0) 0
        case c2 => simp [Value.oneCell']
        case c3 => simp only [maxLen]; omega
        case c4 => omega
        case c5 => simp; omega
        intro g' cap' w2 hown hgrow hat hlt2
        have hb2 := (HB.out.alloc (by omega) (.cells #[.int .i64 y] 3)).grown hgrow (by simp; omega) (fun k hk => (HO.out.lt k hk).1)
        have HO2 := Lib.hid hown
        have HB2 := Lib.hid hb2
        clear hown hgrow hat hb2
        go_wp2
        go_roundw
        case rel =>
          refine ⟨k + 1, by omega, by go_num, ?_, HB2.out⟩
          rw [but_ne l i k y HY.out HK.out, cellsOf_append, List.length_append]
          exact HO2.out
        case measure => simp [intOf]; omega
    · have hkl : k = l.length := by omega
      have hcx := (HB.out.cell (p := ⟨g, i, none⟩) hgl).trans (HC.out i x HX.out)
      have hbk := (HB.out.block b hlt).trans H.out.blk
      have hfz := blk_free hbk 1
      obtain ⟨q, cq, hq⟩ : ∃ q cq, u6 = Value.slice q (but l i k).length cq := by
        rcases HO.out.2 with ⟨e, h0⟩ | ⟨g', cap', cur, e, _⟩
        · exact ⟨none, 0, by rw [e, h0]⟩
        · exact ⟨_, cap', e⟩
      subst hq
      have HK := Lib.hid hkl
      have HBK := Lib.hid hbk
      clear hkl hbk
      go_wp2
      go_ret2
      refine ⟨rfl, ref_gave (n := (but l i k).length) H.out HB.out hB ?_ ?_⟩
      · rw [HK.out]; unfold but; rw [List.take_length]
      · have := HO.out
        have e : but l i k = l.eraseIdx i := by rw [HK.out]; unfold but; rw [List.take_length]
        rw [e] at this ⊢
        exact this
end Go.Proofs.Ytnimaogdjfenpaa
