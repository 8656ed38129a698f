/-
  One bag of numbers, call by call; awake.
-/
import Derived.Test.YtnimaogdjfenpaaBgH
namespace Go.Proofs.Ytnimaogdjfenpaa
open Go Go.RowKit

/-- One bag of numbers, the call's own: of what was there nothing has changed. -/
def BI (w : World) (b : Nat) (room : Int) (l : List Int) (wr : World) : Prop := ∃ v, BgI wr w.heap.size b room l v ∧ Below w.heap.size w wr
theorem BI.size {w wr : World} {b : Nat} {room : Int} {l : List Int} (h : BI w b room l wr) : w.heap.size ≤ wr.heap.size := by obtain ⟨v, _, hb⟩ := h; exact hb.size
theorem BI.below {w wr : World} {b : Nat} {room : Int} {l : List Int} (h : BI w b room l wr) : Below w.heap.size w wr := by obtain ⟨v, _, hb⟩ := h; exact hb
theorem BI.step {w wr w' : World} {b : Nat} {room : Int} {l : List Int} (h : BI w b room l wr) (hb : Below wr.heap.size wr w') : BI w b room l w' := by
  obtain ⟨v, h1, h2⟩ := h
  exact ⟨v, h1.below hb, bstep h2 hb⟩
theorem BI.new (w wr : World) (room : Int) (hb : Below w.heap.size w wr) (h : 1 ≤ room) (h2 : room ≤ 4096) :
    Calls Try.prog 7 #[.int .i64 room] wr fun e w' => e = .returned (.tuple #[.pointer (some ⟨wr.heap.size, 0, none⟩), .int .i64 0]) ∧ BI w wr.heap.size room [] w' :=
  (newI_yes room wr h h2).mono fun _ _ ⟨he, hw⟩ => ⟨he, _, hw ▸ Bg.new hb.size, hw ▸ hb.alloc hb.size _⟩
theorem BI.gave {w wr w' : World} {b : Nat} {room : Int} {l m : List Int} {v : Value} (h : BgI wr w.heap.size b room l v) (hb : Below w.heap.size w wr) (hg : PutGave 64 3 1 one wr w.heap.size b room m v w') : BI w b room m w' := by
  obtain ⟨v', h1, h2, _⟩ := hg
  exact ⟨v', h1, hb.trans (h2.below h hb.size)⟩
theorem BI.put {w wr : World} {b : Nat} {room : Int} {l : List Int} (h : BI w b room l wr) (x : Int) (h2 : room ≤ 4096) (hl : (l.length : Int) < room) :
    Calls Try.prog 9 #[.pointer (some ⟨b, 0, none⟩), .int .i64 x] wr fun e w' => e = .returned (.int .i64 0) ∧ BI w b room (l ++ [x]) w' := by
  obtain ⟨v, h, hb⟩ := h
  exact (putI_ok h x hb.size (by omega) h2 hl).mono fun _ _ ⟨he, hg⟩ => ⟨he, BI.gave h hb hg⟩
theorem BI.full {w wr : World} {b : Nat} {room : Int} {l : List Int} (h : BI w b room l wr) (x : Int) (h2 : room ≤ 4096) (hl : room = l.length) :
    Calls Try.prog 9 #[.pointer (some ⟨b, 0, none⟩), .int .i64 x] wr fun e w' => e = .returned (.int .i64 4) ∧ BI w b room l w' := by
  obtain ⟨v, h, hb⟩ := h
  exact (putI_full h x (by omega) h2 hl).mono fun _ _ ⟨he, n, hw⟩ => ⟨he, v, hw ▸ h.below (below_drewN (Below.refl _ _) n), hw ▸ below_drewN hb n⟩
theorem BI.take {w wr : World} {b : Nat} {room : Int} {l : List Int} (h : BI w b room l wr) (i : Nat) (x : Int) (hl : l.length ≤ 5000) (hx : l[i]? = some x) :
    Calls Try.prog 11 #[.pointer (some ⟨b, 0, none⟩), .int .i64 i] wr fun e w' => e = .returned (.tuple #[.int .i64 x, .int .i64 0]) ∧ BI w b room (l.eraseIdx i) w' := by
  obtain ⟨v, h, hb⟩ := h
  exact (takeI_yes h i x hl hx).mono fun _ _ ⟨he, hg⟩ => ⟨he, BI.gave h hb hg⟩
theorem BI.takeNo {w wr : World} {b : Nat} {room : Int} {l : List Int} (h : BI w b room l wr) (i : Int) (hl : l.length ≤ 5000) (hn : i < 0 ∨ (l.length : Int) ≤ i) :
    Calls Try.prog 11 #[.pointer (some ⟨b, 0, none⟩), .int .i64 i] wr fun e w' => e = .returned (.tuple #[.int .i64 0, .int .i64 5]) ∧ BI w b room l w' := by
  obtain ⟨v, h, hb⟩ := h
  exact (takeI_no h i hl hn).mono fun _ _ ⟨he, hw⟩ => ⟨he, v, hw ▸ h, hw ▸ hb⟩
theorem BI.at_ {w wr : World} {b : Nat} {room : Int} {l : List Int} (h : BI w b room l wr) (i : Nat) (x : Int) (hl : l.length ≤ 5000) (hx : l[i]? = some x) :
    Calls Try.prog 13 #[.pointer (some ⟨b, 0, none⟩), .int .i64 i] wr fun e w' => e = .returned (.tuple #[.int .i64 x, .bool true]) ∧ BI w b room l w' := by
  obtain ⟨v, h, hb⟩ := h
  exact (atI_yes h i x hl hx).mono fun _ _ ⟨he, hw⟩ => ⟨he, v, hw ▸ h, hw ▸ hb⟩
theorem BI.find {w wr : World} {b : Nat} {room : Int} {l : List Int} (h : BI w b room l wr) (x : Int) (hl : l.length ≤ 5000) :
    Calls Try.prog 14 #[.pointer (some ⟨b, 0, none⟩), .int .i64 x] wr fun e w' => e = .returned (.int .i64 (place l x)) ∧ BI w b room l w' := by
  obtain ⟨v, h, hb⟩ := h
  exact (findI_any h x hl).mono fun _ _ ⟨he, hw⟩ => ⟨he, v, h.below hw, bstep hb hw⟩
theorem BI.left {w wr : World} {b : Nat} {room : Int} {l : List Int} (h : BI w b room l wr) (h1 : 0 ≤ room) (h2 : room ≤ 4096) (hl : l.length ≤ 5000) :
    Calls Try.prog 18 #[.pointer (some ⟨b, 0, none⟩)] wr fun e w' => e = .returned (.int .i64 (room - l.length)) ∧ BI w b room l w' := by
  obtain ⟨v, h, hb⟩ := h
  exact (leftI_any h h1 h2 hl).mono fun _ _ ⟨he, n, hw⟩ => ⟨he, v, hw ▸ h.below (below_drewN (Below.refl _ _) n), hw ▸ below_drewN hb n⟩
theorem BI.list {w wr : World} {b : Nat} {room : Int} {l : List Int} (h : BI w b room l wr) (hl : l.length ≤ 5000) :
    Calls Try.prog 17 #[.pointer (some ⟨b, 0, none⟩)] wr fun e w' => (∃ p cap, e = .returned (.slice p l.length cap) ∧ NumsIn w' p l) ∧ BI w b room l w' := by
  obtain ⟨v, h, hb⟩ := h
  refine (listI_any h hl).mono fun _ _ ⟨u, he, hown, hw⟩ => ⟨?_, v, h.below hw, bstep hb hw⟩
  obtain ⟨p, cap, rfl, hin⟩ := own_in hown
  exact ⟨p, cap, he, hin⟩

set_option maxHeartbeats 2000000 in
set_option maxRecDepth 100000 in
theorem awake_any (w : World) : Calls Try.prog 6 #[] w fun e w' => e = .returned (.bool true) ∧ Below w.heap.size w w' := by
  go_enter Try.func6, Try.ntmps6
  go_wp2_with fail
  refine (BI.new w w 3 (Below.refl _ _) (by omega) (by omega)).mono ?_
  rintro e w1 ⟨rfl, h1⟩
  have H1 := Lib.hid h1
  clear h1
  go_wp2_with fail
  refine (newS_no _).mono ?_
  rintro e w' ⟨rfl, rfl⟩
  go_wp2_with fail
  refine (H1.out.put 5 (by omega) (by simp)).mono ?_
  rintro e w2 ⟨rfl, h2⟩
  have H2 := Lib.hid h2
  clear h2
  go_wp2_with fail
  refine (H2.out.put 7 (by omega) (by simp)).mono ?_
  rintro e w3 ⟨rfl, h3⟩
  have H3 := Lib.hid h3
  clear h3
  go_wp2_with fail
  refine (H3.out.put 5 (by omega) (by simp)).mono ?_
  rintro e w4 ⟨rfl, h4⟩
  have H4 := Lib.hid h4
  clear h4
  go_wp2_with fail
  refine (H4.out.full 1 (by omega) (by simp)).mono ?_
  rintro e w5 ⟨rfl, h5⟩
  have H5 := Lib.hid h5
  clear h5
  go_wp2_with fail
  refine (H5.out.take 1 7 (by simp) (by simp)).mono ?_
  rintro e w6 ⟨rfl, h6⟩
  have H6 : Hid (BI w w.heap.size 3 [5, 5] w6) := Lib.hid h6
  clear h6
  go_wp2_with fail
  refine (H6.out.takeNo 2 (by simp) (by simp)).mono ?_
  rintro e w7 ⟨rfl, h7⟩
  have H7 := Lib.hid h7
  clear h7
  go_wp2_with fail
  refine (H7.out.at_ 1 5 (by simp) (by simp)).mono ?_
  rintro e w8 ⟨rfl, h8⟩
  have H8 := Lib.hid h8
  clear h8
  go_wp2_with fail
  refine (H8.out.list (by simp)).mono ?_
  rintro e w9 ⟨⟨p, cap, rfl, hin⟩, h9⟩
  have H9 := Lib.hid h9
  have HI := Lib.hid hin
  clear h9 hin
  go_wp2_with fail
  refine (same_any p (some ⟨w9.heap.size, 0, none⟩) cap 2 [5, 5] [5, 5] _ (by simp) (HI.out.step ((Below.refl _ _).alloc (Nat.le_refl _) _)) ?_).mono ?_
  · intro j hj
    refine ⟨w9.heap.size, 0, rfl, by simp, ?_⟩
    have hc := World.cell?_alloc_mark w9 #[.int .i64 5, .int .i64 5] 3 (0, 0) j
    rw [Nat.zero_add]
    rcases (show j = 0 ∨ j = 1 by simp at hj; omega) with rfl | rfl <;> exact hc
  rintro e w10 ⟨rfl, n, rfl⟩
  have H10 := Lib.hid (H9.out.step (below_drewN ((Below.refl _ _).alloc (Nat.le_refl _) (.cells #[.int .i64 5, .int .i64 5] 3)) n))
  go_wp2_with fail
  refine (H10.out.left (by omega) (by omega) (by simp)).mono ?_
  rintro e w11 ⟨rfl, h11⟩
  have H11 := Lib.hid h11
  clear h11
  go_wp2_with fail
  refine (H11.out.find 5 (by simp)).mono ?_
  rintro e w12 ⟨rfl, h12⟩
  have H12 := Lib.hid h12
  clear h12
  go_wp2_with fail
  refine (H12.out.find 7 (by simp)).mono ?_
  rintro e w13 ⟨rfl, h13⟩
  have H13 := Lib.hid h13
  clear h13
  go_wp2
  go_ret
  exact ⟨rfl, H13.out.below⟩
end Go.Proofs.Ytnimaogdjfenpaa
