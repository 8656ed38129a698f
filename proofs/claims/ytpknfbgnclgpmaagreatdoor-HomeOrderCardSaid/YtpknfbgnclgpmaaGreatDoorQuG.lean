/-
  Add and Start, whole.
-/
import Derived.Test.YtpknfbgnclgpmaaGreatDoorQuF
namespace Go.Proofs.YtpknfbgnclgpmaaGreatDoor.Qu
open Go Go.RowKit

/-- Add. -/
theorem add_any {w : World} {B b : Nat} {room : Int} {l : List Ep} {v : Value} (h : QuP w B b room l v) (m : Msg) (hB : B ≤ w.heap.size) (h1 : 0 ≤ room) (h2 : room ≤ 16) (hl : (l.length : Int) ≤ room) :
    Calls Tryz.prog 59 #[.pointer (some ⟨b, 0, none⟩), mv m] w (GaveN w B b room l v (addP room (l.map Ep.pl) m)) := by
  rcases Bool.eq_false_or_eq_true (rq m.kd) with hk | hk
  · by_cases hf : (l.length : Int) = room
    · rw [addP_full hk (by rw [pl_len]; exact hf)]
      exact (add_no h.bg m h1 h2 (.inr ⟨rfl, hk, hf⟩)).mono fun e w' ⟨he, hb⟩ => ⟨he, h.gave_same hb⟩
    · rw [addP_yes hk (by rw [pl_len]; exact hf)]
      refine (add_yes h.bg m hB h1 h2 (by omega) hk).mono fun e w' ⟨he, hp⟩ => ⟨he, ?_⟩
      have := h.gaveOld hp (fun x hx => by
        rcases List.mem_append.1 hx with hx | hx
        · exact h.cp x hx
        · obtain rfl : x = ⟨m, false, [], none, 0⟩ := by simpa using hx
          simp) fun x hx hne => by
        rcases List.mem_append.1 hx with hx | hx
        · exact h.of_mem hx hne
        · obtain rfl : x = ⟨m, false, [], none, 0⟩ := by simpa using hx
          exact absurd rfl hne
      simpa [Ep.pl] using this
  · rw [addP_kind hk]
    exact (add_no h.bg m h1 h2 (.inl ⟨rfl, hk⟩)).mono fun e w' ⟨he, hb⟩ => ⟨he, h.gave_same hb⟩

/-! Start. -/
set_option maxHeartbeats 1000000 in
theorem start_out {w : World} {B b : Nat} {room : Int} {l : List Ep} {v : Value} (h : BgP w B b room l v) (at_ : Int) (p : Option Addr) (n c : Nat) (hn : at_ < 0 ∨ (l.length : Int) ≤ at_) :
    Calls Tryz.prog 100 #[.pointer (some ⟨b, 0, none⟩), .int .i64 at_, .slice p n c] w fun e w' => e = .returned (.int .i64 5) ∧ Below w.heap.size w w' := by
  have HP := Lib.hid (entry_out h at_ hn)
  clear h hn
  go_enter Tryz.func100, Tryz.ntmps100
  go_wp2_with fail
  refine HP.out.mono ?_
  rintro e w1 ⟨rfl, rfl⟩
  go_wp2
  go_ret
  exact ⟨rfl, Below.refl _ _⟩
set_option maxHeartbeats 1000000 in
theorem start_no {w : World} {B b : Nat} {room : Int} {l : List Ep} {v : Value} (h : BgP w B b room l v) (i : Nat) (hi : i < l.length) (hl : l.length ≤ 5000) (p : Option Addr) (n c : Nat) (hr : rdy (l.map Ep.pl) i = false ∨ rdy (l.map Ep.pl) i = true ∧ n = 0) :
    Calls Tryz.prog 100 #[.pointer (some ⟨b, 0, none⟩), .int .i64 i, .slice p n c] w fun e w' => e = .returned (.int .i64 7) ∧ Below w.heap.size w w' := by
  obtain ⟨x, hx⟩ : ∃ x, l[i]? = some x := ⟨_, List.getElem?_eq_getElem hi⟩
  obtain ⟨g, cap, rfl, hbg, hgl, hBg, -, -, -, -⟩ := h.one hx
  have HP := Lib.hid (entry_at h i hi)
  have HR := ready_any h i hl
  rcases hr with hr | ⟨hr, rfl⟩
  all_goals
    rw [hr] at HR
    have HR := Lib.hid HR
    clear h hx hr hl
    go_enter Tryz.func100, Tryz.ntmps100
    go_wp2_with fail
    refine HP.out.mono ?_
    rintro e w1 ⟨rfl, rfl⟩
    go_wp2_with fail
    refine HR.out.mono ?_
    rintro e w2 ⟨rfl, hb2⟩
    go_wp2
    go_ret
    exact ⟨rfl, hb2⟩
set_option maxHeartbeats 2000000 in
theorem start_yes {w : World} {B b : Nat} {room : Int} {l : List Ep} {g cap : Nat} (h : QuP w B b room l (.slice (some ⟨g, 0, none⟩) l.length cap)) (hB : B ≤ w.heap.size) (i : Nat) (x : Ep) (hx : l[i]? = some x) (hl : l.length ≤ 5000) (p : Option Addr) (c : Nat) (s : List Msg) (hs : MIn w p s) (hsl : s.length ≤ 5000) (h0 : 0 < s.length) (hr : rdy (l.map Ep.pl) i = true) :
    Calls Tryz.prog 100 #[.pointer (some ⟨b, 0, none⟩), .int .i64 i, .slice p s.length c] w fun e w' => e = .returned (.int .i64 0) ∧ QGave 140 80 w B b room l (.slice (some ⟨g, 0, none⟩) l.length cap) ((l.map Ep.pl).set i ⟨x.m, true, s⟩) w' := by
  have hi := (List.getElem?_eq_some_iff.1 hx).1
  have hgl := (h.bg.row.lt g rfl).2
  have HP := Lib.hid (entry_at h.bg i hi)
  have HR := ready_any h.bg i hl
  rw [hr] at HR
  have HR := Lib.hid HR
  have HA : Hid (∀ w1, Below w.heap.size w w1 → w1.cell? ⟨g, i * 17 + 15, none⟩ = some (.bool x.st) ∧ w1.cell? ⟨g, i * 17 + 16, none⟩ = some (.slice x.p x.l.length x.c) ∧ (∀ o, w1.frozen? ⟨g, o, none⟩ = false)) := Lib.hid (fun w1 hb => by
    obtain ⟨g', cap', e0, -, -, -, hr, hfz, -, -⟩ := (h.bg.below hb).one hx
    obtain ⟨rfl, -⟩ : g = g' ∧ cap = cap' := by simpa using e0
    exact ⟨hr 15 _ rfl, hr 16 _ rfl, hfz⟩)
  have HE : Hid (∀ w1 q c', Below w.heap.size w w1 → s.length ≤ c' → MIn w1 q s → (∀ a, q = some a → w.heap.size ≤ a.block) → QGave 140 80 w B b room l (.slice (some ⟨g, 0, none⟩) l.length cap) ((l.map Ep.pl).set i ⟨x.m, true, s⟩) ((w1.setCell ⟨g, i * 17 + 15, none⟩ (.bool true)).setCell ⟨g, i * 17 + 16, none⟩ (.slice q s.length c'))) := Lib.hid (fun w1 q c' hb hsc hq hf => by
    obtain ⟨y, hy⟩ : ∃ y : Ep, y = ⟨x.m, true, s, q, c'⟩ := ⟨_, rfl⟩
    have hst := (h.bg.below hb).store hx y 15 [.bool true, .slice q s.length c'] (by simp) (fun m hm => by
      simp at hm
      rcases (show m = 0 ∨ m = 1 by omega) with rfl | rfl <;> (rw [hy]; rfl)) (fun m hm hm2 => by
      simp at hm2
      rcases (show m = 0 ∨ m = 1 ∨ m = 2 ∨ m = 3 ∨ m = 4 ∨ m = 5 ∨ m = 6 ∨ m = 7 ∨ m = 8 ∨ m = 9 ∨ m = 10 ∨ m = 11 ∨ m = 12 ∨ m = 13 ∨ m = 14 by omega) with rfl | rfl | rfl | rfl | rfl | rfl | rfl | rfl | rfl | rfl | rfl | rfl | rfl | rfl | rfl
      all_goals (rw [hy]; rfl))
    have ht := (Turn.of_below hb).trans (turn_setCells (b := b) (g := g) (n := l.length) (cap := cap) (i * 17 + 15) [.bool true, .slice q s.length c'] w1) (Fresh.refl _ _)
    have := h.gaveNew hB hst ht (fun z hz => by
      rcases List.mem_or_eq_of_mem_set hz with hz | rfl
      · exact h.cp z hz
      · rw [hy]; exact hsc) fun z hz hne => by
      rcases List.mem_or_eq_of_mem_set hz with hz | rfl
      · exact .inl (h.of_mem hz hne)
      · rw [hy]
        refine .inr ⟨hq.keep (by have := (setCells_rest g [.bool true, .slice q s.length c'] (i * 17 + 15) w1).2.2.2; omega) fun _ a ha _ => heap_setCells_other g _ _ w1 _ (by have := hf a ha; omega), hf⟩
    rw [List.map_set, hy] at this
    exact this)
  have HM := Lib.hid (fun w1 (hb : Below w.heap.size w w1) => cloneM_any (c := c) (hs.step hb) hsl)
  clear h hx hl hr hs
  go_enter Tryz.func100, Tryz.ntmps100
  go_wp2_with fail
  refine HP.out.mono ?_
  rintro e w1 ⟨rfl, rfl⟩
  go_wp2_with fail
  refine HR.out.mono ?_
  rintro e w2 ⟨rfl, hb2⟩
  go_wp2_with fail
  refine (HM.out _ hb2).mono ?_
  rintro e w3 ⟨q, c', rfl, hin, hfr, hlc, hb3⟩
  have hb4 := bstep hb2 hb3
  obtain ⟨c15, c16, fz⟩ := HA.out _ hb4
  have f15 := fz (i * 17 + 15)
  have f16 := fz (i * 17 + 16)
  have HF := Lib.hid (HE.out w3 q c' hb4 hlc hin (fun a ha => by have := hfr a ha; have := hb2.size; omega))
  clear hin hfr hlc hb3 fz hb2 hb4
  go_wp2
  go_ret
  exact ⟨rfl, HF.out⟩
/-- Start. -/
theorem start_any {w : World} {B b : Nat} {room : Int} {l : List Ep} {v : Value} (h : QuP w B b room l v) (hB : B ≤ w.heap.size) (at_ : Int) (hl : l.length ≤ 5000) (p : Option Addr) (c : Nat) (s : List Msg) (hs : MIn w p s) (hsl : s.length ≤ 5000) :
    Calls Tryz.prog 100 #[.pointer (some ⟨b, 0, none⟩), .int .i64 at_, .slice p s.length c] w (GaveN w B b room l v (startP (l.map Ep.pl) at_ s)) := by
  rcases at_cases l at_ with ho | ⟨i, x, rfl, hx⟩
  · rw [startP_out (by rwa [pl_len])]
    exact (start_out h.bg at_ p _ c ho).mono fun e w' ⟨he, hb⟩ => ⟨he, h.gave_same hb⟩
  · have hi := (List.getElem?_eq_some_iff.1 hx).1
    by_cases hr : rdy (l.map Ep.pl) i = false ∨ s = []
    · rw [startP_no (pl_at hx) hr]
      refine (start_no h.bg i hi hl p _ c ?_).mono fun e w' ⟨he, hb⟩ => ⟨he, h.gave_same hb⟩
      rcases Bool.eq_false_or_eq_true (rdy (l.map Ep.pl) i) with h1 | h1
      · rcases hr with hr | hr
        · rw [h1] at hr; cases hr
        · exact .inr ⟨h1, by rw [hr]; rfl⟩
      · exact .inl h1
    · simp only [not_or, Bool.not_eq_false] at hr
      rw [startP_yes (pl_at hx) hr.1 hr.2]
      obtain ⟨g, cap, rfl, -⟩ := h.bg.one hx
      exact (start_yes h hB i x hx hl p c s hs hsl (List.length_pos_iff.2 hr.2) hr.1).mono fun e w' ⟨he, hq⟩ => ⟨he, hq⟩

end Go.Proofs.YtpknfbgnclgpmaaGreatDoor.Qu
