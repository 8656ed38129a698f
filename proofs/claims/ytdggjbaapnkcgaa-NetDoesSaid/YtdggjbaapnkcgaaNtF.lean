/-
  What New of a net does.
-/
import Derived.Test.YtdggjbaapnkcgaaNtC
import Derived.Deep.RegionHeld3
namespace Go.Proofs.Ytdggjbaapnkcgaa
open Go Go.RowKit

/-- Where a bag is, if it has been made. -/
def pc (b : Nat → Nat) (k i : Nat) : Value := .pointer (if i < k then some ⟨b i, 0, none⟩ else none)
abbrev mkcells (c : Cfg) (p q r : Value) : Array Value := #[.int .i64 c.co, .int .i64 c.ho, .int .i64 c.se, .int .i64 c.wa, .int .i64 c.wo, .int .i64 c.li, .int .i64 c.po, .int .i64 c.ms, .int .i64 c.bu, .int .i64 c.wb, .int .i64 c.r0, .int .i64 c.r1, .int .i64 c.r2, p, q, r]
/-- The net that is being made: k bags are there. -/
structure NewSt (w : World) (n : Nat) (c : Cfg) (k : Nat) (b : Nat → Nat) (wr : World) : Prop where
  blk : wr.heap[n]? = some (.cells (mkcells c (pc b k 0) (pc b k 1) (pc b k 2)) 59 (0, 0))
  bag : ∀ i, i < k → BgM wr w.heap.size (b i) (room c i) [] (.slice none 0 0)
  nb : ∀ i, i < k → n < b i
  bb : ∀ i j, j < k → i < j → b i < b j
  big : w.heap.size ≤ n
  below : Below w.heap.size w wr
variable {w wr wr' : World} {n k : Nat} {c : Cfg} {b : Nat → Nat}
theorem NewSt.step (h : NewSt w n c k b wr) (hk : k < 3) (hb : Below wr.heap.size wr wr') (hg : BgM wr' w.heap.size wr.heap.size (room c k) [] (.slice none 0 0)) :
    NewSt w n c (k + 1) (upd b k wr.heap.size) (wr'.setCell ⟨n, 13 + k, none⟩ (.pointer (some ⟨wr.heap.size, 0, none⟩))) := by
  have hn := lt_of_block h.blk
  have hu : ∀ i, i < k → upd b k wr.heap.size i = b i := fun i hi => upd_other _ _ _ _ (by omega)
  have hs : ∀ q, q ≠ n → (wr'.setCell ⟨n, 13 + k, none⟩ (.pointer (some ⟨wr.heap.size, 0, none⟩))).heap[q]? = wr'.heap[q]? := fun q hq => heap_setCell_other _ _ _ _ hq
  refine ⟨?_, ?_, ?_, ?_, h.big, ?_⟩
  · rw [heap_setCell_same wr' n (13 + k) _ _ _ ((hb.block n hn).trans h.blk)]
    rcases (show k = 0 ∨ k = 1 ∨ k = 2 by omega) with rfl | rfl | rfl
    · simp [pc, upd]
    · simp [pc, upd]
    · simp [pc, upd]
  · intro i hi
    by_cases e : i = k
    · subst e
      rw [upd_same]
      exact hg.keep (hs _ (by omega)) (fun q hq => by simp [Value.ownBlock] at hq)
    · have hi' : i < k := by omega
      rw [hu i hi']
      exact ((h.bag i hi').below hb).keep (hs _ (by have := h.nb i hi'; omega)) (fun q hq => by simp [Value.ownBlock] at hq)
  · intro i hi
    by_cases e : i = k
    · subst e
      rw [upd_same]
      exact hn
    · rw [hu i (by omega)]
      exact h.nb i (by omega)
  · intro i j hj hij
    rw [hu i (by omega)]
    by_cases e : j = k
    · subst e
      rw [upd_same]
      exact (h.bag i (by omega)).lt
    · rw [hu j (by omega)]
      exact h.bb i j (by omega) hij
  · exact (bstep h.below hb).setCell h.big _
theorem NewSt.done (h : NewSt w n c 3 b wr) (ok : okC c = true) : NetP wr w.heap.size n c b (fun _ => []) (fun _ => .slice none 0 0) where
  blk := by have := h.blk; simpa [pc] using this
  bag := fun k hk => h.bag k hk
  len := fun k hk => by have := (room_le ok k hk).1; simp; omega
  nb := fun k hk e => by have := h.nb k hk; omega
  nv := fun k hk e => by simp [Value.ownBlock] at e
  bb := fun i j hi hj hij e => by
    rcases Nat.lt_or_gt_of_ne hij with h1 | h1
    · have := h.bb i j hj h1; omega
    · have := h.bb j i hi h1; omega
  vb := fun i j _ _ e => by simp [Value.ownBlock] at e
  vv := fun i j _ _ _ k e => by simp [Value.ownBlock] at e
  big := h.big
  ok := ok

theorem nnew_no (c : Cfg) (w : World) (hc : c.fits) (hok : okC c = false) :
    Calls Try.prog 6 #[cv c] w fun e w' => e = .returned (.tuple #[.pointer none, .int .i64 1]) ∧ Below w.heap.size w w' := by
  have HC := Lib.hid hc
  have h0 := chk_no c hok
  clear hc hok
  go_enter Try.func6, Try.ntmps6
  go_wp2_with (fail)
  refine (check_any c _ HC.out).mono ?_
  rintro e w1 ⟨rfl, hb1⟩
  go_wp2
  go_ret2
  exact ⟨rfl, bbox hb1⟩

/-- What New gives: a net without messages. -/
def NewGave (w : World) (c : Cfg) (e : Ending) (w' : World) : Prop := ∃ n b v, e = .returned (.tuple #[.pointer (some ⟨n, 0, none⟩), .int .i64 0]) ∧ NetP w' w.heap.size n c b (fun _ => []) v ∧ Below w.heap.size w w'
set_option maxRecDepth 100000 in
set_option maxHeartbeats 2000000 in
theorem nnew_yes (c : Cfg) (w : World) (hc : c.fits) (hok : okC c = true) :
    Calls Try.prog 6 #[cv c] w (NewGave w c) := by
  have HC := Lib.hid hc
  have h0 := chk_ok c hok
  have HO := Lib.hid hok
  have KK := Kp.box w (ccells c) 24
  clear hc hok
  go_enter Try.func6, Try.ntmps6
  go_wp2_with (fail)
  refine (check_any c _ HC.out).mono ?_
  rintro e w1 ⟨rfl, hb1⟩
  have K1 := KK.step hb1
  have ha := K1.1
  have ha2 := fun o i => (((Below.refl _ w1).alloc (Nat.le_refl _) o).cell (p := ⟨w.heap.size, i, none⟩) K1.2.1).trans (ha i)
  clear KK hb1
  go_wp2_with (fail)
  have K2' := K1.step ((Below.refl _ w1).alloc (Nat.le_refl _) (.cells (mkcells c (.pointer none) (.pointer none) (.pointer none)) 59))
  have hN : NewSt w w1.heap.size c 0 (fun _ => 0) (w1.alloc (.cells (mkcells c (.pointer none) (.pointer none) (.pointer none)) 59)) :=
    ⟨by simpa [pc] using heap_alloc_new w1 _, fun i hi => by omega, fun i hi => by omega, fun i j hj => by omega, Nat.le_of_lt K1.2.1, K2'.2.2⟩
  have HN := Lib.hid hN
  clear hN K2' ha
  clear K1 ha2 h0
  obtain ⟨n, hn⟩ : ∃ n, n = w1.heap.size := ⟨_, rfl⟩
  rw [← hn] at HN ⊢
  clear hn
  obtain ⟨w2, hw2⟩ : ∃ w2, w2 = w1.alloc (.cells (mkcells c (.pointer none) (.pointer none) (.pointer none)) 59) := ⟨_, rfl⟩
  rw [← hw2] at HN ⊢
  clear hw2
  go_loopw [15] (fun t wr => ∃ (k : Nat) (b : Nat → Nat), k ≤ 3 ∧ t = .int .i64 k ∧ NewSt w n c k b wr) (fun t _ => 3 - (intOf t).toNat)
  case atStart => exact ⟨0, _, by omega, rfl, HN.out⟩
  case round =>
    obtain ⟨k, b, hk, rfl, hs⟩ := hrel
    have HS := Lib.hid hs
    clear hs
    by_cases hlt : k < 3
    · obtain ⟨x, hx⟩ : ∃ x, x = room c k := ⟨_, rfl⟩
      have hx1 := (room_le HO.out k hlt).1
      have hx2 := (room_le HO.out k hlt).2
      rw [← hx] at hx1 hx2
      have hidx : ∀ w, (Instr.index 22 (.agg #[.int .i64 c.r0, .int .i64 c.r1, .int .i64 c.r2]) (.int .i64 k)).run Try.prog w = .ok (.int .i64 x) w := fun w => by
        rw [hx]
        rcases (show k = 0 ∨ k = 1 ∨ k = 2 by omega) with rfl | rfl | rfl <;> rfl
      have HX := Lib.hid hx
      clear hx
      go_wp2_with fail
      have hbig := HS.out.below.size
      have hnl := lt_of_block HS.out.blk
      have hkk : (13 + k : Nat) < 16 := by omega
      go_region_held3 (fun _ => True) (trivial)
        (first
          | (go_at_call 25; refine (newM_yes x _ hx1 (by omega)).mono ?_; rintro e wb ⟨rfl, hwb⟩; have HB := Lib.hid (show Below wr.heap.size wr wb by rw [← hwb]; first | exact (Below.refl _ wr).alloc (Nat.le_refl _) _ | exact ((Below.refl _ wr).drew.alloc (Nat.le_refl _) _)); have HG := Lib.hid (show BgM wb w.heap.size wr.heap.size (room c k) [] (.slice none 0 0) by rw [← hwb, ← HX.out]; exact Bg.new hbig); clear hwb; have hbn := (HB.out.block n hnl).trans HS.out.blk; have cb := fun i => blk_cell hbn i; have fb := fun i => blk_free hbn i; clear hbn))
      go_wp2
      go_roundw
      case rel => exact ⟨k + 1, _, by omega, by go_num, HS.out.step hlt HB.out HG.out⟩
      case measure => simp [intOf]; omega
    · obtain rfl : k = 3 := by omega
      clear hlt
      go_wp2
      go_ret2
      exact ⟨n, b, _, rfl, HS.out.done HO.out, HS.out.below⟩

end Go.Proofs.Ytdggjbaapnkcgaa
