/-
  What hands out the next bytes, in plain words; readCount.
-/
import Derived.Test.YtjnbpohjdgnknaaDoorScA
namespace Go.Proofs.YtjnbpohjdgnknaaDoor
open Go Go.RowKit

/-- These bytes are still to be handed out. -/
def Nx (w : World) (b1 b2 : Nat) (r : List UInt8) : Prop := ∃ s pos, Next w b1 b2 s pos ∧ s.data.toList.drop pos = r
theorem Nx.kept {w w1 : World} {b1 b2 : Nat} {r : List UInt8} (h : Nx w b1 b2 r) (hb : Below w.heap.size w w1) : Nx w1 b1 b2 r := by
  obtain ⟨s, pos, h, e⟩ := h
  exact ⟨s, pos, h.kept hb, e⟩
theorem Nx.lt {w : World} {b1 b2 : Nat} {r : List UInt8} (h : Nx w b1 b2 r) : b2 < w.heap.size := by
  obtain ⟨s, pos, h, e⟩ := h
  exact h.lt
theorem Nx.small {w : World} {b1 b2 : Nat} {r : List UInt8} (h : Nx w b1 b2 r) : r.length ≤ 100000000 := by
  obtain ⟨s, pos, h, rfl⟩ := h
  have := h.small
  rw [List.length_drop]
  have e : s.data.toList.length = s.size := rfl
  omega

theorem next_take {b1 b2 : Nat} (l r : List UInt8) (w : World) (h : Nx w b1 b2 (l ++ r)) :
    Calls Tryd.prog 38 #[.int .i64 l.length, .pointer (some ⟨b1, 0, none⟩), .pointer (some ⟨b2, 0, none⟩)] w fun e w' => e = .returned (.tuple #[.string ⟨l.toArray⟩, .bool true]) ∧ Nx w' b1 b2 r ∧ Only b2 w w' := by
  obtain ⟨s, pos, h, e⟩ := h
  have hl : s.data.toList.length = s.size := rfl
  have hlen : (s.data.toList.drop pos).length = l.length + r.length := by rw [e, List.length_append]
  rw [List.length_drop, hl] at hlen
  have hle := h.le
  refine (next_yes b1 b2 s pos l.length w h (by omega)).mono fun e' w' ⟨he, hn, ho⟩ => ⟨?_, ⟨s, pos + l.length, hn, ?_⟩, ho⟩
  · rw [he]
    have ht : s.extract pos (pos + l.length) = ⟨l.toArray⟩ := by
      apply ByteArray.ext
      apply Array.toList_inj.1
      rw [ByteArray.data_extract, Array.toList_extract, List.extract_eq_take_drop, e]
      simp
    rw [ht]
  · rw [← List.drop_drop, e, List.drop_left]
theorem next_short {b1 b2 : Nat} (r : List UInt8) (n : Nat) (w : World) (h : Nx w b1 b2 r) (hn : r.length < n) :
    Calls Tryd.prog 38 #[.int .i64 n, .pointer (some ⟨b1, 0, none⟩), .pointer (some ⟨b2, 0, none⟩)] w fun e w' => e = .returned (.tuple #[.string ⟨#[]⟩, .bool false]) ∧ w = w' := by
  obtain ⟨s, pos, h, e⟩ := h
  have hl : s.data.toList.length = s.size := rfl
  have hle := h.le
  refine next_no b1 b2 s pos n w h ?_
  rw [← e, List.length_drop] at hn
  omega
theorem next_1 {b1 b2 : Nat} (a : UInt8) (r : List UInt8) (w : World) (h : Nx w b1 b2 (a :: r)) :
    Calls Tryd.prog 38 #[.int .i64 1, .pointer (some ⟨b1, 0, none⟩), .pointer (some ⟨b2, 0, none⟩)] w fun e w' => e = .returned (.tuple #[.string ⟨#[a]⟩, .bool true]) ∧ Nx w' b1 b2 r ∧ Only b2 w w' := next_take [a] r w h
theorem next_0 {b1 b2 : Nat} (w : World) (h : Nx w b1 b2 []) :
    Calls Tryd.prog 38 #[.int .i64 1, .pointer (some ⟨b1, 0, none⟩), .pointer (some ⟨b2, 0, none⟩)] w fun e w' => e = .returned (.tuple #[.string ⟨#[]⟩, .bool false]) ∧ w = w' := next_short [] 1 w h (by simp)

/-- What a call gives that reads how many. -/
def GaveC (b1 b2 : Nat) (o : Except Int (Nat × List UInt8)) (w : World) (e : Ending) (w' : World) : Prop :=
  Only b2 w w' ∧ match o with
    | .error x => e = .returned (.tuple #[.int .i64 0, .int .i64 x])
    | .ok (n, r) => e = .returned (.tuple #[.int .i64 n, .int .i64 0]) ∧ Nx w' b1 b2 r

theorem ret_ie {a b x : Int} (h : a = b) : Ending.returned (.tuple #[.int .i64 a, .int .i64 x]) = .returned (.tuple #[.int .i64 b, .int .i64 x]) := by rw [h]
theorem idx1 (a : UInt8) (w : World) : (Instr.index 9 (.string ⟨#[a]⟩) (.int .i64 0)).run Tryd.prog w = .ok (.int .u8 a.toNat) w := by kernel_rfl

set_option maxRecDepth 100000 in
set_option maxHeartbeats 1000000 in
theorem count_any (b1 b2 : Nat) (r : List UInt8) (w : World) (h : Nx w b1 b2 r) :
    Calls Tryd.prog 49 #[nextV b1 b2] w (GaveC b1 b2 (cntM r) w) := by
  have H := Lib.hid h
  clear h
  cases r with
  | nil =>
    go_enter Tryd.func49, Tryd.ntmps49
    go_wp2_with (go_at_call 38; refine (next_0 _ H.out).mono ?_; rintro e w' ⟨rfl, rfl⟩)
    go_ret2
    exact ⟨Only.refl _ _, rfl⟩
  | cons a r =>
    have ha := a.toNat_lt
    have hia := idx1 a
    by_cases hs : a.toNat < 128
    · have HE : Hid (cntM (a :: r) = .ok (a.toNat, r)) := Lib.hid (by simp only [cntM]; rw [if_pos hs])
      go_enter Tryd.func49, Tryd.ntmps49
      go_wp2_with (go_at_call 38; refine (next_1 a r _ H.out).mono ?_; rintro e w1 ⟨rfl, hn1, ho1⟩)
      go_ret2
      rw [HE.out]
      exact ⟨ho1, rfl, hn1⟩
    · cases r with
      | nil =>
        have HE : Hid (cntM [a] = .error 3) := Lib.hid (by simp only [cntM]; rw [if_neg hs])
        go_enter Tryd.func49, Tryd.ntmps49
        go_wp2_with fail
        refine (next_1 a [] _ H.out).mono ?_
        rintro e w1 ⟨rfl, hn1, ho1⟩
        go_wp2_with fail
        refine (next_0 _ hn1).mono ?_
        rintro e w2 ⟨rfl, rfl⟩
        go_wp2
        go_ret2
        rw [HE.out]
        exact ⟨ho1, rfl⟩
      | cons b r =>
        have hb := b.toNat_lt
        have hib := idx1 b
        by_cases hc : a.toNat = 128 ∨ 128 ≤ b.toNat
        · have HE : Hid (cntM (a :: b :: r) = .error 2) := Lib.hid (by simp only [cntM]; rw [if_neg hs, if_pos hc])
          go_enter Tryd.func49, Tryd.ntmps49
          go_wp2_with fail
          refine (next_1 a (b :: r) _ H.out).mono ?_
          rintro e w1 ⟨rfl, hn1, ho1⟩
          go_wp2_with fail
          refine (next_1 b r _ hn1).mono ?_
          rintro e w2 ⟨rfl, hn2, ho2⟩
          go_wp2
          all_goals
            go_ret2
            rw [HE.out]
            first | exact ⟨ho1.trans ho2, rfl⟩ | (exfalso; omega)
        · have HE : Hid (cntM (a :: b :: r) = .ok ((a.toNat - 128) * 128 + b.toNat, r)) := Lib.hid (by simp only [cntM]; rw [if_neg hs, if_neg hc])
          go_enter Tryd.func49, Tryd.ntmps49
          go_wp2_with fail
          refine (next_1 a (b :: r) _ H.out).mono ?_
          rintro e w1 ⟨rfl, hn1, ho1⟩
          go_wp2_with fail
          refine (next_1 b r _ hn1).mono ?_
          rintro e w2 ⟨rfl, hn2, ho2⟩
          have h1 : ((a.toNat : Int) - 128 == 0) = false := by simp; omega
          have h2 : decide (128 ≤ (b.toNat : Int)) = false := by simp; omega
          go_wp2
          go_ret2
          rw [HE.out]
          exact ⟨ho1.trans ho2, ret_ie (by omega), hn2⟩

end Go.Proofs.YtjnbpohjdgnknaaDoor
