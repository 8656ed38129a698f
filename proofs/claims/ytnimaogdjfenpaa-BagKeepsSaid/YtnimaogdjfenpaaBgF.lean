/-
  What the document's New, Put, Take and Find do; whether two lists are the same.
-/
import Derived.Test.YtnimaogdjfenpaaBgE
import Derived.Deep.RegionHeld3
namespace Go.Proofs.Ytnimaogdjfenpaa
open Go Go.RowKit

theorem newR_no (room : Int) (w : World) (h : room < 1 ∨ 4096 < room) :
    Calls Try.prog 8 #[.int .i64 room] w fun e w' => e = .returned (.tuple #[.pointer none, .int .i64 1]) ∧ w = w' := by
  rcases h with h | h
  · go_enter Try.func8, Try.ntmps8
    go_wp2
    go_ret2
    exact ⟨rfl, rfl⟩
  · have h1 : ¬ room < 1 := by omega
    go_enter Try.func8, Try.ntmps8
    go_wp2
    go_ret2
    exact ⟨rfl, rfl⟩
theorem newR_yes (room : Int) (w : World) (h : 1 ≤ room) (h2 : room ≤ 4096) :
    Calls Try.prog 8 #[.int .i64 room] w fun e w' => e = .returned (.tuple #[.pointer (some ⟨w.heap.size, 0, none⟩), .int .i64 0]) ∧ w.alloc (.cells #[.int .i64 room, .slice none 0 0] 40) = w' := by
  go_enter Try.func8, Try.ntmps8
  go_wp2
  go_ret2
  exact ⟨rfl, rfl⟩
theorem newS_no (w : World) :
    Calls Try.prog 24 #[.int .i64 0] w fun e w' => e = .returned (.tuple #[.pointer none, .int .i64 1]) ∧ w = w' := by
  go_enter Try.func24, Try.ntmps24
  go_wp2
  go_ret2
  exact ⟨rfl, rfl⟩

/-- Find. -/
theorem findR_any {w : World} {B b : Nat} {room : Int} {l : List Int} {v : Value} (h : BgR w B b room l v) (x : Int) (hl : l.length ≤ 5000) :
    Calls Try.prog 15 #[.pointer (some ⟨b, 0, none⟩), .int .i64 x] w fun e w' => e = .returned (.int .i64 (place l x)) ∧ w = w' := by
  obtain ⟨p, cap, rfl, hin⟩ := own_in h.row
  have c1 := blk_cell h.blk 1
  simp at c1
  have H := Lib.hid hin
  clear h hin
  go_enter Try.func15, Try.ntmps15
  go_wp2
  go_loop [5] (fun i => ∃ k : Nat, k ≤ l.length ∧ i = .int .i64 k ∧ ∀ j, j < k → l.getD j 0 ≠ x) (fun i => l.length - (intOf i).toNat)
  case atStart => exact ⟨0, Nat.zero_le _, rfl, fun j hj => by omega⟩
  case round =>
    obtain ⟨k, hk, rfl, hno⟩ := hrel
    have HN := Lib.hid hno
    clear hno
    by_cases hlt : k < l.length
    · obtain ⟨g, off, rfl, hg, hc⟩ := H.out k hlt
      obtain ⟨y, hy⟩ : ∃ y, y = l.getD k 0 := ⟨_, rfl⟩
      rw [← hy] at hc
      have HY := Lib.hid hy
      clear hy
      by_cases he : y = x
      · have he' : (y == x) = true := by simpa using he
        have HE := Lib.hid he
        clear he
        go_wp2
        go_ret
        refine ⟨ret_int ?_, rfl⟩
        have := place_at x l k 0 HN.out hlt (HY.out ▸ HE.out)
        unfold place
        rw [this]
        simp
      · have he' : (y == x) = false := by simpa using he
        have HE := Lib.hid he
        clear he
        go_wp2
        go_round
        case rel => exact ⟨k + 1, by omega, by go_num, fun j hj => by rcases Nat.lt_or_ge j k with h | h; exact HN.out j h; (rw [show j = k by omega, ← HY.out]; exact HE.out)⟩
        case measure => simp [intOf]; omega
    · go_wp2
      go_ret
      exact ⟨ret_int (place_no x l 0 fun j hj => HN.out j (by omega)).symm, rfl⟩

theorem beq_split (l m : List Int) (he : l.length = m.length) : (l == m) = true ↔ ∀ j, j < l.length → l.getD j 0 = m.getD j 0 := by
  rw [beq_iff_eq]
  constructor
  · rintro rfl j _; rfl
  · intro h
    refine List.ext_getElem he fun j h1 h2 => ?_
    have := h j h1
    simpa [List.getD_eq_getElem?_getD, h1, h2] using this

/-- Same. -/
theorem same_any (p q : Option Addr) (cp cq : Nat) (l m : List Int) (w : World) (hl : l.length ≤ 5000) (h1 : NumsIn w p l) (h2 : NumsIn w q m) :
    Calls Try.prog 16 #[.slice p l.length cp, .slice q m.length cq] w fun e w' => e = .returned (.bool (l == m)) ∧ ∃ n, w' = w.drewN n := by
  have H1 := Lib.hid h1
  have H2 := Lib.hid h2
  clear h1 h2
  by_cases hlen : l.length = m.length
  · have HB := Lib.hid (beq_split l m hlen)
    have hne : ((l.length : Int) != (m.length : Int)) = false := by simp [hlen]
    have HL := Lib.hid hlen
    clear hlen
    go_enter Try.func16, Try.ntmps16
    go_wp2
    go_loopw [5] (fun i wr => ∃ k : Nat, k ≤ l.length ∧ i = .int .i64 k ∧ (∀ j, j < k → l.getD j 0 = m.getD j 0) ∧ ∃ n, wr = w.drewN n) (fun i _ => l.length - (intOf i).toNat)
    case atStart => exact ⟨0, Nat.zero_le _, rfl, fun j hj => by omega, 0, rfl⟩
    case round =>
      obtain ⟨k, hk, rfl, hno, n, rfl⟩ := hrel
      have HN := Lib.hid hno
      clear hno
      by_cases hlt : k < l.length
      · obtain ⟨g, off, rfl, hg, hc⟩ := H1.out k hlt
        have hlm : k < m.length := by have := HL.out; omega
        obtain ⟨g', off', rfl, hg', hc'⟩ := H2.out k hlm
        obtain ⟨y, hy⟩ : ∃ y, y = l.getD k 0 := ⟨_, rfl⟩
        obtain ⟨z, hz⟩ : ∃ z, z = m.getD k 0 := ⟨_, rfl⟩
        rw [← hy] at hc
        rw [← hz] at hc'
        have HY := Lib.hid hy
        have HZ := Lib.hid hz
        clear hy hz
        by_cases he : y = z
        · have he' : (y != z) = false := by simpa using he
          have HE := Lib.hid he
          clear he
          go_wp2
          go_quiet (fail)
          go_wp2
          go_roundw
          case rel => exact ⟨k + 1, by omega, by go_num, fun j hj => by rcases Nat.lt_or_ge j k with h | h; exact HN.out j h; (rw [show j = k by omega, ← HY.out, ← HZ.out]; exact HE.out), _, rfl⟩
          case measure => simp [intOf]; omega
        · have he' : (y != z) = true := by simpa using he
          have HE := Lib.hid he
          clear he
          go_wp2
          go_quiet (fail)
          go_wp2
          go_ret
          refine ⟨ret_bool ?_, n + nq, by simp⟩
          cases hb : (l == m) with
          | false => rfl
          | true => exact absurd (HY.out ▸ HZ.out ▸ HB.out.1 hb k hlt) HE.out
      · go_wp2
        go_ret
        exact ⟨ret_bool (HB.out.2 fun j hj => HN.out j (by omega)).symm, _, rfl⟩
  · have hne : ((l.length : Int) != (m.length : Int)) = true := by simp; omega
    have HB : Hid ((l == m) = false) := Lib.hid (by rw [beq_eq_false_iff_ne]; exact fun e => hlen (by rw [e]))
    clear hlen
    go_enter Try.func16, Try.ntmps16
    go_wp2
    go_ret
    exact ⟨ret_bool HB.out.symm, 0, rfl⟩

end Go.Proofs.Ytnimaogdjfenpaa
