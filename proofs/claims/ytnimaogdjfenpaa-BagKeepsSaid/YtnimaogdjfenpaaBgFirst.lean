/-
  BagFirst, its walk.
-/
import Derived.Test.YtnimaogdjfenpaaBgI
namespace Go.Proofs.Ytnimaogdjfenpaa
open Go Go.RowKit

/-- What each way of a law gives. -/
def Holds (w : World) (e : Ending) (w' : World) : Prop := e = .returned (.bool true) ∧ Below w.heap.size w w'

theorem first_long (room : Int) (p : Option Addr) (cap : Nat) (l : List Int) (w : World) (hm : l.length ≤ 9223372036854775807) (h : 100 < l.length) :
    Calls Try.prog 5 #[.int .i64 room, .slice p l.length cap] w (Holds w) := by
  go_enter Try.func5, Try.ntmps5
  go_wp2_with (go_at_call 6; refine (awake_any _).mono ?_; rintro e w1 ⟨rfl, hb⟩)
  go_ret
  exact ⟨rfl, hb⟩
theorem first_no (room : Int) (p : Option Addr) (cap : Nat) (l : List Int) (w : World) (h : l.length ≤ 100) (hr : room < 1 ∨ 4096 < room) :
    Calls Try.prog 5 #[.int .i64 room, .slice p l.length cap] w (Holds w) := by
  have HR := Lib.hid hr
  clear hr
  go_enter Try.func5, Try.ntmps5
  go_wp2_with (first
    | (go_at_call 6; refine (awake_any _).mono ?_; rintro e w1 ⟨rfl, hb⟩)
    | (go_at_call 7; refine (newI_no room _ HR.out).mono ?_; rintro e w1 ⟨rfl, rfl⟩))
  go_ret
  exact ⟨rfl, hb⟩

/-- What holds at each round's head of the first loop. -/
def PutRel (w : World) (b m : Nat) (room : Int) (l : List Int) (t : Value) (wr : World) : Prop :=
  ∃ k : Nat, k ≤ l.length ∧ t = .int .i64 k ∧ BI w b room (l.take (min k m)) wr
/-- What holds at each round's head of the second one. -/
def TakRel (w : World) (b m : Nat) (room : Int) (l : List Int) (t : Value) (wr : World) : Prop :=
  ∃ i : Nat, i ≤ m ∧ t = .int .i64 i ∧ BI w b room ((l.take m).drop i) wr

/-- A number that came in, in any world behind. -/
theorem cell_in {w w' : World} {g off : Nat} {l : List Int} (h : NumsIn w (some ⟨g, off, none⟩) l) (hb : Below w.heap.size w w') {i : Nat} (hi : i < l.length) {x : Int} (hx : l[i]? = some x) : w'.cell? ⟨g, off + i, none⟩ = some (.int .i64 x) := by
  obtain ⟨g', off', e, hg, hc⟩ := h i hi
  injection e with e
  injection e with e1 e2
  subst e1 e2
  rw [show l.getD i 0 = x by simp [List.getD_eq_getElem?_getD, hx]] at hc
  exact (hb.cell (p := ⟨g, off + i, none⟩) hg).trans hc
set_option maxHeartbeats 2000000 in
theorem first_yes (room : Int) (p : Option Addr) (cap : Nat) (l : List Int) (w : World) (hin : NumsIn w p l) (h : l.length ≤ 100) (h1 : 1 ≤ room) (h2 : room ≤ 4096) :
    Calls Try.prog 5 #[.int .i64 room, .slice p l.length cap] w (Holds w) := by
  obtain ⟨m, hm⟩ : ∃ m : Nat, (m : Int) = min (l.length : Int) room := ⟨(min (l.length : Int) room).toNat, by omega⟩
  have hm1 : m ≤ l.length := by omega
  have hm2 : (m : Int) ≤ room := by omega
  have HI := Lib.hid hin
  have HM := Lib.hid hm
  clear hin hm
  go_enter Try.func5, Try.ntmps5
  go_wp2_with (go_at_call 6; refine (awake_any _).mono ?_; rintro e w1 ⟨rfl, hb⟩)
  refine (BI.new w w1 room hb h1 h2).mono ?_
  rintro e w2 ⟨rfl, hn⟩
  have HN := Lib.hid hn
  clear hn hb
  go_wp2
  go_loopw [28] (fun t wr => PutRel w w1.heap.size m room l t wr) (fun t _ => l.length - (intOf t).toNat)
  case atStart => exact ⟨0, Nat.zero_le _, rfl, by simpa using HN.out⟩
  case round =>
    obtain ⟨k, hk, rfl, hbi⟩ := hrel
    have HB := Lib.hid hbi
    have HIr := Lib.hid (HI.out.step hbi.below)
    clear hbi
    by_cases hlt : k < l.length
    · obtain ⟨g, off, rfl, hg, hc⟩ := HIr.out k hlt
      obtain ⟨x, hx⟩ : ∃ x, l[k]? = some x := ⟨_, List.getElem?_eq_getElem hlt⟩
      rw [show l.getD k 0 = x by simp [List.getD_eq_getElem?_getD, hx]] at hc
      have HX := Lib.hid hx
      clear hx
      by_cases hkm : k < m
      · have HP := Lib.hid (HB.out.put x h2 (by rw [List.length_take]; omega))
        have HE : Hid (l.take (min k m) ++ [x] = l.take (min (k + 1) m)) := Lib.hid (by
          rw [Nat.min_eq_left (by omega), Nat.min_eq_left (by omega), List.take_add_one, HX.out]; rfl)
        go_wp2_with (go_at_call 9; refine HP.out.mono ?_; rintro e w3 ⟨rfl, h3⟩; have H3 := Lib.hid h3; clear h3)
        go_roundw
        case rel => exact ⟨k + 1, by omega, by go_num, HE.out ▸ H3.out⟩
        case measure => simp [intOf]; omega
      · have HP := Lib.hid (HB.out.full x h2 (by have := HM.out; rw [List.length_take]; omega))
        have HE : Hid (min k m = min (k + 1) m) := Lib.hid (by omega)
        go_wp2_with (go_at_call 9; refine HP.out.mono ?_; rintro e w3 ⟨rfl, h3⟩; have H3 := Lib.hid h3; clear h3)
        go_roundw
        case rel => exact ⟨k + 1, by omega, by go_num, HE.out ▸ H3.out⟩
        case measure => simp [intOf]; omega
    · have HB0 : Hid (BI w w1.heap.size room (l.take m) wr) := by
        have := HB.out
        rw [show min k m = m by omega] at this
        exact this
      obtain ⟨wo, rfl⟩ : ∃ wo : World, wo = wr := ⟨_, rfl⟩
      clear HB
      have hmin : (if room < (l.length : Int) then room else (l.length : Int)) = (m : Int) := by have := HM.out; split <;> omega
      go_wp2
      go_loopw [9] (fun t wr => TakRel w w1.heap.size m room l t wr) (fun t _ => m - (intOf t).toNat)
      case atStart => exact ⟨0, Nat.zero_le _, rfl, by simpa using HB0.out⟩
      case round =>
        obtain ⟨i, hi, rfl, hbi⟩ := hrel
        have HBi := Lib.hid hbi
        have HJ := Lib.hid (HI.out.step hbi.below)
        clear hbi
        by_cases him : i < m
        · obtain ⟨g, off, rfl, hg, hc⟩ := HJ.out i (by omega)
          obtain ⟨x, hx⟩ : ∃ x, l[i]? = some x := ⟨_, List.getElem?_eq_getElem (by omega)⟩
          rw [show l.getD i 0 = x by simp [List.getD_eq_getElem?_getD, hx]] at hc
          have HT := Lib.hid (HBi.out.take 0 x (by rw [List.length_drop, List.length_take]; omega) (by rw [List.getElem?_drop, List.getElem?_take, if_pos (by omega)]; exact hx))
          have HE : Hid (((l.take m).drop i).eraseIdx 0 = (l.take m).drop (i + 1)) := Lib.hid (by rw [List.eraseIdx_zero, List.tail_drop])
          have HX := Lib.hid hx
          clear hx
          have him' : (i : Int) < (m : Int) := by omega
          have hil : i < l.length := by omega
          go_wp2_with (go_at_call 11; refine HT.out.mono ?_; rintro e w3 ⟨rfl, h3⟩; have hc3 := cell_in HI.out h3.below (by omega) HX.out; have H3 := Lib.hid h3; clear h3)
          go_roundw
          case rel => exact ⟨i + 1, by omega, by go_num, HE.out ▸ H3.out⟩
          case measure => simp [intOf]; omega
        · have HT := Lib.hid (HBi.out.takeNo 0 (by rw [List.length_drop, List.length_take]; omega) (.inr (by rw [List.length_drop, List.length_take]; omega)))
          have him' : ¬ (i : Int) < (m : Int) := by omega
          go_wp2_with (go_at_call 11; refine HT.out.mono ?_; rintro e w3 ⟨rfl, h3⟩; have H3 := Lib.hid h3; clear h3)
          go_ret
          exact ⟨rfl, H3.out.below⟩

/-- BagFirst, all ways. -/
theorem bagFirst_any (room : Int) (p : Option Addr) (cap : Nat) (l : List Int) (w : World) (hin : NumsIn w p l) (hm : l.length ≤ 9223372036854775807) :
    Calls Try.prog 5 #[.int .i64 room, .slice p l.length cap] w (Holds w) := by
  rcases Nat.lt_or_ge 100 l.length with h | h
  · exact first_long room p cap l w hm h
  · rcases (show (room < 1 ∨ 4096 < room) ∨ (1 ≤ room ∧ room ≤ 4096) by omega) with hr | ⟨h1, h2⟩
    · exact first_no room p cap l w h hr
    · exact first_yes room p cap l w hin h h1 h2

end Go.Proofs.Ytnimaogdjfenpaa
