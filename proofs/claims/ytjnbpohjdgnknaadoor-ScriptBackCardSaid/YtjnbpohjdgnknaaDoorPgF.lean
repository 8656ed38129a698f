/-
  What the program's reader does with any rune, and read of any text up to 4000 bytes: one contract each.
-/
import Derived.Test.YtjnbpohjdgnknaaDoorPgE
import Derived.Lib.OthersKept
namespace Go.Proofs.YtjnbpohjdgnknaaDoor
open Go Go.RowKit

theorem gave_num {b base : Nat} {σ : St} {v : Value} {o : Option Num} {w w' : World} {e : Ending} (hb : b < base) (hown : w.ownsRow base 52 3 v σ.ops.length (opCells σ.ops)) (h : GaveN b v σ.op σ.pl o w e w') : Gave b base (o.map σ.put) w e w' := by
  obtain ⟨rfl, ho, ha⟩ := h
  refine ⟨by simp, ho.kept _, fun τ hτ => ?_⟩
  obtain ⟨m, hm, rfl⟩ := Option.map_eq_some_iff.1 hτ
  exact ⟨v, ha m hm, own_only hown ho hb⟩

set_option maxHeartbeats 2000000 in
theorem take_any (b base : Nat) (σ : St) (r : Nat) (w : World) (hb : b < base) (hbase : base ≤ w.heap.size) (h : Rd b base w σ) (hd : σ.num.dg ≤ 5000) (hs : σ.num.sz ≤ 2147483648) (hl : σ.ops.length ≤ 5000) (hr : r ≤ 2147483647) :
    Calls Tryd.prog 57 #[.pointer (some ⟨b, 0, none⟩), .int .i32 r] w (Gave b base (σ.take r) w) := by
  have HR := Lib.hid h
  obtain ⟨v, h, hown⟩ := h
  have hc4 := h.cell 4
  have H := Lib.hid h
  have HO := Lib.hid hown
  have HD := Lib.hid hd
  have HS := Lib.hid hs
  have HL := Lib.hid hl
  clear h hown hd hs hl
  simp at hc4
  by_cases h32 : r = 32
  · have e : σ.take r = σ.fin := by simp [St.take, h32]
    rw [e]
    have t : ((r : Int) == 32) = true := by simp; omega
    clear h32 e
    go_enter Tryd.func57, Tryd.ntmps57
    go_wp2_with (go_at_call 58; refine (fin_any b base σ _ hb hbase HR.out HS.out HL.out).mono ?_; rintro e w1 ⟨rfl, hk, hg⟩)
    go_ret
    exact ⟨rfl, hk, hg⟩
  · have t : ((r : Int) == 32) = false := by simp; omega
    by_cases p0 : σ.pl = 0
    · have e : σ.take r = σ.letter r := by simp [St.take, h32, p0]
      rw [e]
      rw [p0] at hc4
      clear h32 e p0
      go_enter Tryd.func57, Tryd.ntmps57
      go_wp2_with (go_at_call 63; refine (letter_any b base σ r _ hb HR.out).mono ?_; rintro e w1 ⟨rfl, hk, hg⟩)
      go_ret
      exact ⟨rfl, hk, hg⟩
    · by_cases p1 : σ.pl = 1
      · by_cases h61 : r = 61
        · have e : σ.take r = σ.equals := by simp [St.take, p1, h61]
          rw [e]
          rw [p1] at hc4
          have t2 : ((r : Int) == 61) = true := by simp; omega
          clear h32 e p0 p1 h61
          go_enter Tryd.func57, Tryd.ntmps57
          go_wp2_with (go_at_call 64; refine (equals_any b base σ _ hb HR.out HS.out).mono ?_; rintro e w1 ⟨rfl, hk, hg⟩)
          go_ret
          exact ⟨rfl, hk, hg⟩
        · have e : σ.take r = (σ.num.digit r).map σ.put := by simp [St.take, h32, p1, h61]
          rw [e]
          have H1 : Hid (At w b (rdL v σ.op 1 σ.num)) := Lib.hid (by rw [← p1]; exact H.out)
          have P1 := Lib.hid p1
          rw [p1] at hc4
          have t2 : ((r : Int) == 61) = false := by simp; omega
          clear h32 e p0 p1 h61
          go_enter Tryd.func57, Tryd.ntmps57
          go_wp2_with (go_at_call 65; refine (digit_any b v σ.op 1 σ.num r _ H1.out HD.out HS.out hr).mono ?_; rintro e w1 ⟨rfl, ho, ha⟩)
          go_ret
          exact gave_num hb HO.out ⟨rfl, ho, by rw [P1.out]; exact ha⟩
      · by_cases p2 : σ.pl = 2
        · by_cases h45 : r = 45
          · have e : σ.take r = σ.num.minus.map σ.put := by simp [St.take, p2, h45]
            rw [e]
            have H1 : Hid (At w b (rdL v σ.op 2 σ.num)) := Lib.hid (by rw [← p2]; exact H.out)
            have P1 := Lib.hid p2
            rw [p2] at hc4
            have t2 : ((r : Int) == 45) = true := by simp; omega
            clear h32 e p0 p1 p2 h45
            go_enter Tryd.func57, Tryd.ntmps57
            go_wp2_with (go_at_call 66; refine (minus_any b v σ.op 2 σ.num _ H1.out).mono ?_; rintro e w1 ⟨rfl, ho, ha⟩)
            go_ret
            exact gave_num hb HO.out ⟨rfl, ho, by rw [P1.out]; exact ha⟩
          · have e : σ.take r = (σ.num.digit r).map σ.put := by simp [St.take, h32, p2, h45]
            rw [e]
            have H1 : Hid (At w b (rdL v σ.op 2 σ.num)) := Lib.hid (by rw [← p2]; exact H.out)
            have P1 := Lib.hid p2
            rw [p2] at hc4
            have t2 : ((r : Int) == 45) = false := by simp; omega
            clear h32 e p0 p1 p2 h45
            go_enter Tryd.func57, Tryd.ntmps57
            go_wp2_with (go_at_call 65; refine (digit_any b v σ.op 2 σ.num r _ H1.out HD.out HS.out hr).mono ?_; rintro e w1 ⟨rfl, ho, ha⟩)
            go_ret
            exact gave_num hb HO.out ⟨rfl, ho, by rw [P1.out]; exact ha⟩
        · have e : σ.take r = none := by simp [St.take, h32, p0, p1, p2]
          rw [e]
          have q0 : ((σ.pl : Int) == 0) = false := by simp; omega
          have q1 : ((σ.pl : Int) == 1) = false := by simp; omega
          have q2 : ((σ.pl : Int) == 2) = false := by simp; omega
          clear h32 e p0 p1 p2
          go_enter Tryd.func57, Tryd.ntmps57
          go_wp2
          go_ret
          exact gave_false rfl (Kept.refl _ _ _)

end Go.Proofs.YtjnbpohjdgnknaaDoor
