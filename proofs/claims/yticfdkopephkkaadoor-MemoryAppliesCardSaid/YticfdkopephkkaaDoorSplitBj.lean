/-
  What Addr, Join and Tagged of package split do, one contract each, over a machine's sizes and any numbers.
-/
import Derived.Test.YticfdkopephkkaaDoorSizeP
import Derived.Test.YticfdkopephkkaaDoorSplitAj
import Derived.Test.YticfdkopephkkaaDoorSplitB
namespace Go.Proofs.YticfdkopephkkaaDoor
open Go Go.RowKit

theorem addr_any (c : Cfg) (a : Int) (w : World) (hc : c.fits) (hT : Tb w) :
    Calls Tryd.prog 10 #[cv c, .int .i64 a] w fun e w' => e = .returned (.tuple #[.int .i64 (adL c a), .int .i64 (adW c a), .int .i64 (adE c a)]) ∧ Below w.heap.size w w' := by
  have HC := Lib.hid hc
  have HT := Lib.hid hT
  clear hT
  have hwo := fits_wo hc
  clear hc
  rcases Bool.eq_false_or_eq_true (adOk c a) with h | h
  · have HL : Hid (adL c a = a / c.wo ∧ adW c a = a % c.wo ∧ adE c a = 0) := Lib.hid (by simp [adL, adW, adE, h])
    obtain ⟨hok, h0, h1⟩ := ok_of_adOk h
    have hp := ok_pows c hok
    have hm := mul_bound _ _ hp.1.2 hp.2.2.2.2
    have HP := Lib.hid hp.1.1
    have hin : inR a (sz c) = true := h
    clear h hok hp
    go_enter Tryd.func10, Tryd.ntmps10
    go_wp2_with (first
      | (go_at_call 20; refine (within_any _ _ _).mono ?_; rintro e w2 ⟨rfl, rfl⟩)
      | (go_at_call 15; refine (size_any c _ HC.out).mono ?_; rintro e w1 ⟨rfl, hb1⟩; have hcl := fun o => hb1.cell (p := ⟨w.heap.size, o, none⟩) (by simp); have hbw : Below w.heap.size w w1 := bbox hb1)
      | (go_at_call 21; refine (parts_any _ _ hwo (HT.out.keeps hbw)).mono ?_; rintro e w3 ⟨rfl, hb3⟩)
      | (go_at_call 26; refine (above_any _ _ _ HP.out).mono ?_; rintro e w4 ⟨rfl, hb4⟩)
      | (go_at_call 27; refine (below_any _ _ _ HP.out h0 (by omega)).mono ?_; rintro e w5 ⟨rfl, hb5⟩))
    go_ret3
    exact ⟨ret3 HL.out.1.symm HL.out.2.1.symm HL.out.2.2.symm, bstep (bstep (bstep hbw hb3) hb4) hb5⟩
  · have HL : Hid (adL c a = 0 ∧ adW c a = 0 ∧ adE c a = 1) := Lib.hid (by simp [adL, adW, adE, h])
    have hin : inR a (sz c) = false := h
    clear h
    go_enter Tryd.func10, Tryd.ntmps10
    go_wp2_with (first
      | (go_at_call 20; refine (within_any _ _ _).mono ?_; rintro e w2 ⟨rfl, rfl⟩)
      | (go_at_call 15; refine (size_any c _ HC.out).mono ?_; rintro e w1 ⟨rfl, hb1⟩))
    go_ret3
    exact ⟨ret3 HL.out.1.symm HL.out.2.1.symm HL.out.2.2.symm, bbox hb1⟩

theorem joOk_no1 {c : Cfg} {l x : Int} (h : lnOk c l = false) : joA c l x = 0 ∧ joE c l x = 1 := by simp [joA, joE, joOk, h]
theorem joOk_no2 {c : Cfg} {l x : Int} (h : inR x c.wo = false) : joA c l x = 0 ∧ joE c l x = 1 := by simp [joA, joE, joOk, h]
theorem joOk_yes {c : Cfg} {l x : Int} (h : lnOk c l = true) (h' : inR x c.wo = true) : joA c l x = l * c.wo + x ∧ joE c l x = 0 := by simp [joA, joE, joOk, h, h']
theorem mul_lt_of {l n a b : Int} (h : l < n) (hn : n ≤ a) (hb : 1 ≤ b) : l * b ≤ a * b := Int.mul_le_mul_of_nonneg_right (by omega) (by omega)

theorem joinS_any (c : Cfg) (l x : Int) (w : World) (hc : c.fits) (hT : Tb w) :
    Calls Tryd.prog 24 #[cv c, .int .i64 l, .int .i64 x] w fun e w' => e = .returned (.tuple #[.int .i64 (joA c l x), .int .i64 (joE c l x)]) ∧ Below w.heap.size w w' := by
  have HC := Lib.hid hc
  have HT := Lib.hid hT
  clear hT
  have hwo := fits_wo hc
  clear hc
  rcases Bool.eq_false_or_eq_true (lnOk c l) with h | h
  · rcases Bool.eq_false_or_eq_true (inR x c.wo) with h' | h'
    · have HL := Lib.hid (joOk_yes h h')
      obtain ⟨hok, h0, h1⟩ := ok_of_lnOk h
      obtain ⟨g0, g1⟩ := inR_of h'
      have hp := ok_pows c hok
      have HP := Lib.hid hp.1.1
      have hm : l * c.wo ≤ 4611686018427387904 := by
        have := mul_lt_of (l := l) (n := c.li) (a := 1024) (b := c.wo) h1 hp.2.2.2.2.2 hp.1.2.1
        have := hp.1.2.2
        omega
      have HM := Lib.hid hm
      clear hok hp hm
      go_enter Tryd.func24, Tryd.ntmps24
      go_wp2_with (first
        | (go_at_call 29; refine (hasLine_any c _ _ HC.out).mono ?_; rintro e w1 ⟨rfl, hb1⟩; have hcl := fun o => hb1.cell (p := ⟨w.heap.size, o, none⟩) (by simp); have hbw : Below w.heap.size w w1 := bbox hb1; have hz1 := zbox hb1)
        | (go_at_call 20; refine (within_any _ _ _).mono ?_; rintro e w2 ⟨rfl, rfl⟩)
        | (go_at_call 30; refine (joined_any _ _ hwo (HT.out.keeps hbw)).mono ?_; rintro e w3 ⟨rfl, hb3⟩)
        | (go_at_call 32; refine (join_any _ _ _ _ HP.out h0 g0 g1 HM.out).mono ?_; rintro e w4 ⟨rfl, hb4⟩))
      go_ret2
      exact ⟨ret2 HL.out.1.symm HL.out.2.symm, bstep (bstep hbw hb3) hb4⟩
    · have HL := Lib.hid (joOk_no2 (c := c) (l := l) (x := x) h')
      go_enter Tryd.func24, Tryd.ntmps24
      go_wp2_with (first
        | (go_at_call 29; refine (hasLine_any c _ _ HC.out).mono ?_; rintro e w1 ⟨rfl, hb1⟩; have hcl := fun o => hb1.cell (p := ⟨w.heap.size, o, none⟩) (by simp); have hbw : Below w.heap.size w w1 := bbox hb1; have hz1 := zbox hb1)
        | (go_at_call 20; refine (within_any _ _ _).mono ?_; rintro e w2 ⟨rfl, rfl⟩))
      go_ret2
      exact ⟨ret2 HL.out.1.symm HL.out.2.symm, hbw⟩
  · have HL := Lib.hid (joOk_no1 (c := c) (l := l) (x := x) h)
    go_enter Tryd.func24, Tryd.ntmps24
    go_wp2_with (go_at_call 29; refine (hasLine_any c _ _ HC.out).mono ?_; rintro e w1 ⟨rfl, hb1⟩)
    go_ret2
    exact ⟨ret2 HL.out.1.symm HL.out.2.symm, bbox hb1⟩

end Go.Proofs.YticfdkopephkkaaDoor
