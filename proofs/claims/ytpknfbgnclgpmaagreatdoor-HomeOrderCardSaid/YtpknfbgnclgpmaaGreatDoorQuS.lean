/-
  Messages, entries and lists of them, told twice: are they the same? Entries of the document's.
-/
import Derived.Test.YtpknfbgnclgpmaaGreatDoorQuL
import Derived.Laws.StructEq
import Derived.ChangeKeysEq
namespace Go.Proofs.YtpknfbgnclgpmaaGreatDoor.Qu
open Go Go.RowKit

theorem infoInt : (Tryz.prog.info? 3).map (fun i => (i.zero, i.size, i.bytes)) = some (some (.int .i64 0), 1, 8) := by kernel_rfl
def eqW (x y : Msg) : Bool := x.w0 == y.w0 && (x.w1 == y.w1 && (x.w2 == y.w2 && (x.w3 == y.w3 && (x.w4 == y.w4 && (x.w5 == y.w5 && (x.w6 == y.w6 && (x.w7 == y.w7)))))))
theorem words_eq (d : Nat) (x y : Msg) (w : World) : (Op.equalIn (d + 2) 36 (.agg #[.int .i64 x.w0, .int .i64 x.w1, .int .i64 x.w2, .int .i64 x.w3, .int .i64 x.w4, .int .i64 x.w5, .int .i64 x.w6, .int .i64 x.w7]) (.agg #[.int .i64 y.w0, .int .i64 y.w1, .int .i64 y.w2, .int .i64 y.w3, .int .i64 y.w4, .int .i64 y.w5, .int .i64 y.w6, .int .i64 y.w7])).run Tryz.prog w = .ok (eqW x y) w := by
  obtain ⟨i0, hi0, hz0, hz1, hz2⟩ := info_parts infoInt
  rw [run_equalIn_array w (d + 1) _ _ Tryz.underlying36 hi0]
  have hc3 : Tryz.prog.cellsOf 3 = 1 := by kernel_rfl
  rw [hc3]
  have hu := Tryz.underlying3
  obtain ⟨k0, k1, k2, k3, k4, k5, k6, a0, a1, a2, a3, a4, a5, a6, a7⟩ := x
  obtain ⟨l0, l1, l2, l3, l4, l5, l6, b0, b1, b2, b3, b4, b5, b6, b7⟩ := y
  simp [Op.eqItems, List.range, List.range.loop, go_sem, eqW]
  by_cases h0 : a0 = b0
  · by_cases h1 : a1 = b1
    · by_cases h2 : a2 = b2
      · by_cases h3 : a3 = b3
        · by_cases h4 : a4 = b4
          · by_cases h5 : a5 = b5
            · by_cases h6 : a6 = b6
              · by_cases h7 : a7 = b7 <;> simp [h0, h1, h2, h3, h4, h5, h6, h7]
              · simp [h0, h1, h2, h3, h4, h5, h6]
            · simp [h0, h1, h2, h3, h4, h5]
          · simp [h0, h1, h2, h3, h4]
        · simp [h0, h1, h2, h3]
      · simp [h0, h1, h2]
    · simp [h0, h1]
  · simp [h0]
def eqM (x y : Msg) : Bool := x.kd == y.kd && (x.ln == y.ln && (x.fr == y.fr && (x.to == y.to && (x.wh == y.wh && (x.ac == y.ac && (x.ow == y.ow && eqW x y))))))
theorem eqM_eq (x y : Msg) : eqM x y = decide (x = y) := by
  rw [Bool.eq_iff_iff, decide_eq_true_iff]
  constructor
  · intro h
    simp only [eqM, eqW, Bool.and_eq_true, beq_iff_eq] at h
    obtain ⟨h0, h1, h2, h3, h4, h5, h6, q0, q1, q2, q3, q4, q5, q6, q7⟩ := h
    exact mext (by simp only [mtoL, h0, h1, h2, h3, h4, h5, h6, q0, q1, q2, q3, q4, q5, q6, q7])
  · rintro rfl
    simp [eqM, eqW]
set_option maxHeartbeats 1000000 in
theorem msg_eql (x y : Msg) (w : World) : (binOp .eql 38 (mv x) (mv y)).run Tryz.prog w = .ok (.bool (decide (x = y))) w := by
  rw [← eqM_eq]
  have ha := fun d => words_eq d x y
  by_cases h0 : x.kd = y.kd
  · by_cases h1 : x.ln = y.ln
    · by_cases h2 : x.fr = y.fr
      · by_cases h3 : x.to = y.to
        · by_cases h4 : x.wh = y.wh
          · by_cases h5 : x.ac = y.ac
            · by_cases h6 : x.ow = y.ow
              · cases hw : eqW x y <;> simp [go_sem, ha, eqM, h0, h1, h2, h3, h4, h5, h6, hw]
              · simp [go_sem, ha, eqM, h0, h1, h2, h3, h4, h5, h6]
            · simp [go_sem, ha, eqM, h0, h1, h2, h3, h4, h5]
          · simp [go_sem, ha, eqM, h0, h1, h2, h3, h4]
        · simp [go_sem, ha, eqM, h0, h1, h2, h3]
      · simp [go_sem, ha, eqM, h0, h1, h2]
    · simp [go_sem, ha, eqM, h0, h1]
  · simp [go_sem, ha, eqM, h0]
set_option maxHeartbeats 1000000 in
theorem msg_neq (x y : Msg) (w : World) : (binOp .neq 38 (mv x) (mv y)).run Tryz.prog w = .ok (.bool (!decide (x = y))) w := by
  rw [← eqM_eq]
  have ha := fun d => words_eq d x y
  by_cases h0 : x.kd = y.kd
  · by_cases h1 : x.ln = y.ln
    · by_cases h2 : x.fr = y.fr
      · by_cases h3 : x.to = y.to
        · by_cases h4 : x.wh = y.wh
          · by_cases h5 : x.ac = y.ac
            · by_cases h6 : x.ow = y.ow
              · cases hw : eqW x y <;> simp [go_sem, ha, eqM, h0, h1, h2, h3, h4, h5, h6, hw]
              · simp [go_sem, ha, eqM, h0, h1, h2, h3, h4, h5, h6]
            · simp [go_sem, ha, eqM, h0, h1, h2, h3, h4, h5]
          · simp [go_sem, ha, eqM, h0, h1, h2, h3, h4]
        · simp [go_sem, ha, eqM, h0, h1, h2, h3]
      · simp [go_sem, ha, eqM, h0, h1, h2]
    · simp [go_sem, ha, eqM, h0, h1]
  · simp [go_sem, ha, eqM, h0]

theorem cells15 {w : World} {g o : Nat} {x : Msg} (h : w.rangeAt g o (mg x)) :
    w.cell? ⟨g, o, none⟩ = some (.int .i64 x.kd) ∧ w.cell? ⟨g, o + 1, none⟩ = some (.int .i64 x.ln) ∧ w.cell? ⟨g, o + 2, none⟩ = some (.int .i64 x.fr) ∧ w.cell? ⟨g, o + 3, none⟩ = some (.int .i64 x.to) ∧ w.cell? ⟨g, o + 4, none⟩ = some (.int .i64 x.wh) ∧
    w.cell? ⟨g, o + 5, none⟩ = some (.int .i64 x.ac) ∧ w.cell? ⟨g, o + 6, none⟩ = some (.int .i64 x.ow) ∧ w.cell? ⟨g, o + 7, none⟩ = some (.int .i64 x.w0) ∧ w.cell? ⟨g, o + 8, none⟩ = some (.int .i64 x.w1) ∧ w.cell? ⟨g, o + 9, none⟩ = some (.int .i64 x.w2) ∧
    w.cell? ⟨g, o + 10, none⟩ = some (.int .i64 x.w3) ∧ w.cell? ⟨g, o + 11, none⟩ = some (.int .i64 x.w4) ∧ w.cell? ⟨g, o + 12, none⟩ = some (.int .i64 x.w5) ∧ w.cell? ⟨g, o + 13, none⟩ = some (.int .i64 x.w6) ∧ w.cell? ⟨g, o + 14, none⟩ = some (.int .i64 x.w7) :=
  ⟨h 0 _ rfl, h 1 _ rfl, h 2 _ rfl, h 3 _ rfl, h 4 _ rfl, h 5 _ rfl, h 6 _ rfl, h 7 _ rfl, h 8 _ rfl, h 9 _ rfl, h 10 _ rfl, h 11 _ rfl, h 12 _ rfl, h 13 _ rfl, h 14 _ rfl⟩
theorem list_ext' {α : Type} {l m : List α} (hl : l.length = m.length) (h : ∀ j, j < l.length → l[j]? = m[j]?) : l = m := by
  refine List.ext_getElem? fun j => ?_
  by_cases hj : j < l.length
  · exact h j hj
  · rw [List.getElem?_eq_none (by omega), List.getElem?_eq_none (by omega)]

set_option maxRecDepth 100000 in
set_option maxHeartbeats 4000000 in
theorem msame_any (p q : Option Addr) (c c' : Nat) (l m : List Msg) (w : World) (hl : l.length ≤ 5000) (h1 : MIn w p l) (h2 : MIn w q m) :
    Calls Tryz.prog 24 #[.slice p l.length c, .slice q m.length c'] w fun e w' => e = .returned (.bool (decide (l = m))) ∧ Below w.heap.size w w' := by
  have H1 := Lib.hid h1
  have H2 := Lib.hid h2
  by_cases hlm : l.length = m.length
  · have hne : ((l.length : Int) != (m.length : Int)) = false := by simp; omega
    have HL := Lib.hid hlm
    clear h1 h2 hlm
    go_enter Tryz.func24, Tryz.ntmps24
    go_wp2
    go_loopw [5] (fun i wr => ∃ k : Nat, k ≤ l.length ∧ i = .int .i64 k ∧ Hid (∀ j, j < k → l[j]? = m[j]?) ∧ ∃ n, wr = w.drewN n) (fun i _ => l.length - (intOf i).toNat)
    case atStart => exact ⟨0, Nat.zero_le _, rfl, Lib.hid (fun j hj => by omega), 0, rfl⟩
    case round =>
      obtain ⟨k, hk, rfl, HJ, n, rfl⟩ := hrel
      by_cases hlt : k < l.length
      · have hkm : k < m.length := by have := HL.out; omega
        obtain ⟨x, hx⟩ : ∃ x, l[k]? = some x := ⟨_, List.getElem?_eq_getElem hlt⟩
        obtain ⟨y, hy⟩ : ∃ y, m[k]? = some y := ⟨_, List.getElem?_eq_getElem hkm⟩
        obtain ⟨g, o, rfl, hg, hr⟩ := H1.out k x hx
        obtain ⟨g', o', rfl, hg', hr'⟩ := H2.out k y hy
        obtain ⟨a0, a1, a2, a3, a4, a5, a6, a7, a8, a9, a10, a11, a12, a13, a14⟩ := cells15 hr
        obtain ⟨b0, b1, b2, b3, b4, b5, b6, b7, b8, b9, b10, b11, b12, b13, b14⟩ := cells15 hr'
        have hq := msg_neq x y
        have HX := Lib.hid hx
        have HY := Lib.hid hy
        clear hx hy hr hr'
        by_cases hxy : x = y
        · have HE := Lib.hid hxy
          have hd : decide (x = y) = true := by simp [hxy]
          rw [hd] at hq
          clear hxy hd
          go_wp2
          go_quiet (fail)
          go_wp2
          go_roundw
          case rel => exact ⟨k + 1, by omega, by go_num, Lib.hid (fun j hj => by rcases Nat.lt_or_ge j k with h | h; exact HJ.out j h; (rw [show j = k by omega, HX.out, HY.out, HE.out])), _, rfl⟩
          case measure => simp [intOf]; omega
        · have HE : Hid (decide (l = m) = false) := Lib.hid (by
            rw [decide_eq_false_iff_not]
            intro e
            have := HX.out
            rw [e, HY.out] at this
            exact hxy (Option.some.inj this).symm)
          have hd : decide (x = y) = false := by simp [hxy]
          rw [hd] at hq
          clear hxy hd
          go_wp2
          go_quiet (fail)
          go_wp2
          go_ret
          exact ⟨ret_bool HE.out.symm, by rw [World.drewN_drewN]; exact below_drewN (Below.refl _ _) _⟩
      · have HE : Hid (decide (l = m) = true) := Lib.hid (by
          rw [decide_eq_true_iff]
          exact list_ext' HL.out fun j hj => HJ.out j (by omega))
        go_wp2
        go_ret
        exact ⟨ret_bool HE.out.symm, below_drewN (Below.refl _ _) _⟩
  · have hne : ((l.length : Int) != (m.length : Int)) = true := by simp; omega
    have HE : Hid (decide (l = m) = false) := Lib.hid (by rw [decide_eq_false_iff_not]; exact fun e => hlm (by rw [e]))
    clear h1 h2 hlm
    go_enter Tryz.func24, Tryz.ntmps24
    go_wp2
    go_ret
    exact ⟨ret_bool HE.out.symm, Below.refl _ _⟩

end Go.Proofs.YtpknfbgnclgpmaaGreatDoor.Qu
