/-
  MshrOrder is true: the walk.
-/
import Derived.Test.YtcfcgejeiihgnaaMhP
namespace Go.Proofs.Ytcfcgejeiihgnaa
open Go Go.RowKit

theorem fnd1 {x : Ms} {line : Int} (h : x.ln = line) : fnd [x] line = some 0 := by simp [fnd, isL, h]
theorem chg1 {x y : Ms} {line : Int} {f : Ms → Option Ms} (h : x.ln = line) (hf : f x = some y) : chg [x] line f = (0, [y]) := chg_yes (fnd1 h) rfl hf
theorem chg1n {x : Ms} {line : Int} {f : Ms → Option Ms} (h : x.ln = line) (hf : f x = none) : chg [x] line f = (7, [x]) := chg_no (fnd1 h) rfl hf
theorem owe1n {x : Ms} {line : Int} (h : x.ln = line) (ht : (x.os || !came x) = true) : oweP [x] line = ((m0, false), [x]) := oweP_no (fnd1 h) rfl ht
theorem owe1y {x : Ms} {line : Int} (h : x.ln = line) (ht : (x.os || !came x) = false) : oweP [x] line = ((x, true), [owesY x]) := oweP_yes (fnd1 h) rfl ht
theorem close1 {x : Ms} {line : Int} (h : x.ln = line) (ht : x.os = true) : closeP [x] line = (0, []) := closeP_yes (fnd1 h) rfl ht

/-- What the miss is behind so many rounds. -/
def stt (line : Int) (n a : Nat) (g : Bool) (d : Wd) (i : Nat) : Ms := if i ≤ a then ⟨line, 2, -1, i, 0, d0, false, false⟩ else ⟨line, 2, n, (i : Int) - 1, 4, if g = true then d0 else d, g, false⟩
variable {line : Int} {n a i : Nat} {g : Bool} {d : Wd}
theorem stt_ln : (stt line n a g d i).ln = line := by unfold stt; split <;> rfl
theorem stt_le (h : i ≤ a) : stt line n a g d i = ⟨line, 2, -1, i, 0, d0, false, false⟩ := if_pos h
theorem stt_gt (h : a < i) : stt line n a g d i = ⟨line, 2, n, (i : Int) - 1, 4, if g = true then d0 else d, g, false⟩ := if_neg (by omega)
theorem stt_owe (h : i ≤ n) : oweP [stt line n a g d i] line = ((m0, false), [stt line n a g d i]) := by
  refine owe1n stt_ln ?_
  by_cases ha : i ≤ a
  · rw [stt_le ha]; simp [came, knw]
  · rw [stt_gt (by omega)]
    simp [came, knw]
    try omega
theorem stt_ack (h : i ≤ n) (hne : i ≠ a) : chg [stt line n a g d i] line ackF = (0, [stt line n a g d (i + 1)]) := by
  refine chg1 stt_ln ?_
  by_cases ha : i < a
  · rw [stt_le (by omega), stt_le (by omega), ackF_yes (by simp [came, knw])]
    simp [ackY]
  · rw [stt_gt (by omega), stt_gt (by omega), ackF_yes (by simp [came, knw]; omega)]
    simp [ackY]
    try omega
theorem stt_data (h : a ≤ n) : chg [stt line n a false d a] line (dataF n 4 d) = (0, [stt line n a false d (a + 1)]) := by
  refine chg1 stt_ln ?_
  rw [stt_le (Nat.le_refl _), stt_gt (by omega), dataF_yes _ (by simp [tkes, knw]; omega)]
  simp [dataY]
theorem stt_grant (h : a ≤ n) : chg [stt line n a true d a] line (grantF n) = (0, [stt line n a true d (a + 1)]) := by
  refine chg1 stt_ln ?_
  rw [stt_le (Nat.le_refl _), stt_gt (by omega), grantF_yes (by simp [tkes, knw]; omega)]
  simp [grantY]
abbrev endM (line : Int) (n : Nat) (d : Wd) (g : Bool) : Ms := ⟨line, 2, n, n, 4, d, g, false⟩
theorem stt_end (h : a ≤ n) : stt line n a g d (n + 1) = endM line n (if g = true then d0 else d) g := by
  rw [stt_gt (by omega)]
  simp
theorem end_owe : oweP [endM line n d g] line = ((endM line n d g, true), [owesY (endM line n d g)]) := owe1y rfl (by simp [came, knw])
theorem end_ack : chg [owesY (endM line n d g)] line ackF = (7, [owesY (endM line n d g)]) := chg1n rfl (ackF_no (by simp [came, knw, owesY]))
theorem end_close : closeP [owesY (endM line n d g)] line = (0, []) := close1 rfl rfl

variable {w wr wr' : World} {b : Nat} {room k : Int} {l : List Ms} {bx : List (Nat × Obj)}
theorem newB (hr : 1 ≤ room) (hr2 : room ≤ 8) (hb : Below w.heap.size w wr) (hbx : ∀ p ∈ bx, wr.heap[p.1]? = some p.2 ∧ w.heap.size ≤ p.1) (hnd : (bx.map Prod.fst).Nodup) :
    Calls Try.prog 7 #[.int .i64 room] wr fun e w' => ∃ b, e = .returned (.tuple #[.pointer (some ⟨b, 0, none⟩), .int .i64 0]) ∧ Own w b room 0 [] bx w' :=
  (new_yes room wr hr hr2).mono fun _ _ ⟨he, hw⟩ => by
    subst hw
    refine ⟨_, he, ⟨⟨_, Bg.new hb.size, fun p hp => by simp [Value.ownBlock]⟩, Good.new hr hr2, by omega, bstep hb (balloc _ _), fun p hp => ?_, hnd⟩⟩
    obtain ⟨h1, h2⟩ := hbx p hp
    have hl := lt_of_block h1
    exact ⟨((balloc wr _).block p.1 hl).trans h1, by omega, h2⟩
theorem open1 : openP 1 [] line 2 = (0, [stt line n a g d 0]) := by
  rw [stt_le (by omega)]
  rfl

set_option maxRecDepth 100000 in
set_option maxHeartbeats 4000000 in
theorem order_true (line : Int) (n a : Nat) (d : Wd) (w : World) (hn : n ≤ 63) (hle : a ≤ n) :
    Calls Try.prog 5 #[.int .i64 line, .int .i64 n, .int .i64 a, .bool true, .agg (dcells d)] w fun e w' => e = .returned (.bool true) ∧ Below w.heap.size w w' := by
  have hq : ∀ w, (binOp .eql 34 (.agg #[.int .i64 line, .int .i64 2, .int .i64 n, .int .i64 n, .int .i64 4, .int .i64 0, .int .i64 0, .int .i64 0, .int .i64 0, .int .i64 0, .int .i64 0, .int .i64 0, .int .i64 0, .bool true, .bool false]) (.agg #[.int .i64 line, .int .i64 2, .int .i64 n, .int .i64 n, .int .i64 4, .int .i64 0, .int .i64 0, .int .i64 0, .int .i64 0, .int .i64 0, .int .i64 0, .int .i64 0, .int .i64 0, .bool true, .bool false])).run Try.prog w = .ok (.bool true) w := fun w => miss_eql (endM line n ⟨0, 0, 0, 0, 0, 0, 0, 0⟩ true) w
  have HQ := Lib.hid hq
  clear hq
  have g1 : ¬ (n : Int) < 0 := by omega
  have g2 : ¬ 63 < (n : Int) := by omega
  have g3 : ¬ (a : Int) < 0 := by omega
  have g4 : ¬ (n : Int) < (a : Int) := by omega
  go_enter Try.func5, Try.ntmps5
  go_wp2_with fail
  refine (awake_any _).mono ?_
  rintro e w1 ⟨rfl, hb⟩
  have HB := Lib.hid (bbox hb)
  have H0 := Lib.hid (box_at hb)
  clear hb
  go_wp2_with fail
  refine (newB (w := w) (room := 1) (bx := [(w.heap.size, .cells (dcells d) 32 (0, 0))]) (by decide) (by decide) HB.out (fun p hp => by
    obtain rfl : p = (w.heap.size, .cells (dcells d) 32 (0, 0)) := by simpa using hp
    exact ⟨H0.out, Nat.le_refl _⟩) (by simp)).mono ?_
  rintro e w2 ⟨b, rfl, ho⟩
  have H1 := Lib.hid ho
  clear ho HB H0
  go_wp2_with fail
  refine (H1.out.open line 2 (open1 (n := n) (a := a) (g := true) (d := d))).mono ?_
  rintro e w3 ⟨rfl, ho⟩
  have H2 := Lib.hid ho
  clear ho H1
  go_wp2
  go_loopw [13] (fun t wr => ∃ i : Nat, i ≤ n + 1 ∧ t = .int .i64 i ∧ Own w b 1 (1 + 2 * (i : Int)) [stt line n a true d i] [(w.heap.size, .cells (dcells d) 32 (0, 0))] wr) (fun t _ => n + 1 - (intOf t).toNat)
  case atStart => exact ⟨0, by omega, rfl, H2.out⟩
  case round =>
    obtain ⟨i, hi, rfl, ho⟩ := hrel
    have H1 := Lib.hid ho
    clear ho H2
    by_cases hlt : i ≤ n
    · have hlt' : (i : Int) ≤ (n : Int) := by omega
      have HO := Lib.hid (stt_owe (line := line) (a := a) (g := true) (d := d) hlt)
      go_wp2_with fail
      refine (H1.out.owe line HO.out).mono ?_
      rintro e w4 ⟨rfl, ho⟩
      have H2 := Lib.hid (ho.step (below_box w4 (.cells #[.int .i64 0, .int .i64 0, .int .i64 0, .int .i64 0, .int .i64 0, .int .i64 0, .int .i64 0, .int .i64 0, .int .i64 0, .int .i64 0, .int .i64 0, .int .i64 0, .int .i64 0, .bool false, .bool false] 34) (mcells m0)))
      clear ho H1 HO
      by_cases hia : i = a
      · subst hia
        have HC := Lib.hid (stt_grant (line := line) (d := d) hle)
        go_wp2_with ((with_reducible refine wpList_store_row (o := ⟨none, _, _, _, _, _⟩) rfl 34 (.tmp 14) (.tmp 57) rfl w4.heap.size (mcells m0) ?sx ?sy 34 ?old ?sg ?si ?so ?s1 ?_); (case sx => rfl); (case sy => rfl); (case old => exact #[.int .i64 0, .int .i64 0, .int .i64 0, .int .i64 0, .int .i64 0, .int .i64 0, .int .i64 0, .int .i64 0, .int .i64 0, .int .i64 0, .int .i64 0, .int .i64 0, .int .i64 0, .bool false, .bool false]); (case sg => exact heap_alloc_new w4 _); (case si => kernel_rfl); (case so => rfl); (case s1 => kernel_rfl); generalize (w4.alloc (.cells #[.int .i64 0, .int .i64 0, .int .i64 0, .int .i64 0, .int .i64 0, .int .i64 0, .int .i64 0, .int .i64 0, .int .i64 0, .int .i64 0, .int .i64 0, .int .i64 0, .int .i64 0, .bool false, .bool false] 34)).setRow w4.heap.size (mcells m0) = w5 at *; generalize w4.heap.size = k4 at *)
        refine (H2.out.grant line n HC.out).mono ?_
        rintro e w6 ⟨rfl, ho⟩
        have H3 := Lib.hid (ho.more (k' := 1 + 2 * ((i + 1 : Nat) : Int)) (by omega))
        clear ho H2 HC
        go_wp2_with fail
        go_roundw
        case rel => exact ⟨i + 1, by omega, by go_num, H3.out⟩
        case measure => simp [intOf]; omega
      · have HC := Lib.hid (stt_ack (line := line) (g := true) (d := d) hlt hia)
        have hib : ((i : Int) == (a : Int)) = false := by simp; omega
        clear hia
        go_wp2_with ((with_reducible refine wpList_store_row (o := ⟨none, _, _, _, _, _⟩) rfl 34 (.tmp 14) (.tmp 57) rfl w4.heap.size (mcells m0) ?sx ?sy 34 ?old ?sg ?si ?so ?s1 ?_); (case sx => rfl); (case sy => rfl); (case old => exact #[.int .i64 0, .int .i64 0, .int .i64 0, .int .i64 0, .int .i64 0, .int .i64 0, .int .i64 0, .int .i64 0, .int .i64 0, .int .i64 0, .int .i64 0, .int .i64 0, .int .i64 0, .bool false, .bool false]); (case sg => exact heap_alloc_new w4 _); (case si => kernel_rfl); (case so => rfl); (case s1 => kernel_rfl); generalize (w4.alloc (.cells #[.int .i64 0, .int .i64 0, .int .i64 0, .int .i64 0, .int .i64 0, .int .i64 0, .int .i64 0, .int .i64 0, .int .i64 0, .int .i64 0, .int .i64 0, .int .i64 0, .int .i64 0, .bool false, .bool false] 34)).setRow w4.heap.size (mcells m0) = w5 at *; generalize w4.heap.size = k4 at *)
        refine (H2.out.ack (by omega) line HC.out).mono ?_
        rintro e w6 ⟨rfl, ho⟩
        have H3 := Lib.hid (ho.more (k' := 1 + 2 * ((i + 1 : Nat) : Int)) (by omega))
        clear ho H2 HC hib
        go_wp2_with fail
        go_roundw
        case rel => exact ⟨i + 1, by omega, by go_num, H3.out⟩
        case measure => simp [intOf]; omega
    · have hlt' : ¬ (i : Int) ≤ (n : Int) := by omega
      obtain rfl : i = n + 1 := by omega
      have HZ := H1
      rw [stt_end hle] at HZ
      clear H1 hi hlt
      have h9 := HZ.out.box (List.mem_cons_self ..)
      have HW2 : Hid (Own w b 1 (1 + 2 * ((n + 1 : Nat) : Int)) [endM line n ⟨0, 0, 0, 0, 0, 0, 0, 0⟩ true] [(w.heap.size, .cells #[.int .i64 0, .int .i64 0, .int .i64 0, .int .i64 0, .int .i64 0, .int .i64 0, .int .i64 0, .int .i64 0] 32 (0, 0))] (wr.setRow w.heap.size #[.int .i64 0, .int .i64 0, .int .i64 0, .int .i64 0, .int .i64 0, .int .i64 0, .int .i64 0, .int .i64 0])) := Lib.hid HZ.out.setRow
      clear HZ
      go_wp2_with ((with_reducible refine wpList_store_row (o := ⟨none, _, _, _, _, _⟩) rfl 32 (.tmp 9) (.tmp 84) rfl w.heap.size (#[.int .i64 0, .int .i64 0, .int .i64 0, .int .i64 0, .int .i64 0, .int .i64 0, .int .i64 0, .int .i64 0]) ?sx ?sy 32 ?old ?sg ?si ?so ?s1 ?_); (case sx => rfl); (case sy => rfl); (case old => exact dcells d); (case sg => exact h9); (case si => kernel_rfl); (case so => rfl); (case s1 => kernel_rfl); clear h9; generalize wr.setRow w.heap.size #[.int .i64 0, .int .i64 0, .int .i64 0, .int .i64 0, .int .i64 0, .int .i64 0, .int .i64 0, .int .i64 0] = wz at *)
      refine (HW2.out.owe line end_owe).mono ?_
      rintro e w4 ⟨rfl, ho⟩
      have H3 := Lib.hid (ho.addRow #[.int .i64 0, .int .i64 0, .int .i64 0, .int .i64 0, .int .i64 0, .int .i64 0, .int .i64 0, .int .i64 0, .int .i64 0, .int .i64 0, .int .i64 0, .int .i64 0, .int .i64 0, .bool false, .bool false] (mcells (endM line n ⟨0, 0, 0, 0, 0, 0, 0, 0⟩ true)) 34)
      clear ho HW2
      have hq := HQ.out
      go_wp2_with ((with_reducible refine wpList_store_row (o := ⟨none, _, _, _, _, _⟩) rfl 34 (.tmp 17) (.tmp 89) rfl w4.heap.size (mcells (endM line n ⟨0, 0, 0, 0, 0, 0, 0, 0⟩ true)) ?sx ?sy 34 ?old ?sg ?si ?so ?s1 ?_); (case sx => rfl); (case sy => rfl); (case old => exact #[.int .i64 0, .int .i64 0, .int .i64 0, .int .i64 0, .int .i64 0, .int .i64 0, .int .i64 0, .int .i64 0, .int .i64 0, .int .i64 0, .int .i64 0, .int .i64 0, .int .i64 0, .bool false, .bool false]); (case sg => exact heap_alloc_new w4 _); (case si => kernel_rfl); (case so => rfl); (case s1 => kernel_rfl); generalize (w4.alloc (.cells #[.int .i64 0, .int .i64 0, .int .i64 0, .int .i64 0, .int .i64 0, .int .i64 0, .int .i64 0, .int .i64 0, .int .i64 0, .int .i64 0, .int .i64 0, .int .i64 0, .int .i64 0, .bool false, .bool false] 34)).setRow w4.heap.size (mcells (endM line n ⟨0, 0, 0, 0, 0, 0, 0, 0⟩ true)) = w5 at *; generalize w4.heap.size = k4 at *; have hA := H3.out.cells (List.mem_cons_self ..); have hB := H3.out.cells (List.mem_cons_of_mem _ (List.mem_cons_self ..)))
      refine (H3.out.ack (by omega) line end_ack).mono ?_
      rintro e w6 ⟨rfl, ho⟩
      have H4 := Lib.hid ho
      clear ho H3 hA hB hq
      go_wp2_with fail
      refine (H4.out.close line end_close).mono ?_
      rintro e w7 ⟨rfl, ho⟩
      have H5 := Lib.hid ho.bl
      clear ho H4
      go_wp2
      go_ret
      exact ⟨rfl, H5.out⟩

set_option maxRecDepth 100000 in
set_option maxHeartbeats 4000000 in
theorem order_false (line : Int) (n a : Nat) (d : Wd) (w : World) (hn : n ≤ 63) (hle : a ≤ n) :
    Calls Try.prog 5 #[.int .i64 line, .int .i64 n, .int .i64 a, .bool false, .agg (dcells d)] w fun e w' => e = .returned (.bool true) ∧ Below w.heap.size w w' := by
  have hq : ∀ w, (binOp .eql 34 (.agg #[.int .i64 line, .int .i64 2, .int .i64 n, .int .i64 n, .int .i64 4, .int .i64 d.w0, .int .i64 d.w1, .int .i64 d.w2, .int .i64 d.w3, .int .i64 d.w4, .int .i64 d.w5, .int .i64 d.w6, .int .i64 d.w7, .bool false, .bool false]) (.agg #[.int .i64 line, .int .i64 2, .int .i64 n, .int .i64 n, .int .i64 4, .int .i64 d.w0, .int .i64 d.w1, .int .i64 d.w2, .int .i64 d.w3, .int .i64 d.w4, .int .i64 d.w5, .int .i64 d.w6, .int .i64 d.w7, .bool false, .bool false])).run Try.prog w = .ok (.bool true) w := fun w => miss_eql (endM line n d false) w
  have HQ := Lib.hid hq
  clear hq
  have g1 : ¬ (n : Int) < 0 := by omega
  have g2 : ¬ 63 < (n : Int) := by omega
  have g3 : ¬ (a : Int) < 0 := by omega
  have g4 : ¬ (n : Int) < (a : Int) := by omega
  go_enter Try.func5, Try.ntmps5
  go_wp2_with fail
  refine (awake_any _).mono ?_
  rintro e w1 ⟨rfl, hb⟩
  have HB := Lib.hid (bbox hb)
  have H0 := Lib.hid (box_at hb)
  clear hb
  go_wp2_with fail
  refine (newB (w := w) (room := 1) (bx := [(w.heap.size, .cells (dcells d) 32 (0, 0))]) (by decide) (by decide) HB.out (fun p hp => by
    obtain rfl : p = (w.heap.size, .cells (dcells d) 32 (0, 0)) := by simpa using hp
    exact ⟨H0.out, Nat.le_refl _⟩) (by simp)).mono ?_
  rintro e w2 ⟨b, rfl, ho⟩
  have H1 := Lib.hid ho
  clear ho HB H0
  go_wp2_with fail
  refine (H1.out.open line 2 (open1 (n := n) (a := a) (g := false) (d := d))).mono ?_
  rintro e w3 ⟨rfl, ho⟩
  have H2 := Lib.hid ho
  clear ho H1
  go_wp2
  go_loopw [13] (fun t wr => ∃ i : Nat, i ≤ n + 1 ∧ t = .int .i64 i ∧ Own w b 1 (1 + 2 * (i : Int)) [stt line n a false d i] [(w.heap.size, .cells (dcells d) 32 (0, 0))] wr) (fun t _ => n + 1 - (intOf t).toNat)
  case atStart => exact ⟨0, by omega, rfl, H2.out⟩
  case round =>
    obtain ⟨i, hi, rfl, ho⟩ := hrel
    have H1 := Lib.hid ho
    clear ho H2
    by_cases hlt : i ≤ n
    · have hlt' : (i : Int) ≤ (n : Int) := by omega
      have HO := Lib.hid (stt_owe (line := line) (a := a) (g := false) (d := d) hlt)
      go_wp2_with fail
      refine (H1.out.owe line HO.out).mono ?_
      rintro e w4 ⟨rfl, ho⟩
      have H2 := Lib.hid (ho.step (below_box w4 (.cells #[.int .i64 0, .int .i64 0, .int .i64 0, .int .i64 0, .int .i64 0, .int .i64 0, .int .i64 0, .int .i64 0, .int .i64 0, .int .i64 0, .int .i64 0, .int .i64 0, .int .i64 0, .bool false, .bool false] 34) (mcells m0)))
      clear ho H1 HO
      by_cases hia : i = a
      · subst hia
        have HC := Lib.hid (stt_data (line := line) (d := d) hle)
        go_wp2_with ((with_reducible refine wpList_store_row (o := ⟨none, _, _, _, _, _⟩) rfl 34 (.tmp 14) (.tmp 57) rfl w4.heap.size (mcells m0) ?sx ?sy 34 ?old ?sg ?si ?so ?s1 ?_); (case sx => rfl); (case sy => rfl); (case old => exact #[.int .i64 0, .int .i64 0, .int .i64 0, .int .i64 0, .int .i64 0, .int .i64 0, .int .i64 0, .int .i64 0, .int .i64 0, .int .i64 0, .int .i64 0, .int .i64 0, .int .i64 0, .bool false, .bool false]); (case sg => exact heap_alloc_new w4 _); (case si => kernel_rfl); (case so => rfl); (case s1 => kernel_rfl); generalize (w4.alloc (.cells #[.int .i64 0, .int .i64 0, .int .i64 0, .int .i64 0, .int .i64 0, .int .i64 0, .int .i64 0, .int .i64 0, .int .i64 0, .int .i64 0, .int .i64 0, .int .i64 0, .int .i64 0, .bool false, .bool false] 34)).setRow w4.heap.size (mcells m0) = w5 at *; generalize w4.heap.size = k4 at *; have hcw := H2.out.cells (List.mem_cons_self ..))
        refine (H2.out.data line n 4 d HC.out).mono ?_
        rintro e w6 ⟨rfl, ho⟩
        have H3 := Lib.hid (ho.more (k' := 1 + 2 * ((i + 1 : Nat) : Int)) (by omega))
        clear ho H2 HC hcw
        go_wp2_with fail
        go_roundw
        case rel => exact ⟨i + 1, by omega, by go_num, H3.out⟩
        case measure => simp [intOf]; omega
      · have HC := Lib.hid (stt_ack (line := line) (g := false) (d := d) hlt hia)
        have hib : ((i : Int) == (a : Int)) = false := by simp; omega
        clear hia
        go_wp2_with ((with_reducible refine wpList_store_row (o := ⟨none, _, _, _, _, _⟩) rfl 34 (.tmp 14) (.tmp 57) rfl w4.heap.size (mcells m0) ?sx ?sy 34 ?old ?sg ?si ?so ?s1 ?_); (case sx => rfl); (case sy => rfl); (case old => exact #[.int .i64 0, .int .i64 0, .int .i64 0, .int .i64 0, .int .i64 0, .int .i64 0, .int .i64 0, .int .i64 0, .int .i64 0, .int .i64 0, .int .i64 0, .int .i64 0, .int .i64 0, .bool false, .bool false]); (case sg => exact heap_alloc_new w4 _); (case si => kernel_rfl); (case so => rfl); (case s1 => kernel_rfl); generalize (w4.alloc (.cells #[.int .i64 0, .int .i64 0, .int .i64 0, .int .i64 0, .int .i64 0, .int .i64 0, .int .i64 0, .int .i64 0, .int .i64 0, .int .i64 0, .int .i64 0, .int .i64 0, .int .i64 0, .bool false, .bool false] 34)).setRow w4.heap.size (mcells m0) = w5 at *; generalize w4.heap.size = k4 at *)
        refine (H2.out.ack (by omega) line HC.out).mono ?_
        rintro e w6 ⟨rfl, ho⟩
        have H3 := Lib.hid (ho.more (k' := 1 + 2 * ((i + 1 : Nat) : Int)) (by omega))
        clear ho H2 HC hib
        go_wp2_with fail
        go_roundw
        case rel => exact ⟨i + 1, by omega, by go_num, H3.out⟩
        case measure => simp [intOf]; omega
    · have hlt' : ¬ (i : Int) ≤ (n : Int) := by omega
      obtain rfl : i = n + 1 := by omega
      have HZ := H1
      rw [stt_end hle] at HZ
      clear H1 hi hlt
      have HW2 : Hid (Own w b 1 (1 + 2 * ((n + 1 : Nat) : Int)) [endM line n d false] [(w.heap.size, .cells (dcells d) 32 (0, 0))] wr) := Lib.hid HZ.out
      clear HZ
      go_wp2_with fail
      refine (HW2.out.owe line end_owe).mono ?_
      rintro e w4 ⟨rfl, ho⟩
      have H3 := Lib.hid (ho.addRow #[.int .i64 0, .int .i64 0, .int .i64 0, .int .i64 0, .int .i64 0, .int .i64 0, .int .i64 0, .int .i64 0, .int .i64 0, .int .i64 0, .int .i64 0, .int .i64 0, .int .i64 0, .bool false, .bool false] (mcells (endM line n d false)) 34)
      clear ho HW2
      have hq := HQ.out
      go_wp2_with ((with_reducible refine wpList_store_row (o := ⟨none, _, _, _, _, _⟩) rfl 34 (.tmp 17) (.tmp 89) rfl w4.heap.size (mcells (endM line n d false)) ?sx ?sy 34 ?old ?sg ?si ?so ?s1 ?_); (case sx => rfl); (case sy => rfl); (case old => exact #[.int .i64 0, .int .i64 0, .int .i64 0, .int .i64 0, .int .i64 0, .int .i64 0, .int .i64 0, .int .i64 0, .int .i64 0, .int .i64 0, .int .i64 0, .int .i64 0, .int .i64 0, .bool false, .bool false]); (case sg => exact heap_alloc_new w4 _); (case si => kernel_rfl); (case so => rfl); (case s1 => kernel_rfl); generalize (w4.alloc (.cells #[.int .i64 0, .int .i64 0, .int .i64 0, .int .i64 0, .int .i64 0, .int .i64 0, .int .i64 0, .int .i64 0, .int .i64 0, .int .i64 0, .int .i64 0, .int .i64 0, .int .i64 0, .bool false, .bool false] 34)).setRow w4.heap.size (mcells (endM line n d false)) = w5 at *; generalize w4.heap.size = k4 at *; have hA := H3.out.cells (List.mem_cons_self ..); have hB := H3.out.cells (List.mem_cons_of_mem _ (List.mem_cons_self ..)))
      refine (H3.out.ack (by omega) line end_ack).mono ?_
      rintro e w6 ⟨rfl, ho⟩
      have H4 := Lib.hid ho
      clear ho H3 hA hB hq
      go_wp2_with fail
      refine (H4.out.close line end_close).mono ?_
      rintro e w7 ⟨rfl, ho⟩
      have H5 := Lib.hid ho.bl
      clear ho H4
      go_wp2
      go_ret
      exact ⟨rfl, H5.out⟩

set_option maxRecDepth 100000 in
set_option maxHeartbeats 1000000 in
theorem order_out (line acks ahead : Int) (g : Bool) (d : Wd) (w : World) (h : acks < 0 ∨ 63 < acks ∨ ahead < 0 ∨ acks < ahead) :
    Calls Try.prog 5 #[.int .i64 line, .int .i64 acks, .int .i64 ahead, .bool g, .agg (dcells d)] w fun e w' => e = .returned (.bool true) ∧ Below w.heap.size w w' := by
  have hs : acks < 0 ∨ (¬ acks < 0 ∧ 63 < acks) ∨ (¬ acks < 0 ∧ ¬ 63 < acks ∧ ahead < 0) ∨ (¬ acks < 0 ∧ ¬ 63 < acks ∧ ¬ ahead < 0 ∧ acks < ahead) := by omega
  clear h
  rcases hs with h1 | ⟨h1, h2⟩ | ⟨h1, h2, h3⟩ | ⟨h1, h2, h3, h4⟩
  all_goals
    go_enter Try.func5, Try.ntmps5
    go_wp2_with fail
    refine (awake_any _).mono ?_
    rintro e w1 ⟨rfl, hb⟩
    have HB := Lib.hid (bbox hb)
    clear hb
    go_wp2
    go_ret
    exact ⟨rfl, HB.out⟩
theorem mshrOrder_any (line acks ahead : Int) (g : Bool) (d : Wd) (w : World) :
    Calls Try.prog 5 #[.int .i64 line, .int .i64 acks, .int .i64 ahead, .bool g, .agg (dcells d)] w fun e w' => e = .returned (.bool true) ∧ Below w.heap.size w w' := by
  by_cases h : acks < 0 ∨ 63 < acks ∨ ahead < 0 ∨ acks < ahead
  · exact order_out line acks ahead g d w h
  · obtain ⟨n, rfl⟩ : ∃ n : Nat, acks = n := ⟨acks.toNat, by omega⟩
    obtain ⟨a, rfl⟩ : ∃ a : Nat, ahead = a := ⟨ahead.toNat, by omega⟩
    cases g
    · exact order_false line n a d w (by omega) (by omega)
    · exact order_true line n a d w (by omega) (by omega)

end Go.Proofs.Ytcfcgejeiihgnaa
