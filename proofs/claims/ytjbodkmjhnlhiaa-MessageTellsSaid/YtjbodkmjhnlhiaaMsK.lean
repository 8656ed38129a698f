/-
  What write and Put do, the program's.
-/
import Derived.Test.YtjbodkmjhnlhiaaMsF
import Derived.Test.YtjbodkmjhnlhiaaMsJ
import Derived.Test.YtjbodkmjhnlhiaaMsH
namespace Go.Proofs.Ytjbodkmjhnlhiaa
open Go Go.RowKit

theorem K2.high {w w1 w2 : World} {A B : Array Value} (h : K2 w A B w1) (hb : Below (w.heap.size + 2) w1 w2) : K2 w A B w2 where
  a := fun o => (hb.cell (p := ⟨w.heap.size, o, none⟩) (by simp)).trans (h.a o)
  b := fun o => (hb.cell (p := ⟨w.heap.size + 1, o, none⟩) (by simp)).trans (h.b o)
  lt := Nat.lt_of_lt_of_le h.lt hb.size
  below := h.below.trans (hb.mono (by omega))
theorem head_cells {m : Msg} (h1 : 1 ≤ m.kd ∧ m.kd ≤ 11) (h2 : 0 ≤ m.ln ∧ m.ln < 1024) (h3 : 0 ≤ m.fr ∧ m.fr < 64) (h4 : 0 ≤ m.to ∧ m.to < 64) (h5 : 0 ≤ m.wh ∧ m.wh < 64) (h6 : 0 ≤ m.ac ∧ m.ac < 64) (h7 : 0 ≤ m.ow ∧ m.ow ≤ 4) :
    Lib.byteCells (headB m) = [.int .u8 m.kd, .int .u8 (m.ln / 256), .int .u8 (m.ln % 256), .int .u8 m.fr, .int .u8 m.to, .int .u8 m.wh, .int .u8 m.ac, .int .u8 m.ow] := by
  simp only [Lib.byteCells, headB, List.map_cons, List.map_nil]
  rw [u8_to (by omega) (by omega), u8_to (by omega) (by omega), u8_to (by omega) (by omega), u8_to (by omega) (by omega), u8_to (by omega) (by omega), u8_to (by omega) (by omega), u8_to (by omega) (by omega), u8_to (by omega) (by omega)]

/-- The first words of a message's block, as a slice. -/
theorem slice_words (b N : Nat) (hN : N ≤ 8) (w : World) : (Instr.sliceAt 26 (.pointer (some ⟨b, 7, none⟩)) none (some (.int .i64 (N : Int))) none).run Try.prog w = .ok (.slice (some ⟨b, 7, none⟩) N 8) w := by
  rcases (show N = 0 ∨ N = 1 ∨ N = 2 ∨ N = 3 ∨ N = 4 ∨ N = 5 ∨ N = 6 ∨ N = 7 ∨ N = 8 by omega) with rfl | rfl | rfl | rfl | rfl | rfl | rfl | rfl | rfl
  all_goals kernel_rfl

set_option maxRecDepth 100000 in
set_option maxHeartbeats 4000000 in
theorem write_any (c : Cfg) (m : Msg) (w : World) (hm : mayM c m = true) :
    Calls Try.prog 17 #[cv c, mv m] w fun e w' => e = .returned (.string ⟨(bytesM c m).toArray⟩) ∧ Below w.heap.size w w' := by
  obtain ⟨g1, g2, g3, g4, g5, g6, g7⟩ := may_bytes hm
  obtain ⟨ho, _, hk, _, hw⟩ := may_all hm
  have HK := Lib.hid hk
  have hn := nw_bound ho m.kd
  have HW := Lib.hid hw
  have HN : Hid (((nw c m.kd).toNat : Int) = nw c m.kd) := Lib.hid (by omega)
  have HB : Hid (bytesM c m = headB m ++ wordsL m (nw c m.kd).toNat) := Lib.hid rfl
  have HC := Lib.hid (head_cells g1 g2 g3 g4 g5 g6 g7)
  have a1 : m.kd ≤ 255 := by omega
  have a2 : 0 ≤ m.kd := by omega
  obtain ⟨b1, b2⟩ := g2
  obtain ⟨c1, c2⟩ := g3
  obtain ⟨d1, d2⟩ := g4
  obtain ⟨e1, e2⟩ := g5
  obtain ⟨f1, f2⟩ := g6
  obtain ⟨k1, k2⟩ := g7
  obtain ⟨n1, n2⟩ := hn
  have KK := K2.box w (ccells c) (mcells m) 24 28
  clear hm ho hk hw g1
  go_enter Try.func17, Try.ntmps17
  go_wp2_with (fail)
  refine (ruleOf_any _ _).mono ?_
  rintro e w2 ⟨rfl, rfl⟩
  rw [HK.out]
  have K0 := KK.step ((Below.refl _ _).alloc (Nat.le_refl _) (.cells #[.int .u8 m.kd, .int .u8 (m.ln / 256), .int .u8 (m.ln % 256), .int .u8 m.fr, .int .u8 m.to, .int .u8 m.wh, .int .u8 m.ac, .int .u8 m.ow] 5))
  have T0 : Hid (Txt (((w.alloc (.cells (ccells c) 24)).alloc (.cells (mcells m) 28)).alloc (.cells #[.int .u8 m.kd, .int .u8 (m.ln / 256), .int .u8 (m.ln % 256), .int .u8 m.fr, .int .u8 m.to, .int .u8 m.wh, .int .u8 m.ac, .int .u8 m.ow] 5)) (w.heap.size + 2) (.slice (some ⟨w.heap.size + 1 + 1, 0, none⟩) 8 8) (headB m)) := Lib.hid (by
    have h := World.ownsRow_lit (base := w.heap.size + 2) (e := 5) (size := 1) ((w.alloc (.cells (ccells c) 24)).alloc (.cells (mcells m) 28)) #[.int .u8 m.kd, .int .u8 (m.ln / 256), .int .u8 (m.ln % 256), .int .u8 m.fr, .int .u8 m.to, .int .u8 m.wh, .int .u8 m.ac, .int .u8 m.ow] 8 (by simp) (by unfold maxLen; omega) rfl
    rw [show ((w.alloc (.cells (ccells c) 24)).alloc (.cells (mcells m) 28)).heap.size = w.heap.size + 1 + 1 by simp] at h
    unfold Txt
    rw [HC.out]
    exact h)
  clear KK
  go_wp2_with (fail)
  refine (wordsOf_any m.kd c _ HK.out).mono ?_
  rintro e wA ⟨rfl, hb4⟩
  have K4 := K0.step hb4
  have T4 : Hid (Txt wA (w.heap.size + 2) (.slice (some ⟨w.heap.size + 1 + 1, 0, none⟩) 8 8) (headB m ++ wordsL m 0)) := Lib.hid (by
    have h : Txt wA (w.heap.size + 2) (.slice (some ⟨w.heap.size + 1 + 1, 0, none⟩) 8 8) (headB m) := own_below T0.out hb4
    rw [show wordsL m 0 = [] from rfl, List.append_nil]
    exact h)
  clear hb4 K0 T0
  obtain ⟨N, hN⟩ : ∃ N : Nat, nw c m.kd = N := ⟨_, HN.out.symm⟩
  have HBT : Hid (bytesM c m = headB m ++ wordsL m N) := Lib.hid (by rw [HB.out, hN]; rfl)
  have HW2 : Hid (∀ k, k < 8 → -2147483648 ≤ m.wd k ∧ m.wd k ≤ 2147483647) := Lib.hid (fun k hk => by have := word_all HW.out k hk; exact ⟨this.1, this.2.1⟩)
  rw [hN] at n1 n2
  rw [hN]
  have hn8 : N ≤ 8 := by omega
  have hsl := slice_words (w.heap.size + 1) N hn8
  clear HN HB HW hN HC n1 n2
  go_wp2
  go_loopw [5, 48] (fun t i wr => ∃ k : Nat, k ≤ N ∧ i = .int .i64 k ∧ Hid (Txt wr (w.heap.size + 2) t (headB m ++ wordsL m k)) ∧ K2 w (ccells c) (mcells m) wr) (fun _ i _ => N - (intOf i).toNat)
  case atStart => exact ⟨0, Nat.zero_le _, rfl, T4, K4⟩
  case round =>
    obtain ⟨k, hk, rfl, HX, K5⟩ := hrel
    have hs5 := K5.lt
    by_cases hlt : k < N
    · have hb5 := (K5.b (7 + k)).trans (word_cell m k (by omega))
      obtain ⟨x1, x2⟩ := HW2.out k (by omega)
      have HTK : Hid ((headB m ++ wordsL m k) ++ w4 (m.wd k) = headB m ++ wordsL m (k + 1)) := Lib.hid (by rw [wordsL_more, List.append_assoc])
      have hlen : (headB m ++ wordsL m k).length ≤ 100 := by
        rw [List.length_append, head_len, wordsL_len]
        omega
      generalize m.wd k = x at *
      generalize headB m ++ wordsL m k = bs at *
      go_wp2_with (go_at_call 26; refine (word_append (w.heap.size + 2) _ bs x wr HX.out (by omega) hlen x1 x2).mono ?_; rintro e w6 ⟨v6, rfl, hx6, hb6⟩)
      have K6 := K5.high hb6
      have T6 : Hid (Txt w6 (w.heap.size + 2) v6 (headB m ++ wordsL m (k + 1))) := Lib.hid (by rw [← HTK.out]; exact hx6)
      clear hx6 hb6 hb5
      go_roundw
      case rel => exact ⟨k + 1, by omega, by go_num, T6, K6⟩
      case measure => simp [intOf]; omega
    · have HXF : Hid (Txt wr (w.heap.size + 2) _ (bytesM c m)) := Lib.hid (by
        have e := HX.out
        rw [show k = N by omega] at e
        rw [HBT.out]
        exact e)
      have hl8 : 8 ≤ (bytesM c m).length := by rw [bytesM_len]; omega
      clear HX HBT
      obtain ⟨bs, hbs⟩ : ∃ bs, bs = bytesM c m := ⟨_, rfl⟩
      rw [← hbs] at HXF hl8
      have HB := Lib.hid hbs
      clear hbs
      rcases HXF.out.2 with ⟨rfl, h0⟩ | ⟨g, cap', cur, rfl, -, -, -, -, -, -⟩
      · omega
      · have hcv := run_convert_bytes_back (P := Try.prog) wr 40 9 5 ⟨g, 0, none⟩ cap' bs Try.underlying40 Try.underlying5 Try.underlying9 (fun j hj => HXF.out.cells (g := g) rfl j _ (by simp [Lib.byteCells, hj]))
        go_wp2
        go_ret
        exact ⟨by rw [← HB.out]; rfl, K5.below⟩

/-- What a call gives that tells bytes and an error's number. -/
def RetB (w : World) (b : List UInt8) (n : Int) (e : Ending) (w' : World) : Prop := e = .returned (.tuple #[.string ⟨b.toArray⟩, .int .i64 n]) ∧ Below w.heap.size w w'

set_option maxRecDepth 100000 in
set_option maxHeartbeats 2000000 in
/-- Put, the program's. -/
theorem put_any (c : Cfg) (m : Msg) (w : World) (hcf : c.fits) :
    Calls Try.prog 7 #[cv c, mv m] w (RetB w (putM c m).1 (putM c m).2) := by
  have HC := Lib.hid hcf
  have K0 := K2.box w (ccells c) (mcells m) 24 28
  clear hcf
  rcases Bool.eq_false_or_eq_true (mayM c m) with h | h
  · have HE : Hid (putM c m = (bytesM c m, 0)) := Lib.hid (by unfold putM; rw [if_pos h])
    have H := Lib.hid h
    clear h
    go_enter Try.func7, Try.ntmps7
    go_wp2_with (fail)
    refine (may_any c m _ HC.out).mono ?_
    rintro e w1 ⟨rfl, hb1⟩
    rw [H.out]
    have K1 := K0.step hb1
    have ha := K1.a; have hb := K1.b
    clear hb1 K0
    go_wp2_with (fail)
    refine (write_any c m _ H.out).mono ?_
    rintro e w2 ⟨rfl, hb2⟩
    go_wp2
    go_ret2
    exact ⟨by rw [HE.out]; rfl, bstep K1.below hb2⟩
  · have HE : Hid (putM c m = ([], 1)) := Lib.hid (by unfold putM; rw [h]; rfl)
    have H := Lib.hid h
    clear h
    go_enter Try.func7, Try.ntmps7
    go_wp2_with (fail)
    refine (may_any c m _ HC.out).mono ?_
    rintro e w1 ⟨rfl, hb1⟩
    rw [H.out]
    have K1 := K0.step hb1
    clear hb1 K0
    go_wp2
    go_ret2
    exact ⟨by rw [HE.out]; rfl, K1.below⟩

end Go.Proofs.Ytjbodkmjhnlhiaa
