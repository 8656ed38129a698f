/-
  What the document's own Put does.
-/
import Derived.Test.YtjbodkmjhnlhiaaMsK
import Derived.Test.YtjbodkmjhnlhiaaMsG
namespace Go.Proofs.Ytjbodkmjhnlhiaa
open Go Go.RowKit

set_option maxRecDepth 100000 in
set_option maxHeartbeats 4000000 in
theorem refPut_3 (c : Cfg) (m : Msg) (w : World) (hm : mayM c m = true) (h3 : (m.kd == 3) = true)
    (hMay : ∀ w, Calls Try.prog 16 #[cv c, mv m] w fun e w' => e = .returned (.bool (mayM c m)) ∧ Below w.heap.size w w') :
    Calls Try.prog 8 #[cv c, mv m] w (RetB w (bytesM c m) 0) := by
  obtain ⟨i0, hi0, hz0, hz1, hz2⟩ := info_parts infoByte
  obtain ⟨g1, g2, g3, g4, g5, g6, g7⟩ := may_bytes hm
  obtain ⟨ho, _, hk, _, hw⟩ := may_all hm
  have HMM := Lib.hid hm
  have HM := Lib.hid hMay
  have hs := (ok_sizes ho).2.2.1
  have s1 := hs.1
  have s2 := hs.2
  have HC := Lib.hid (head_cells g1 g2 g3 g4 g5 g6 g7)
  have HW2 : Hid (∀ k, k < 8 → -2147483648 ≤ m.wd k ∧ m.wd k ≤ 2147483647) := Lib.hid (fun k hk => by have := word_all hw k hk; exact ⟨this.1, this.2.1⟩)
  have a1 : m.kd ≤ 255 := by omega
  have a2 : 0 ≤ m.kd := by omega
  obtain ⟨b1, b2⟩ := g2
  obtain ⟨c1, c2⟩ := g3
  obtain ⟨d1, d2⟩ := g4
  obtain ⟨e1, e2⟩ := g5
  obtain ⟨f1, f2⟩ := g6
  obtain ⟨k1, k2⟩ := g7
  have KK := K2.box w (ccells c) (mcells m) 24 28
  have HBT : Hid (bytesM c m = headB m ++ wordsL m c.wo.toNat) := Lib.hid (by unfold bytesM nw; rw [if_pos (by left; simpa using h3)])
  clear hm ho hk hw g1 hs hMay
  go_enter Try.func8, Try.ntmps8
  go_wp2_with (fail)
  refine (HM.out _).mono ?_
  rintro e w1 ⟨rfl, hb1⟩
  rw [HMM.out]
  have K1 := KK.step hb1
  have ha := K1.a; have hb := K1.b
  clear hb1 KK
  have K2' := K1.step ((Below.refl _ _).alloc (Nat.le_refl _) (.cells #[.int .u8 m.kd, .int .u8 (m.ln / 256), .int .u8 (m.ln % 256), .int .u8 m.fr, .int .u8 m.to, .int .u8 m.wh, .int .u8 m.ac, .int .u8 m.ow] 5))
  have hlt1 := K1.lt
  have T0 : Hid (Txt (w1.alloc (.cells #[.int .u8 m.kd, .int .u8 (m.ln / 256), .int .u8 (m.ln % 256), .int .u8 m.fr, .int .u8 m.to, .int .u8 m.wh, .int .u8 m.ac, .int .u8 m.ow] 5)) (w.heap.size + 2) (.slice (some ⟨w1.heap.size, 0, none⟩) 8 8) (headB m ++ wordsL m 0)) := Lib.hid (by
    have h := World.ownsRow_lit (base := w.heap.size + 2) (e := 5) (size := 1) w1 #[.int .u8 m.kd, .int .u8 (m.ln / 256), .int .u8 (m.ln % 256), .int .u8 m.fr, .int .u8 m.to, .int .u8 m.wh, .int .u8 m.ac, .int .u8 m.ow] 8 (by omega) (by unfold maxLen; omega) rfl
    rw [show wordsL m 0 = [] from rfl, List.append_nil]
    unfold Txt
    rw [HC.out]
    exact h)
  clear HC K1
  go_wp2
  clear ha hb
  go_loopw [6, 7] (fun t i wr => ∃ k : Nat, k ≤ c.wo.toNat ∧ i = .int .i64 k ∧ Hid (Txt wr (w.heap.size + 2) t (headB m ++ wordsL m k)) ∧ K2 w (ccells c) (mcells m) wr) (fun _ i _ => c.wo.toNat - (intOf i).toNat)
  case atStart => exact ⟨0, Nat.zero_le _, rfl, T0, K2'⟩
  case round =>
    obtain ⟨k, hk, rfl, HX, K5⟩ := hrel
    have hs5 := K5.lt
    have ha := K5.a
    have hb0 := (K5.b 0).trans (show (mcells m)[0]? = some (.int .i64 m.kd) from rfl)
    by_cases hlt : (k : Int) < c.wo
    · have hb5 := (K5.b (7 + k)).trans (word_cell m k (by omega))
      obtain ⟨x1, x2⟩ := HW2.out k (by omega)
      have HTK : Hid ((headB m ++ wordsL m k) ++ w4 (m.wd k) = headB m ++ wordsL m (k + 1)) := Lib.hid (by rw [wordsL_more, List.append_assoc])
      have hlen : (headB m ++ wordsL m k).length ≤ 100 := by
        rw [List.length_append, head_len, wordsL_len]
        omega
      generalize m.wd k = x at *
      generalize headB m ++ wordsL m k = bs at *
      by_cases hx : x < 0
      · skip
        have HC : Hid (Lib.byteCells (w4 x) = [.int .u8 ((x + 4294967296) / 16777216), .int .u8 ((x + 4294967296) / 65536 % 256), .int .u8 ((x + 4294967296) / 256 % 256), .int .u8 ((x + 4294967296) % 256)]) := Lib.hid (by rw [w4_cells x1 x2]; unfold unsig; rw [if_pos hx])
        have T5 := Lib.hid (HX.out.alloc (.cells #[.int .u8 ((x + 4294967296) / 16777216), .int .u8 ((x + 4294967296) / 65536 % 256), .int .u8 ((x + 4294967296) / 256 % 256), .int .u8 ((x + 4294967296) % 256)] 5))
        go_wp2_with (at_builtin; refine wpList_append_own _ rfl _ _ 40 rfl (w.heap.size + 2) 5 i0 (.int .u8 0) 1 1 Try.underlying40 hi0 hz0 hz1 hz2 rfl (by decide) _ _ _ rfl T5.out ⟨wr.heap.size, 0, none⟩ 4 4 [.int .u8 ((x + 4294967296) / 16777216), .int .u8 ((x + 4294967296) / 65536 % 256), .int .u8 ((x + 4294967296) / 256 % 256), .int .u8 ((x + 4294967296) % 256)] rfl rfl (World.news_of_block (cs := #[.int .u8 ((x + 4294967296) / 16777216), .int .u8 ((x + 4294967296) / 65536 % 256), .int .u8 ((x + 4294967296) / 256 % 256), .int .u8 ((x + 4294967296) % 256)]) (t := 5) (fr := (0, 0)) (heap_alloc_new wr _)) (by simp [Value.oneCell']) (by unfold maxLen; omega) (by omega) (by simp; omega) ?_)
        intro v6 w6 hown6 hg6 _
        have hb6 := (((Below.refl (w.heap.size + 2) wr).alloc (by omega) _)).trans (txt_grown T5.out (by simp; omega) hg6)
        have K6 := K5.high hb6
        have T6 : Hid (Txt w6 (w.heap.size + 2) v6 (headB m ++ wordsL m (k + 1))) := Lib.hid (by rw [← HTK.out]; exact Txt.plus (n := bs.length + 4) (by rw [w4_len]) (by rw [HC.out]; exact hown6))
        clear hown6 hg6 hb6 hb5 ha hb0
        go_wp2
        go_roundw
        case rel => exact ⟨k + 1, by omega, by go_num, T6, K6⟩
        case measure => simp [intOf]; omega
      · skip
        have HC : Hid (Lib.byteCells (w4 x) = [.int .u8 (x / 16777216), .int .u8 (x / 65536 % 256), .int .u8 (x / 256 % 256), .int .u8 (x % 256)]) := Lib.hid (by rw [w4_cells x1 x2]; unfold unsig; rw [if_neg hx])
        have T5 := Lib.hid (HX.out.alloc (.cells #[.int .u8 (x / 16777216), .int .u8 (x / 65536 % 256), .int .u8 (x / 256 % 256), .int .u8 (x % 256)] 5))
        go_wp2_with (at_builtin; refine wpList_append_own _ rfl _ _ 40 rfl (w.heap.size + 2) 5 i0 (.int .u8 0) 1 1 Try.underlying40 hi0 hz0 hz1 hz2 rfl (by decide) _ _ _ rfl T5.out ⟨wr.heap.size, 0, none⟩ 4 4 [.int .u8 (x / 16777216), .int .u8 (x / 65536 % 256), .int .u8 (x / 256 % 256), .int .u8 (x % 256)] rfl rfl (World.news_of_block (cs := #[.int .u8 (x / 16777216), .int .u8 (x / 65536 % 256), .int .u8 (x / 256 % 256), .int .u8 (x % 256)]) (t := 5) (fr := (0, 0)) (heap_alloc_new wr _)) (by simp [Value.oneCell']) (by unfold maxLen; omega) (by omega) (by simp; omega) ?_)
        intro v6 w6 hown6 hg6 _
        have hb6 := (((Below.refl (w.heap.size + 2) wr).alloc (by omega) _)).trans (txt_grown T5.out (by simp; omega) hg6)
        have K6 := K5.high hb6
        have T6 : Hid (Txt w6 (w.heap.size + 2) v6 (headB m ++ wordsL m (k + 1))) := Lib.hid (by rw [← HTK.out]; exact Txt.plus (n := bs.length + 4) (by rw [w4_len]) (by rw [HC.out]; exact hown6))
        clear hown6 hg6 hb6 hb5 ha hb0
        go_wp2
        go_roundw
        case rel => exact ⟨k + 1, by omega, by go_num, T6, K6⟩
        case measure => simp [intOf]; omega
    · skip
      have HXF : Hid (Txt wr (w.heap.size + 2) _ (bytesM c m)) := Lib.hid (by
        have e := HX.out
        rw [show k = c.wo.toNat by omega] at e
        rw [HBT.out]
        exact e)
      have hl8 : 8 ≤ (bytesM c m).length := by rw [bytesM_len]; omega
      clear HX HBT
      obtain ⟨bs, hbs⟩ : ∃ bs, bs = bytesM c m := ⟨_, rfl⟩
      rw [← hbs] at HXF hl8
      have HB := Lib.hid hbs
      clear hbs
      rcases HXF.out.2 with ⟨rfl, h0⟩ | ⟨g, cap', cur, rfl, -, -, -, -, -, -⟩
      · omega
      · have hcv := run_convert_bytes_back (P := Try.prog) wr 40 9 5 ⟨g, 0, none⟩ cap' bs Try.underlying40 Try.underlying5 Try.underlying9 (fun j hj => HXF.out.cells (g := g) rfl j _ (by simp [Lib.byteCells, hj]))
        go_wp2
        go_ret2
        exact ⟨by rw [← HB.out]; rfl, K5.below⟩

set_option maxRecDepth 100000 in
set_option maxHeartbeats 4000000 in
theorem refPut_7 (c : Cfg) (m : Msg) (w : World) (hm : mayM c m = true) (h3 : (m.kd == 3) = false) (h7 : (m.kd == 7) = true)
    (hMay : ∀ w, Calls Try.prog 16 #[cv c, mv m] w fun e w' => e = .returned (.bool (mayM c m)) ∧ Below w.heap.size w w') :
    Calls Try.prog 8 #[cv c, mv m] w (RetB w (bytesM c m) 0) := by
  obtain ⟨i0, hi0, hz0, hz1, hz2⟩ := info_parts infoByte
  obtain ⟨g1, g2, g3, g4, g5, g6, g7⟩ := may_bytes hm
  obtain ⟨ho, _, hk, _, hw⟩ := may_all hm
  have HMM := Lib.hid hm
  have HM := Lib.hid hMay
  have hs := (ok_sizes ho).2.2.1
  have s1 := hs.1
  have s2 := hs.2
  have HC := Lib.hid (head_cells g1 g2 g3 g4 g5 g6 g7)
  have HW2 : Hid (∀ k, k < 8 → -2147483648 ≤ m.wd k ∧ m.wd k ≤ 2147483647) := Lib.hid (fun k hk => by have := word_all hw k hk; exact ⟨this.1, this.2.1⟩)
  have a1 : m.kd ≤ 255 := by omega
  have a2 : 0 ≤ m.kd := by omega
  obtain ⟨b1, b2⟩ := g2
  obtain ⟨c1, c2⟩ := g3
  obtain ⟨d1, d2⟩ := g4
  obtain ⟨e1, e2⟩ := g5
  obtain ⟨f1, f2⟩ := g6
  obtain ⟨k1, k2⟩ := g7
  have KK := K2.box w (ccells c) (mcells m) 24 28
  have HBT : Hid (bytesM c m = headB m ++ wordsL m c.wo.toNat) := Lib.hid (by unfold bytesM nw; rw [if_pos (by right; simpa using h7)])
  clear hm ho hk hw g1 hs hMay
  go_enter Try.func8, Try.ntmps8
  go_wp2_with (fail)
  refine (HM.out _).mono ?_
  rintro e w1 ⟨rfl, hb1⟩
  rw [HMM.out]
  have K1 := KK.step hb1
  have ha := K1.a; have hb := K1.b
  clear hb1 KK
  have K2' := K1.step ((Below.refl _ _).alloc (Nat.le_refl _) (.cells #[.int .u8 m.kd, .int .u8 (m.ln / 256), .int .u8 (m.ln % 256), .int .u8 m.fr, .int .u8 m.to, .int .u8 m.wh, .int .u8 m.ac, .int .u8 m.ow] 5))
  have hlt1 := K1.lt
  have T0 : Hid (Txt (w1.alloc (.cells #[.int .u8 m.kd, .int .u8 (m.ln / 256), .int .u8 (m.ln % 256), .int .u8 m.fr, .int .u8 m.to, .int .u8 m.wh, .int .u8 m.ac, .int .u8 m.ow] 5)) (w.heap.size + 2) (.slice (some ⟨w1.heap.size, 0, none⟩) 8 8) (headB m ++ wordsL m 0)) := Lib.hid (by
    have h := World.ownsRow_lit (base := w.heap.size + 2) (e := 5) (size := 1) w1 #[.int .u8 m.kd, .int .u8 (m.ln / 256), .int .u8 (m.ln % 256), .int .u8 m.fr, .int .u8 m.to, .int .u8 m.wh, .int .u8 m.ac, .int .u8 m.ow] 8 (by omega) (by unfold maxLen; omega) rfl
    rw [show wordsL m 0 = [] from rfl, List.append_nil]
    unfold Txt
    rw [HC.out]
    exact h)
  clear HC K1
  go_wp2
  clear ha hb
  go_loopw [6, 7] (fun t i wr => ∃ k : Nat, k ≤ c.wo.toNat ∧ i = .int .i64 k ∧ Hid (Txt wr (w.heap.size + 2) t (headB m ++ wordsL m k)) ∧ K2 w (ccells c) (mcells m) wr) (fun _ i _ => c.wo.toNat - (intOf i).toNat)
  case atStart => exact ⟨0, Nat.zero_le _, rfl, T0, K2'⟩
  case round =>
    obtain ⟨k, hk, rfl, HX, K5⟩ := hrel
    have hs5 := K5.lt
    have ha := K5.a
    have hb0 := (K5.b 0).trans (show (mcells m)[0]? = some (.int .i64 m.kd) from rfl)
    by_cases hlt : (k : Int) < c.wo
    · have hb5 := (K5.b (7 + k)).trans (word_cell m k (by omega))
      obtain ⟨x1, x2⟩ := HW2.out k (by omega)
      have HTK : Hid ((headB m ++ wordsL m k) ++ w4 (m.wd k) = headB m ++ wordsL m (k + 1)) := Lib.hid (by rw [wordsL_more, List.append_assoc])
      have hlen : (headB m ++ wordsL m k).length ≤ 100 := by
        rw [List.length_append, head_len, wordsL_len]
        omega
      generalize m.wd k = x at *
      generalize headB m ++ wordsL m k = bs at *
      by_cases hx : x < 0
      · skip
        have HC : Hid (Lib.byteCells (w4 x) = [.int .u8 ((x + 4294967296) / 16777216), .int .u8 ((x + 4294967296) / 65536 % 256), .int .u8 ((x + 4294967296) / 256 % 256), .int .u8 ((x + 4294967296) % 256)]) := Lib.hid (by rw [w4_cells x1 x2]; unfold unsig; rw [if_pos hx])
        have T5 := Lib.hid (HX.out.alloc (.cells #[.int .u8 ((x + 4294967296) / 16777216), .int .u8 ((x + 4294967296) / 65536 % 256), .int .u8 ((x + 4294967296) / 256 % 256), .int .u8 ((x + 4294967296) % 256)] 5))
        go_wp2_with (at_builtin; refine wpList_append_own _ rfl _ _ 40 rfl (w.heap.size + 2) 5 i0 (.int .u8 0) 1 1 Try.underlying40 hi0 hz0 hz1 hz2 rfl (by decide) _ _ _ rfl T5.out ⟨wr.heap.size, 0, none⟩ 4 4 [.int .u8 ((x + 4294967296) / 16777216), .int .u8 ((x + 4294967296) / 65536 % 256), .int .u8 ((x + 4294967296) / 256 % 256), .int .u8 ((x + 4294967296) % 256)] rfl rfl (World.news_of_block (cs := #[.int .u8 ((x + 4294967296) / 16777216), .int .u8 ((x + 4294967296) / 65536 % 256), .int .u8 ((x + 4294967296) / 256 % 256), .int .u8 ((x + 4294967296) % 256)]) (t := 5) (fr := (0, 0)) (heap_alloc_new wr _)) (by simp [Value.oneCell']) (by unfold maxLen; omega) (by omega) (by simp; omega) ?_)
        intro v6 w6 hown6 hg6 _
        have hb6 := (((Below.refl (w.heap.size + 2) wr).alloc (by omega) _)).trans (txt_grown T5.out (by simp; omega) hg6)
        have K6 := K5.high hb6
        have T6 : Hid (Txt w6 (w.heap.size + 2) v6 (headB m ++ wordsL m (k + 1))) := Lib.hid (by rw [← HTK.out]; exact Txt.plus (n := bs.length + 4) (by rw [w4_len]) (by rw [HC.out]; exact hown6))
        clear hown6 hg6 hb6 hb5 ha hb0
        go_wp2
        go_roundw
        case rel => exact ⟨k + 1, by omega, by go_num, T6, K6⟩
        case measure => simp [intOf]; omega
      · skip
        have HC : Hid (Lib.byteCells (w4 x) = [.int .u8 (x / 16777216), .int .u8 (x / 65536 % 256), .int .u8 (x / 256 % 256), .int .u8 (x % 256)]) := Lib.hid (by rw [w4_cells x1 x2]; unfold unsig; rw [if_neg hx])
        have T5 := Lib.hid (HX.out.alloc (.cells #[.int .u8 (x / 16777216), .int .u8 (x / 65536 % 256), .int .u8 (x / 256 % 256), .int .u8 (x % 256)] 5))
        go_wp2_with (at_builtin; refine wpList_append_own _ rfl _ _ 40 rfl (w.heap.size + 2) 5 i0 (.int .u8 0) 1 1 Try.underlying40 hi0 hz0 hz1 hz2 rfl (by decide) _ _ _ rfl T5.out ⟨wr.heap.size, 0, none⟩ 4 4 [.int .u8 (x / 16777216), .int .u8 (x / 65536 % 256), .int .u8 (x / 256 % 256), .int .u8 (x % 256)] rfl rfl (World.news_of_block (cs := #[.int .u8 (x / 16777216), .int .u8 (x / 65536 % 256), .int .u8 (x / 256 % 256), .int .u8 (x % 256)]) (t := 5) (fr := (0, 0)) (heap_alloc_new wr _)) (by simp [Value.oneCell']) (by unfold maxLen; omega) (by omega) (by simp; omega) ?_)
        intro v6 w6 hown6 hg6 _
        have hb6 := (((Below.refl (w.heap.size + 2) wr).alloc (by omega) _)).trans (txt_grown T5.out (by simp; omega) hg6)
        have K6 := K5.high hb6
        have T6 : Hid (Txt w6 (w.heap.size + 2) v6 (headB m ++ wordsL m (k + 1))) := Lib.hid (by rw [← HTK.out]; exact Txt.plus (n := bs.length + 4) (by rw [w4_len]) (by rw [HC.out]; exact hown6))
        clear hown6 hg6 hb6 hb5 ha hb0
        go_wp2
        go_roundw
        case rel => exact ⟨k + 1, by omega, by go_num, T6, K6⟩
        case measure => simp [intOf]; omega
    · skip
      have HXF : Hid (Txt wr (w.heap.size + 2) _ (bytesM c m)) := Lib.hid (by
        have e := HX.out
        rw [show k = c.wo.toNat by omega] at e
        rw [HBT.out]
        exact e)
      have hl8 : 8 ≤ (bytesM c m).length := by rw [bytesM_len]; omega
      clear HX HBT
      obtain ⟨bs, hbs⟩ : ∃ bs, bs = bytesM c m := ⟨_, rfl⟩
      rw [← hbs] at HXF hl8
      have HB := Lib.hid hbs
      clear hbs
      rcases HXF.out.2 with ⟨rfl, h0⟩ | ⟨g, cap', cur, rfl, -, -, -, -, -, -⟩
      · omega
      · have hcv := run_convert_bytes_back (P := Try.prog) wr 40 9 5 ⟨g, 0, none⟩ cap' bs Try.underlying40 Try.underlying5 Try.underlying9 (fun j hj => HXF.out.cells (g := g) rfl j _ (by simp [Lib.byteCells, hj]))
        go_wp2
        go_ret2
        exact ⟨by rw [← HB.out]; rfl, K5.below⟩

set_option maxRecDepth 100000 in
set_option maxHeartbeats 4000000 in
theorem refPut_0 (c : Cfg) (m : Msg) (w : World) (hm : mayM c m = true) (h3 : (m.kd == 3) = false) (h7 : (m.kd == 7) = false)
    (hMay : ∀ w, Calls Try.prog 16 #[cv c, mv m] w fun e w' => e = .returned (.bool (mayM c m)) ∧ Below w.heap.size w w') :
    Calls Try.prog 8 #[cv c, mv m] w (RetB w (bytesM c m) 0) := by
  obtain ⟨i0, hi0, hz0, hz1, hz2⟩ := info_parts infoByte
  obtain ⟨g1, g2, g3, g4, g5, g6, g7⟩ := may_bytes hm
  obtain ⟨ho, _, hk, _, hw⟩ := may_all hm
  have HMM := Lib.hid hm
  have HM := Lib.hid hMay
  have hs := (ok_sizes ho).2.2.1
  have s1 := hs.1
  have s2 := hs.2
  have HC := Lib.hid (head_cells g1 g2 g3 g4 g5 g6 g7)
  have HW2 : Hid (∀ k, k < 8 → -2147483648 ≤ m.wd k ∧ m.wd k ≤ 2147483647) := Lib.hid (fun k hk => by have := word_all hw k hk; exact ⟨this.1, this.2.1⟩)
  have a1 : m.kd ≤ 255 := by omega
  have a2 : 0 ≤ m.kd := by omega
  obtain ⟨b1, b2⟩ := g2
  obtain ⟨c1, c2⟩ := g3
  obtain ⟨d1, d2⟩ := g4
  obtain ⟨e1, e2⟩ := g5
  obtain ⟨f1, f2⟩ := g6
  obtain ⟨k1, k2⟩ := g7
  have KK := K2.box w (ccells c) (mcells m) 24 28
  have HBT : Hid (bytesM c m = headB m ++ wordsL m 0) := Lib.hid (by unfold bytesM nw; rw [if_neg (by simp at h3 h7; omega)]; rfl)
  clear hm ho hk hw g1 hs hMay
  go_enter Try.func8, Try.ntmps8
  go_wp2_with (fail)
  refine (HM.out _).mono ?_
  rintro e w1 ⟨rfl, hb1⟩
  rw [HMM.out]
  have K1 := KK.step hb1
  have ha := K1.a; have hb := K1.b
  clear hb1 KK
  have K2' := K1.step ((Below.refl _ _).alloc (Nat.le_refl _) (.cells #[.int .u8 m.kd, .int .u8 (m.ln / 256), .int .u8 (m.ln % 256), .int .u8 m.fr, .int .u8 m.to, .int .u8 m.wh, .int .u8 m.ac, .int .u8 m.ow] 5))
  have hlt1 := K1.lt
  have T0 : Hid (Txt (w1.alloc (.cells #[.int .u8 m.kd, .int .u8 (m.ln / 256), .int .u8 (m.ln % 256), .int .u8 m.fr, .int .u8 m.to, .int .u8 m.wh, .int .u8 m.ac, .int .u8 m.ow] 5)) (w.heap.size + 2) (.slice (some ⟨w1.heap.size, 0, none⟩) 8 8) (headB m ++ wordsL m 0)) := Lib.hid (by
    have h := World.ownsRow_lit (base := w.heap.size + 2) (e := 5) (size := 1) w1 #[.int .u8 m.kd, .int .u8 (m.ln / 256), .int .u8 (m.ln % 256), .int .u8 m.fr, .int .u8 m.to, .int .u8 m.wh, .int .u8 m.ac, .int .u8 m.ow] 8 (by omega) (by unfold maxLen; omega) rfl
    rw [show wordsL m 0 = [] from rfl, List.append_nil]
    unfold Txt
    rw [HC.out]
    exact h)
  clear HC K1
  go_wp2
  clear ha hb
  go_loopw [6, 7] (fun t i wr => ∃ k : Nat, k ≤ 0 ∧ i = .int .i64 k ∧ Hid (Txt wr (w.heap.size + 2) t (headB m ++ wordsL m k)) ∧ K2 w (ccells c) (mcells m) wr) (fun _ i _ => 0 - (intOf i).toNat)
  case atStart => exact ⟨0, Nat.zero_le _, rfl, T0, K2'⟩
  case round =>
    obtain ⟨k, hk, rfl, HX, K5⟩ := hrel
    have hs5 := K5.lt
    have ha := K5.a
    have hb0 := (K5.b 0).trans (show (mcells m)[0]? = some (.int .i64 m.kd) from rfl)
    rcases (show (k : Int) < c.wo ∨ ¬ (k : Int) < c.wo by omega) with hlt | hlt
    · skip
      have HXF : Hid (Txt wr (w.heap.size + 2) _ (bytesM c m)) := Lib.hid (by
        have e := HX.out
        rw [show k = 0 by omega] at e
        rw [HBT.out]
        exact e)
      have hl8 : 8 ≤ (bytesM c m).length := by rw [bytesM_len]; omega
      clear HX HBT
      obtain ⟨bs, hbs⟩ : ∃ bs, bs = bytesM c m := ⟨_, rfl⟩
      rw [← hbs] at HXF hl8
      have HB := Lib.hid hbs
      clear hbs
      rcases HXF.out.2 with ⟨rfl, h0⟩ | ⟨g, cap', cur, rfl, -, -, -, -, -, -⟩
      · omega
      · have hcv := run_convert_bytes_back (P := Try.prog) wr 40 9 5 ⟨g, 0, none⟩ cap' bs Try.underlying40 Try.underlying5 Try.underlying9 (fun j hj => HXF.out.cells (g := g) rfl j _ (by simp [Lib.byteCells, hj]))
        go_wp2
        go_ret2
        exact ⟨by rw [← HB.out]; rfl, K5.below⟩
    · exfalso; omega

set_option maxRecDepth 100000 in
set_option maxHeartbeats 2000000 in
theorem refPut_no (c : Cfg) (m : Msg) (w : World) (hm : mayM c m = false)
    (hMay : ∀ w, Calls Try.prog 16 #[cv c, mv m] w fun e w' => e = .returned (.bool (mayM c m)) ∧ Below w.heap.size w w') :
    Calls Try.prog 8 #[cv c, mv m] w (RetB w [] 1) := by
  have HMM := Lib.hid hm
  have HM := Lib.hid hMay
  have KK := K2.box w (ccells c) (mcells m) 24 28
  clear hm hMay
  go_enter Try.func8, Try.ntmps8
  go_wp2_with (fail)
  refine (HM.out _).mono ?_
  rintro e w1 ⟨rfl, hb1⟩
  rw [HMM.out]
  have K1 := KK.step hb1
  clear hb1 KK
  go_wp2
  go_ret2
  exact ⟨rfl, K1.below⟩

/-- Put, the document's, where its May is. -/
theorem refPut_of (c : Cfg) (m : Msg) (w : World) (hMay : ∀ w, Calls Try.prog 16 #[cv c, mv m] w fun e w' => e = .returned (.bool (mayM c m)) ∧ Below w.heap.size w w') :
    Calls Try.prog 8 #[cv c, mv m] w (RetB w (putM c m).1 (putM c m).2) := by
  rcases Bool.eq_false_or_eq_true (mayM c m) with h | h
  · rw [show putM c m = (bytesM c m, 0) by unfold putM; rw [if_pos h]]
    rcases Bool.eq_false_or_eq_true (m.kd == 3) with h3 | h3
    · exact refPut_3 c m w h h3 hMay
    · rcases Bool.eq_false_or_eq_true (m.kd == 7) with h7 | h7
      · exact refPut_7 c m w h h3 h7 hMay
      · exact refPut_0 c m w h h3 h7 hMay
  · rw [show putM c m = ([], 1) by unfold putM; rw [h]; rfl]
    exact refPut_no c m w h hMay

end Go.Proofs.Ytjbodkmjhnlhiaa
