/-
  What write and Bytes do, the program's.
-/
import Derived.Test.YtjnbpohjdgnknaaDoorScO
namespace Go.Proofs.YtjnbpohjdgnknaaDoor
open Go Go.RowKit

theorem Kp.high {w w1 w2 : World} {L : Array Value} (h : Kp w L w1) (hb : Below (w.heap.size + 1) w1 w2) : Kp w L w2 :=
  ⟨fun o => (hb.cell (p := ⟨w.heap.size, o, none⟩) (by simp)).trans (h.1 o), Nat.lt_of_lt_of_le h.2.1 hb.size, h.2.2.trans (hb.mono (by omega))⟩
theorem progs_len {c : Cfg} : ∀ (ls : List (List Op)), (∀ l ∈ ls, fitsB c l = true) → (ls.flatMap progB).length ≤ 1154 * ls.length
  | [], _ => by simp
  | l :: ls, h => by
    have h1 := (prs_text (h l (by simp))).2
    have h2 := progs_len ls (fun x hx => h x (by simp [hx]))
    have h3 : (progB l).length ≤ 1154 := by
      unfold progB cntB
      split <;> simp <;> omega
    rw [List.flatMap_cons, List.length_append, List.length_cons]
    omega
theorem takeL_more (ls : List (List Op)) (k : Nat) (h : k < ls.length) : (ls.take (k + 1)).flatMap progB = (ls.take k).flatMap progB ++ progB (ls.getD k []) := by
  rw [List.take_succ_eq_append_getElem h, List.flatMap_append, List.getD_eq_getElem?_getD, List.getElem?_eq_getElem h]
  simp
theorem takeP_more (l : List Op) (k : Nat) (h : k < l.length) : (l.take (k + 1)).flatMap pickL = (l.take k).flatMap pickL ++ pickL (l.getD k ⟨0, 0, 0⟩) := by
  rw [take_more l k h, List.flatMap_append]
  simp
theorem picks_flat : ∀ l : List Op, (l.flatMap pickL).length = 3 * l.length
  | [] => rfl
  | x :: l => by rw [List.flatMap_cons, List.length_append, picks_flat l]; simp [pickL]; omega
theorem pick_cells {x : Op} (h : pickB x = true) : Lib.byteCells (pickL x) = [.int .u8 x.k, .int .u8 x.a, .int .u8 x.v] := by
  obtain ⟨h1, h2, h3⟩ := pick_in h
  simp only [Lib.byteCells, pickL, List.map_cons, List.map_nil]
  rw [u8_in h1, u8_in h2, u8_in h3]
theorem may_at {s : Scr} (h : mayS s = true) : (∀ j, j < s.ps.length → fitsB s.c (s.ps.getD j []) = true) ∧ (∀ j, j < s.pk.length → pickB (s.pk.getD j ⟨0, 0, 0⟩) = true) := by
  obtain ⟨_, _, h2, h3⟩ := may_parts h
  refine ⟨fun j hj => ?_, fun j hj => ?_⟩
  · rw [List.getD_eq_getElem?_getD, List.getElem?_eq_getElem hj]; exact h2 _ (List.getElem_mem hj)
  · rw [List.getD_eq_getElem?_getD, List.getElem?_eq_getElem hj]; exact h3 _ (List.getElem_mem hj)

set_option maxRecDepth 100000 in
set_option maxHeartbeats 4000000 in
theorem write_script (s : Scr) (p : Option Addr) (cp : Nat) (q : Option Addr) (cq : Nat) (w : World) (hs : ScAt w s p q) (hf : Fine s) (hm : mayS s = true) (hT : Tab w) (hTs : 1 < w.heap.size) (hP : Pow w.heap.size w) :
    Calls Tryd.prog 16 #[sv s p cp q cq] w fun e w' => e = .returned (.string ⟨(btsM s).toArray⟩) ∧ Below w.heap.size w w' := by
  obtain ⟨i0, hi0, hz0, hz1, hz2⟩ := info_parts Tryd.infoByte
  have HF := Lib.hid hf
  have HS := Lib.hid hs
  have HM := Lib.hid (may_at hm)
  have HMP := Lib.hid (may_parts hm)
  have HT := Lib.hid (hT.keeps hTs ((Below.refl _ w).alloc (Nat.le_refl _) (.cells (sC s p cp q cq) 28)))
  have HP := Lib.hid hP
  have hlp := hf.ps
  have hlk := hf.pk
  have K0 := Kp.box w (sC s p cp q cq) 28
  have hz : 1 < (w.alloc (.cells (sC s p cp q cq) 28)).heap.size := by simp; omega
  clear hs hf hm hT hP
  go_enter Tryd.func16, Tryd.ntmps16
  go_wp2_with fail
  refine (sizes_append (w.heap.size + 1) _ [] s.c _ (World.ownsRow_nil _ _ _ _) (by simp) (by simp) HMP.out.1 HT.out hz).mono ?_
  rintro e w1 ⟨v1, rfl, hx1, hb1⟩
  have K1 := K0.high hb1
  have T1 : Hid (Txt w1 (w.heap.size + 1) v1 (sizesB s.c ++ (s.ps.take 0).flatMap progB)) := Lib.hid (by simpa using hx1)
  have hc1 := K1.1
  clear hx1 hb1 K0 hz
  go_wp2
  clear hc1
  go_loopw [3, 14] (fun t i wr => ∃ k : Nat, k ≤ s.ps.length ∧ i = .int .i64 k ∧ Hid (Txt wr (w.heap.size + 1) t (sizesB s.c ++ (s.ps.take k).flatMap progB)) ∧ Kp w (sC s p cp q cq) wr) (fun _ i _ => s.ps.length - (intOf i).toNat)
  case atStart => exact ⟨0, Nat.zero_le _, rfl, T1, K1⟩
  case round =>
    obtain ⟨k, hk, rfl, HX, K2⟩ := hrel
    have hs2 := K2.2.1
    by_cases hlt : k < s.ps.length
    · obtain ⟨g, off, u, rfl, hg, hcu, hou⟩ := (HS.out.ps.step K2.2.2) k hlt
      obtain ⟨pa, cap, rfl⟩ := hou.form
      have HO := Lib.hid hou
      have HFT := Lib.hid (HM.out.1 k hlt)
      have HPW := Lib.hid (pow_at HP.out K2.2.2)
      have HTK : Hid ((sizesB s.c ++ (s.ps.take k).flatMap progB) ++ progB (s.ps.getD k []) = sizesB s.c ++ (s.ps.take (k + 1)).flatMap progB) := Lib.hid (by rw [takeL_more s.ps k hlt, List.append_assoc])
      have hlen : (sizesB s.c ++ (s.ps.take k).flatMap progB).length ≤ 80000000 := by
        have h1 := progs_len (c := s.c) (s.ps.take k) (fun l hl => HMP.out.2.2.1 l (List.mem_of_mem_take hl))
        have h2 : (s.ps.take k).length ≤ k := List.length_take_le _ _
        rw [List.length_append, sizes_len]
        omega
      clear hou
      generalize s.ps.getD k [] = l at *
      generalize sizesB s.c ++ (s.ps.take k).flatMap progB = bs at *
      go_wp2_with (go_at_call 32; refine (program_append s.c (w.heap.size + 1) _ bs l _ wr HX.out (by omega) (by omega) HO.out HFT.out HPW.out).mono ?_; rintro e w3 ⟨v3, rfl, hx3, hb3⟩)
      have K3 := K2.high hb3
      have T3 : Hid (Txt w3 (w.heap.size + 1) v3 (sizesB s.c ++ (s.ps.take (k + 1)).flatMap progB)) := Lib.hid (by rw [← HTK.out]; exact hx3)
      clear hx3 hb3 hcu
      go_roundw
      case rel => exact ⟨k + 1, by omega, by go_num, T3, K3⟩
      case measure => simp [intOf]; omega
    · have HX2 : Hid (Txt wr (w.heap.size + 1) _ ((sizesB s.c ++ s.ps.flatMap progB) ++ (s.pk.take 0).flatMap pickL)) := Lib.hid (by
        have e := HX.out
        rw [List.take_of_length_le (by omega)] at e
        simpa using e)
      have HLB : Hid ((sizesB s.c ++ s.ps.flatMap progB).length ≤ 6000000) := Lib.hid (by
        have h1 := progs_len (c := s.c) s.ps HMP.out.2.2.1
        rw [List.length_append, sizes_len]
        omega)
      have HBT : Hid (btsM s = (sizesB s.c ++ s.ps.flatMap progB) ++ s.pk.flatMap pickL) := Lib.hid (by unfold btsM; rw [List.append_assoc])
      have hc2 := K2.1
      clear HX
      generalize sizesB s.c ++ s.ps.flatMap progB = b0 at *
      go_wp2
      clear hc2
      go_loopw [3, 25] (fun t i wr => ∃ k : Nat, k ≤ s.pk.length ∧ i = .int .i64 k ∧ Hid (Txt wr (w.heap.size + 1) t (b0 ++ (s.pk.take k).flatMap pickL)) ∧ Kp w (sC s p cp q cq) wr) (fun _ i _ => s.pk.length - (intOf i).toNat)
      case atStart => exact ⟨0, Nat.zero_le _, rfl, HX2, K2⟩
      case round =>
        obtain ⟨m, hm, rfl, HX, K3⟩ := hrel
        have hs3 := K3.2.1
        by_cases hlm : m < s.pk.length
        · obtain ⟨g, off, rfl, hg, c0', c1, c2⟩ := (HS.out.pk.step K3.2.2) m hlm
          have HPB := HM.out.2 m hlm
          have HPC := Lib.hid (pick_cells HPB)
          obtain ⟨⟨x1, x2⟩, ⟨x3, x4⟩, x5, x6⟩ := pick_in HPB
          have HTK : Hid ((b0 ++ (s.pk.take m).flatMap pickL) ++ pickL (s.pk.getD m ⟨0, 0, 0⟩) = b0 ++ (s.pk.take (m + 1)).flatMap pickL) := Lib.hid (by rw [takeP_more s.pk m hlm, List.append_assoc])
          have hlen : (b0 ++ (s.pk.take m).flatMap pickL).length ≤ 80000000 := by
            have h2 : (s.pk.take m).length ≤ m := List.length_take_le _ _
            have h3 := HLB.out
            rw [List.length_append, picks_flat]
            omega
          clear HPB
          generalize s.pk.getD m ⟨0, 0, 0⟩ = x at *
          generalize b0 ++ (s.pk.take m).flatMap pickL = bs at *
          have T3 := Lib.hid ((HX.out.alloc (.cells #[.int .i64 x.k, .int .i64 x.a, .int .i64 x.v] 49)).alloc (.cells #[.int .u8 x.k, .int .u8 x.a, .int .u8 x.v] 5))
          go_wp2_with (at_builtin; refine wpList_append_own _ rfl _ _ 47 rfl (w.heap.size + 1) 5 i0 (.int .u8 0) 1 1 Tryd.underlying47 hi0 hz0 hz1 hz2 rfl (by decide) _ bs.length (Lib.byteCells bs) rfl T3.out ⟨wr.heap.size + 1, 0, none⟩ 3 3 [.int .u8 x.k, .int .u8 x.a, .int .u8 x.v] rfl rfl (World.news_of_block (cs := #[.int .u8 x.k, .int .u8 x.a, .int .u8 x.v]) (t := 5) (fr := (0, 0)) (new_at2 wr _ _)) (by simp [Value.oneCell']) (by unfold maxLen; omega) (by omega) (by simp; omega) ?_)
          intro v4 w4 hown4 hg4 _
          have hb4 := (((Below.refl (w.heap.size + 1) wr).alloc (by omega) _).alloc (by simp; omega) _).trans (txt_grown T3.out (by simp; omega) hg4)
          have K4 := K3.high hb4
          have T4 : Hid (Txt w4 (w.heap.size + 1) v4 (b0 ++ (s.pk.take (m + 1)).flatMap pickL)) := Lib.hid (by rw [← HTK.out]; exact Txt.plus (n := bs.length + 3) (by simp [pickL]) (by rw [HPC.out]; exact hown4))
          clear hown4 hg4 hb4
          go_wp2
          go_roundw
          case rel => exact ⟨m + 1, by omega, by go_num, T4, K4⟩
          case measure => simp [intOf]; omega
        · have HXF : Hid (Txt wr (w.heap.size + 1) _ (btsM s)) := Lib.hid (by
            have e := HX.out
            rw [List.take_of_length_le (by omega)] at e
            rw [HBT.out]
            exact e)
          clear HX HBT
          obtain ⟨bs, hbs⟩ : ∃ bs, bs = btsM s := ⟨_, rfl⟩
          rw [← hbs] at HXF
          have HB := Lib.hid hbs
          clear hbs
          rcases HXF.out.2 with ⟨rfl, h0⟩ | ⟨g, cap', cur, rfl, -, -, -, -, -, -⟩
          · have hnil : bs = [] := List.eq_nil_of_length_eq_zero h0
            subst hnil
            have hcv := convert_nil wr
            go_wp2
            go_ret
            exact ⟨by rw [← HB.out]; rfl, K3.2.2⟩
          · have hcv := run_convert_bytes_back (P := Tryd.prog) wr 47 9 5 ⟨g, 0, none⟩ cap' bs Tryd.underlying47 Tryd.underlying5 Tryd.underlying9 (fun j hj => HXF.out.cells (g := g) rfl j _ (by simp [Lib.byteCells, hj]))
            go_wp2
            go_ret
            exact ⟨by rw [← HB.out]; rfl, K3.2.2⟩

set_option maxRecDepth 100000 in
set_option maxHeartbeats 2000000 in
/-- Bytes, the program's. -/
theorem bytes_script (s : Scr) (p : Option Addr) (cp : Nat) (q : Option Addr) (cq : Nat) (w : World) (hs : ScAt w s p q) (hf : Fine s) (hT : Tab w) (hTs : 1 < w.heap.size) (hP : Pow w.heap.size w) :
    Calls Tryd.prog 8 #[sv s p cp q cq] w (RetS w (bts s).1 (bts s).2) := by
  have HF := Lib.hid hf
  have HS := Lib.hid hs
  have HT := Lib.hid hT
  have HP := Lib.hid hP
  have K0 := Kp.box w (sC s p cp q cq) 28
  have HS0 := Lib.hid (hs.step K0.2.2)
  clear hs hf hT hP
  rcases Bool.eq_false_or_eq_true (mayS s) with hm | hm
  · have HE : Hid (bts s = (btsM s, 0)) := Lib.hid (by unfold bts; rw [if_pos hm])
    have HM := Lib.hid hm
    clear hm
    go_enter Tryd.func8, Tryd.ntmps8
    go_wp2_with fail
    refine (may_script s p cp q cq _ HS0.out HF.out).mono ?_
    rintro e w1 ⟨rfl, hb1⟩
    rw [HM.out]
    have K1 := K0.step hb1
    have hc1 := K1.1
    have HS1 := Lib.hid (HS.out.step K1.2.2)
    have HT1 := Lib.hid (HT.out.keeps hTs K1.2.2)
    have HP1 := Lib.hid (pow_at HP.out K1.2.2)
    have hz1 : 1 < w1.heap.size := by have := K1.2.1; omega
    clear hb1
    go_wp2_with fail
    refine (write_script s p cp q cq _ HS1.out HF.out HM.out HT1.out hz1 HP1.out).mono ?_
    rintro e w2 ⟨rfl, hb2⟩
    go_wp2
    go_ret2
    exact ⟨by rw [HE.out]; rfl, bstep K1.2.2 hb2⟩
  · have HE : Hid (bts s = ([], 1)) := Lib.hid (by unfold bts; rw [hm]; rfl)
    have HM := Lib.hid hm
    clear hm
    go_enter Tryd.func8, Tryd.ntmps8
    go_wp2_with fail
    refine (may_script s p cp q cq _ HS0.out HF.out).mono ?_
    rintro e w1 ⟨rfl, hb1⟩
    rw [HM.out]
    go_wp2
    go_ret2
    exact ⟨by rw [HE.out]; rfl, bbox hb1⟩

end Go.Proofs.YtjnbpohjdgnknaaDoor
