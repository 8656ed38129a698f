/-
  ArrayOnce is true: the walk.
-/
import Derived.Test.YtldbepaclddgmaaDoorArQ
namespace Go.Proofs.YtldbepaclddgmaaDoor
open Go Go.RowKit Go.Sort Go.Maps

/-- What holds at each set's head, and at each way's. -/
def SetRel (w : World) (b g : Nat) (c : Cfg) (L : List Wy) (mb : Nat) (i : Value) (wr : World) : Prop :=
  ∃ s : Nat, s ≤ c.se.toNat ∧ i = .int .i64 s ∧ ∃ D, OkM w b g c L mb (linesU (L.take (s * c.wa.toNat))) D wr
def WayRel (w : World) (b g : Nat) (c : Cfg) (L : List Wy) (mb o W : Nat) (f i : Value) (wr : World) : Prop :=
  ∃ j : Nat, j ≤ W ∧ i = .int .i64 ((j : Int) - 1) ∧ f = .int .i64 (Fr L (o + j) (W - j) j) ∧ ∃ D, OkM w b g c L mb (Vl L (o + j) (W - j) ++ linesU (L.take o)) D wr

set_option maxRecDepth 100000 in
set_option maxHeartbeats 8000000 in
theorem arrayOnce_any (c : Cfg) (p : Option Addr) (cap : Nat) (l : List Ao) (w : World) (hf : c.fits) (hT : Tb w) (hl : OpsA w p l) (hn : l.length ≤ 9223372036854775807) :
    Calls Tryd.prog 4 #[cv c, .slice p l.length cap] w fun e w' => e = .returned (.bool true) ∧ Below w.heap.size w w' := by
  have HT := Lib.hid hT
  have HL := Lib.hid hl
  have HF := Lib.hid hf
  have hmm := @run_makeMap Tryd.prog
  clear hT hl hf
  go_enter Tryd.func4, Tryd.ntmps4
  go_wp2_with fail
  refine (awake9_any _ (HT.out.keeps (balloc w _))).mono ?_
  rintro e w1 ⟨rfl, hb⟩
  have KK := Lib.hid (K1.mk (c := c) (box_at hb) (bbox hb))
  have TB := Lib.hid (HT.out.keeps KK.out.bl)
  have hcc := blk_cells KK.out.c0
  clear hb
  by_cases h60 : 60 < l.length
  · have HB := KK.out.bl
    clear KK HT HL HF TB
    go_wp2
    go_ret
    exact ⟨rfl, HB⟩
  by_cases h64 : 64 < c.li
  · have HB := KK.out.bl
    clear KK HT HL HF TB
    go_wp2
    go_ret
    exact ⟨rfl, HB⟩
  rcases Bool.eq_false_or_eq_true (okC c) with hok | hok
  · have HN := Lib.hid (newO (L0 := List.replicate (c.se.toNat * c.wa.toNat) y0) HF.out hok TB.out (Below.refl _ w1) rfl)
    have HW := Lib.hid (ok_ways hok)
    have HOK := Lib.hid hok
    clear hok
    go_wp2_with fail
    refine HN.out.mono ?_
    rintro e w2 ⟨b, g, rfl, ho, -⟩
    have HO := Lib.hid ho
    clear ho hcc HN
    go_wp2
    go_loopw [39] (fun i wr => ∃ k : Nat, k ≤ l.length ∧ i = .int .i64 k ∧ ∃ L, Own w1 b g c L wr) (fun i _ => l.length - (intOf i).toNat)
    case atStart => exact ⟨0, Nat.zero_le _, rfl, _, HO.out⟩
    case round =>
      obtain ⟨k, hk, rfl, L0, ho⟩ := hrel
      have H1 := Lib.hid ho
      clear ho HO
      by_cases hlt : k < l.length
      · obtain ⟨x, hx⟩ : ∃ x, l[k]? = some x := ⟨_, List.getElem?_eq_getElem hlt⟩
        obtain ⟨gl, off, rfl, hgl, hr⟩ := HL.out.step (KK.out.step H1.out.bl).bl k x hx
        have HR := Lib.hid hr
        obtain ⟨n, L, hM⟩ : ∃ n M, doP c L0 x = (n, M) := ⟨_, _, rfl⟩
        have HM := Lib.hid hM
        have H2 := Lib.hid (H1.out.step (below_box wr (.cells #[.int .i64 0, .int .i64 0, .int .i64 0, .int .i64 0, .int .i64 0, .int .i64 0, .int .i64 0, .int .i64 0, .int .i64 0, .int .i64 0, .int .i64 0] 37) (ocells x)))
        clear hr hx hM
        go_wp2_with (first
          | ((with_reducible refine wpList_load_mid (op := ⟨some 42, _, _, _, _, _⟩) rfl 37 (.tmp 41) rfl gl (off + k * 11) ?lx (oc x) _ ?lc Tryd.underlying37 ?ld ?li ?_); (case lx => rfl); (case lc => exact HR.out); (case ld => rfl); (case li => kernel_rfl))
          | ((with_reducible refine wpList_store_row (o := ⟨none, _, _, _, _, _⟩) rfl 37 (.tmp 8) (.tmp 42) rfl wr.heap.size (ocells x) ?sx ?sy 37 ?old ?sg ?si ?so ?s1 ?_); (case sx => rfl); (case sy => rfl); (case old => exact ocells ⟨0, 0, 0, d0⟩); (case sg => exact heap_alloc_new wr _); (case si => kernel_rfl); (case so => rfl); (case s1 => kernel_rfl))
          | ((with_reducible refine wpList_load_row (o := ⟨some 44, _, _, _, _, _⟩) rfl 37 (.tmp 8) rfl wr.heap.size ?lx 37 (ocells x) (0, 0) _ ?lg Tryd.underlying37 ?ld ?li ?_); (case lx => rfl); (case lg => exact setRow_heap _ _ _ _ _ _ (heap_alloc_new wr _)); (case ld => rfl); (case li => kernel_rfl))
          | (go_at_call 9; fail))
        refine (H2.out.op x HM.out).mono ?_
        rintro e w3 ⟨rfl, ho, -⟩
        have H3 := Lib.hid (OkM.new ho)
        clear ho H2 H1 HM HR
        go_wp2
        clear hmm
        generalize w3.alloc (.map #[] 0) = w4 at *
        generalize w3.heap.size = mb at *
        go_loopw [10] (fun i wr => SetRel w1 b g c L mb i wr) (fun i _ => c.se.toNat - (intOf i).toNat)
        case atStart => exact ⟨0, Nat.zero_le _, rfl, _, by rw [Nat.zero_mul, List.take_zero]; exact H3.out⟩
        case round =>
          obtain ⟨s, hs, rfl, D, ho⟩ := hrel
          have H4 := Lib.hid ho
          clear ho H3
          have hc4 := blk_cells (KK.out.step H4.out.own.bl).c0
          by_cases hlts : s < c.se.toNat
          · have hsi : (s : Int) < c.se := by omega
            have hw := HW.out
            obtain ⟨W, hWn⟩ : ∃ W, W = c.wa.toNat := ⟨_, rfl⟩
            have hWi : c.wa = (W : Int) := by omega
            have HWI := Lib.hid hWi
            have hWb : 1 ≤ W ∧ W ≤ 8 := by omega
            obtain ⟨o, hon⟩ : ∃ o, o = s * W := ⟨_, rfl⟩
            have HS1 : Hid ((s + 1) * W = o + W) := Lib.hid (by rw [hon, Nat.add_mul, Nat.one_mul])
            have HAT : Hid (∀ (m : Nat) (x : Wy) (wr : World), Own w1 b g c L wr → m < W → L[o + m]? = some x → Calls Tryd.prog 20 #[.pointer (some ⟨b, 0, none⟩), .int .i64 s, .int .i64 m] wr (RetA wr x true)) := Lib.hid (fun m x wr h hm hx => at_yes h.ar s m x hsi (by omega) (by rw [← hWn, ← hon]; exact hx))
            have HFI : Hid (∀ (m : Nat) (x : Wy), m < W → L[o + m]? = some x → tk x = true → fnd c L x.ln = (x, (m : Int), true) ∧ x.ln % c.se = s ∧ 0 ≤ x.ln ∧ x.ln ≤ 1024) := Lib.hid (fun m x hm hx ht => H4.out.own.gd.at_find H4.out.own.ar.sz (by omega) (by rw [← hWn, ← hon]; exact hx) ht)
            have HFR : Hid (∀ (wr : World), Own w1 b g c L wr → (s : Int) < c.li → Calls Tryd.prog 15 #[.pointer (some ⟨b, 0, none⟩), .int .i64 s] wr fun e w' => e = .returned (.int .i64 (Fr L o W 0)) ∧ Below wr.heap.size wr w') := Lib.hid (fun wr h hli => by
              have := free_any h.ar h.tbr s
              rw [Fr_fre hsi (by unfold lnOk inR; simp [HOK.out]; omega), ← hWn, ← hon] at this
              exact this)
            have HEX : Hid (∀ m, m < W → ∃ x, L[o + m]? = some x) := Lib.hid (fun m hm => by
              have h1 := H4.out.own.ar.sz.len
              have h2 := Nat.mul_le_mul_right W (show s + 1 ≤ c.se.toNat by omega)
              rw [HS1.out] at h2
              rw [← hWn] at h1
              exact ⟨_, List.getElem?_eq_getElem (by omega)⟩)
            have hLs : o + W ≤ 512 ∧ L.length ≤ 512 := by
              have h1 := H4.out.own.ar.sz.len
              have h2 := Nat.mul_le_mul_right W (show s + 1 ≤ c.se.toNat by omega)
              rw [HS1.out] at h2
              rw [← hWn] at h1
              have h3 := Nat.mul_le_mul (show c.se.toNat ≤ 64 by omega) (show W ≤ 8 by omega)
              omega
            have H5 : Hid (OkM w1 b g c L mb (linesU (L.take o)) D wr) := Lib.hid (by rw [hon, hWn]; exact H4.out)
            have HGO : Hid (∀ ks D wr, OkM w1 b g c L mb ks D wr → ks.Perm (linesU (L.take (o + W))) → SetRel w1 b g c L mb (.int .i64 ((s : Int) + 1)) wr) := Lib.hid (fun ks D wr h hp => ⟨s + 1, by omega, by go_num, D, by rw [← hWn, HS1.out]; exact h.perm hp⟩)
            have hw2 := hw
            clear hWn hon H4 hw HW HOK
            have hwa1 : 1 ≤ c.wa := by omega
            have hwa8 : c.wa ≤ 8 := by omega
            have hse64 : c.se ≤ 64 := by omega
            clear hWi hw2
            go_wp2
            go_loopw [11, 12] (fun f i wr => WayRel w1 b g c L mb o W f i wr) (fun _ i _ => (intOf i + 1).toNat)
            case atStart => exact ⟨W, Nat.le_refl _, by rw [HWI.out], by rw [Nat.sub_self, Fr_zero], D, by rw [Nat.sub_self, Vl_zero]; exact H5.out⟩
            case round =>
              obtain ⟨j, hj, rfl, rfl, D2, ho⟩ := hrel
              have H6 := Lib.hid ho
              clear ho H5 hc4
              have hc6 := blk_cells (KK.out.step H6.out.own.bl).c0
              rcases j with _ | m
              · have eF : Fr L (o + 0) (W - 0) 0 = Fr L o W 0 := by rw [Nat.add_zero, Nat.sub_zero]
                have HP : Hid ((Vl L (o + 0) (W - 0) ++ linesU (L.take o)).Perm (linesU (L.take (o + W)))) := Lib.hid (by rw [linesU_add, Nat.add_zero, Nat.sub_zero]; exact List.perm_append_comm)
                rw [eF]
                clear eF
                by_cases hsl : (s : Int) < c.li
                · have HFC := Lib.hid (HFR.out wr H6.out.own hsl)
                  go_wp2_with fail
                  refine HFC.out.mono ?_
                  rintro e w5 ⟨rfl, hb⟩
                  have H7 := Lib.hid (H6.out.step hb)
                  clear hb H6 HFC
                  go_wp2
                  go_roundw
                  case rel => exact HGO.out _ _ _ H7.out HP.out
                  case measure => simp [intOf]; omega
                · go_wp2
                  go_roundw
                  case rel => exact HGO.out _ _ _ H6.out HP.out
                  case measure => simp [intOf]; omega
              · have e1 : (((m + 1 : Nat) : Int) - 1) = (m : Int) := by omega
                rw [e1]
                clear e1
                obtain ⟨x, hx⟩ := HEX.out m (by omega)
                have HA := Lib.hid (HAT.out m x wr H6.out.own (by omega) hx)
                have hWm : W - m = W - (m + 1) + 1 := by omega
                rcases Bool.eq_false_or_eq_true (tk x) with ht | ht
                · obtain ⟨hfd, hrem, hln0, hln1⟩ := HFI.out m x (by omega) hx ht
                  have HV := Lib.hid (Vl_yes (m := W - (m + 1)) hx ht)
                  have HFV := Lib.hid (Fr_yes (m := W - (m + 1)) (j := m) hx ht)
                  have HMET := Lib.hid (H6.out.own.gd.met (m := W - (m + 1)) (p := o) hx ht (by omega))
                  have H6' : Hid (OkM w1 b g c L mb (Vl L (o + m + 1) (W - (m + 1)) ++ linesU (L.take o)) D2 wr) := H6
                  have hkl : (Vl L (o + m + 1) (W - (m + 1)) ++ linesU (L.take o)).length ≤ 512 := by
                    have h1 := Vl_len L (o + m + 1) (W - (m + 1))
                    have h2 := linesU_len L o
                    rw [List.length_append]
                    omega
                  obtain ⟨ks, hks⟩ : ∃ ks, ks = Vl L (o + m + 1) (W - (m + 1)) ++ linesU (L.take o) := ⟨_, rfl⟩
                  rw [← hks] at HMET H6' hkl
                  have HKS := Lib.hid hks
                  have HKL := Lib.hid hkl
                  have HWM := Lib.hid hWm
                  have HFD := Lib.hid hfd
                  have HREM := Lib.hid hrem
                  have HWF := Lib.hid (wf_small (c := x.ln) (by omega) (by omega))
                  have hx0 : (x.st == 0) = false ∨ (x.st == 0) = true ∧ x.lk = true := by
                    simp [tk] at ht
                    rcases Decidable.em (x.st = 0) with h | h
                    · exact .inr ⟨by simpa using h, by simpa [h] using ht⟩
                    · exact .inl (by simpa using h)
                  clear hx ht hWm hfd hrem H6 hkl hks
                  rcases hx0 with hx1 | ⟨hx1, hx2⟩
                  all_goals
                    go_wp2_with fail
                    refine HA.out.mono ?_
                    rintro e w5 ⟨rfl, hb⟩
                    have H7 := Lib.hid ((H6'.out.step hb).step (below_box w5 (.cells #[.int .i64 0, .int .i64 0, .int .i64 0, .int .i64 0, .int .i64 0, .int .i64 0, .int .i64 0, .int .i64 0, .int .i64 0, .int .i64 0, .bool false] 43) (ycells x)))
                    have hbx : ((w5.alloc (.cells #[.int .i64 0, .int .i64 0, .int .i64 0, .int .i64 0, .int .i64 0, .int .i64 0, .int .i64 0, .int .i64 0, .int .i64 0, .int .i64 0, .bool false] 43)).setRow w5.heap.size (ycells x)).heap[w5.heap.size]? = some (.cells (ycells x) 43 (0, 0)) := setRow_heap _ _ _ _ _ _ (heap_alloc_new w5 _)
                    have HBX := Lib.hid hbx
                    clear hb hbx H6' HA hc6
                    go_wp2_with (((with_reducible refine wpList_store_row (o := ⟨none, _, _, _, _, _⟩) rfl 43 (.tmp 13) (.tmp 65) rfl w5.heap.size (ycells x) ?sx ?sy 43 ?old ?sg ?si ?so ?s1 ?_); (case sx => rfl); (case sy => rfl); (case old => exact ycells y0); (case sg => exact heap_alloc_new w5 _); (case si => kernel_rfl); (case so => rfl); (case s1 => kernel_rfl); generalize (w5.alloc (.cells #[.int .i64 0, .int .i64 0, .int .i64 0, .int .i64 0, .int .i64 0, .int .i64 0, .int .i64 0, .int .i64 0, .int .i64 0, .int .i64 0, .bool false] 43)).setRow w5.heap.size (ycells x) = w6 at *; generalize w5.heap.size = kA at *; have hA := blk_cells HBX.out))
                    refine (H7.out.own.find x.ln HFD.out).mono ?_
                    rintro e w7 ⟨rfl, hb⟩
                    have H8 := Lib.hid ((H7.out.step hb).step (below_box w7 (.cells #[.int .i64 0, .int .i64 0, .int .i64 0, .int .i64 0, .int .i64 0, .int .i64 0, .int .i64 0, .int .i64 0, .int .i64 0, .int .i64 0, .bool false] 43) (ycells x)))
                    have hba := (below_box w7 (.cells #[.int .i64 0, .int .i64 0, .int .i64 0, .int .i64 0, .int .i64 0, .int .i64 0, .int .i64 0, .int .i64 0, .int .i64 0, .int .i64 0, .bool false] 43) (ycells x)).block kA (Nat.lt_of_lt_of_le (lt_of_block HBX.out) hb.size) |>.trans ((hb.block kA (lt_of_block HBX.out)).trans HBX.out)
                    have hbb : ((w7.alloc (.cells #[.int .i64 0, .int .i64 0, .int .i64 0, .int .i64 0, .int .i64 0, .int .i64 0, .int .i64 0, .int .i64 0, .int .i64 0, .int .i64 0, .bool false] 43)).setRow w7.heap.size (ycells x)).heap[w7.heap.size]? = some (.cells (ycells x) 43 (0, 0)) := setRow_heap _ _ _ _ _ _ (heap_alloc_new w7 _)
                    have HB1 := Lib.hid hba
                    have HB2 := Lib.hid hbb
                    clear hb hba hbb hA HBX H7
                    have hq := way_neq3 x.st x.ln x.wd x.lk
                    have hq1 := way_neq3 x.st x.ln x.wd true
                    have hq2 := way_neq3 0 x.ln x.wd true
                    have hrem := HREM.out
                    have hse1 : 1 ≤ c.se := by omega
                    go_wp2_with (first
                      | ((with_reducible refine wpList_store_row (o := ⟨none, _, _, _, _, _⟩) rfl 43 (.tmp 15) (.tmp 83) rfl w7.heap.size (ycells x) ?sx ?sy 43 ?old ?sg ?si ?so ?s1 ?_); (case sx => rfl); (case sy => rfl); (case old => exact ycells y0); (case sg => exact heap_alloc_new w7 _); (case si => kernel_rfl); (case so => rfl); (case s1 => kernel_rfl); generalize (w7.alloc (.cells #[.int .i64 0, .int .i64 0, .int .i64 0, .int .i64 0, .int .i64 0, .int .i64 0, .int .i64 0, .int .i64 0, .int .i64 0, .int .i64 0, .bool false] 43)).setRow w7.heap.size (ycells x) = w8 at *; generalize w7.heap.size = kB at *; have hA := blk_cells HB1.out; have hB := blk_cells HB2.out; have hc8 := blk_cells (KK.out.step H8.out.own.bl).c0; have hlk := H8.out.look HWF.out; rw [HMET.out] at hlk)
                      | (at_mapUpdate; refine wpList_mapUpdate_own _ rfl (.tmp 113) (.tmp 115) (.const (.bool true)) 59 rfl 3 4 law3 Tryd.underlying59 _ mb ks.length D2 rfl H8.out.map (by have := HKL.out; unfold maxLen; omega) (.int .i64 x.ln) (.bool true) (.int .i64 x.ln) rfl rfl (keyOf_int_mk Tryd.underlying3 HWF.out) (.lit (.bool true)) [] (plainElem_bool Tryd.underlying4 true) ?_; intro w9 hm9 hg9; have H9 := Lib.hid (H8.out.keyed HMET.out hm9 hg9); clear hm9 hg9))
                    go_roundw
                    case rel => exact ⟨m, by omega, by go_num, by rw [HWM.out, HFV.out]; rfl, _, by rw [HWM.out, HV.out, List.cons_append, ← HKS.out]; exact H9.out⟩
                    case measure => first | (simp [intOf]; done) | (simp [intOf]; omega)
                · have HV := Lib.hid (Vl_no (m := W - (m + 1)) hx ht)
                  have HFV := Lib.hid (Fr_no (m := W - (m + 1)) (j := m) hx ht)
                  have HWM := Lib.hid hWm
                  have hx0 : (x.st == 0) = true ∧ x.lk = false := by
                    simp [tk] at ht
                    simp [ht]
                  obtain ⟨hx1, hx2⟩ := hx0
                  clear hx ht hWm
                  go_wp2_with fail
                  refine HA.out.mono ?_
                  rintro e w5 ⟨rfl, hb⟩
                  have H7 := Lib.hid ((H6.out.step hb).step (below_box w5 (.cells #[.int .i64 0, .int .i64 0, .int .i64 0, .int .i64 0, .int .i64 0, .int .i64 0, .int .i64 0, .int .i64 0, .int .i64 0, .int .i64 0, .bool false] 43) (ycells x)))
                  have hbx : ((w5.alloc (.cells #[.int .i64 0, .int .i64 0, .int .i64 0, .int .i64 0, .int .i64 0, .int .i64 0, .int .i64 0, .int .i64 0, .int .i64 0, .int .i64 0, .bool false] 43)).setRow w5.heap.size (ycells x)).heap[w5.heap.size]? = some (.cells (ycells x) 43 (0, 0)) := setRow_heap _ _ _ _ _ _ (heap_alloc_new w5 _)
                  have HBX := Lib.hid hbx
                  clear hb hbx H6 HA hc6
                  go_wp2_with (((with_reducible refine wpList_store_row (o := ⟨none, _, _, _, _, _⟩) rfl 43 (.tmp 13) (.tmp 65) rfl w5.heap.size (ycells x) ?sx ?sy 43 ?old ?sg ?si ?so ?s1 ?_); (case sx => rfl); (case sy => rfl); (case old => exact ycells y0); (case sg => exact heap_alloc_new w5 _); (case si => kernel_rfl); (case so => rfl); (case s1 => kernel_rfl); generalize (w5.alloc (.cells #[.int .i64 0, .int .i64 0, .int .i64 0, .int .i64 0, .int .i64 0, .int .i64 0, .int .i64 0, .int .i64 0, .int .i64 0, .int .i64 0, .bool false] 43)).setRow w5.heap.size (ycells x) = w6 at *; generalize w5.heap.size = kA at *; have hA := blk_cells HBX.out))
                  go_roundw
                  case rel => exact ⟨m, by omega, by go_num, by rw [HWM.out, HFV.out], D2, by rw [HWM.out, HV.out]; exact H7.out⟩
                  case measure => first | (simp [intOf]; done) | (simp [intOf]; omega)
          · have hse : s = c.se.toNat := by omega
            have hlen := H4.out.own.ar.sz.len
            have hta : L.take (s * c.wa.toNat) = L := by rw [hse, ← hlen]; exact List.take_length
            rw [hta] at H4
            obtain ⟨n9, hn9, e1, e2, h512⟩ := size_math HOK.out
            obtain ⟨N, hN⟩ : ∃ N, N = (linesU L).length := ⟨_, rfl⟩
            have hNP : (linesP L).length = N := by rw [hN]; exact List.length_mergeSort _
            have hNle : N ≤ n9 := by
              rw [hN, hn9, ← hlen]
              have := linesU_len L L.length
              rwa [List.take_length] at this
            have hsi : ¬ (s : Int) < c.se := by
              have hw3 := HW.out.2.1
              clear hlen hta hn9 e1 e2 h512 hN hNP hNle
              omega
            have HLI := Lib.hid (lines_any H4.out.own.ar)
            have HN := Lib.hid hN
            have HNP := Lib.hid hNP
            clear hse hlen hta hn9 hN hNP hs hlts HW
            go_wp2_with fail
            refine HLI.out.mono ?_
            rintro e w5 ⟨p5, c5, rfl, -, hb⟩
            have H5 := Lib.hid (H4.out.step hb)
            have hln := H5.out.len
            rw [← HN.out] at hln
            rw [HNP.out]
            clear hb H4 hc4 HLI HN HNP
            have hc5 := blk_cells (KK.out.step H5.out.own.bl).c0
            go_wp2
            go_roundw
            case rel => exact ⟨k + 1, by omega, by go_num, L, H5.out.own⟩
            case measure => first | (simp [intOf]; done) | (simp [intOf]; omega)
      · have HB := (KK.out.step H1.out.bl).bl
        clear KK HT HL HF TB H1 HW hmm
        go_wp2
        go_ret
        exact ⟨rfl, HB⟩
  · have HN := Lib.hid (new_no c w1 HF.out hok)
    clear hok
    go_wp2_with fail
    refine HN.out.mono ?_
    rintro e w2 ⟨rfl, hb⟩
    have HB := bstep KK.out.bl hb
    clear KK HT HL HF HN TB hb hcc
    go_wp2
    go_ret
    exact ⟨rfl, HB⟩

end Go.Proofs.YtldbepaclddgmaaDoor
