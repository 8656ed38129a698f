/-
  NetRooms, its walk.
-/
import Derived.Test.YtdggjbaapnkcgaaNtK
import Derived.Deep.RegionHeld3
import Derived.Deep.CutRange
import Derived.Deep.DeepCutAuto
namespace Go.Proofs.Ytdggjbaapnkcgaa
open Go Go.RowKit Go.Sort

theorem rooms_long (c : Cfg) (p : Option Addr) (cap : Nat) (l : List OpN) (w : World) (hm : l.length ≤ 9223372036854775807) (h : 100 < l.length) :
    Calls Try.prog 4 #[cv c, .slice p l.length cap] w (Holds7 w) := by
  go_enter Try.func4, Try.ntmps4
  go_wp2_with (go_at_call 5; refine (awake7_any _).mono ?_; rintro e w1 ⟨rfl, hb⟩)
  go_ret
  exact ⟨rfl, bbox hb⟩
set_option maxRecDepth 100000 in
set_option maxHeartbeats 2000000 in
theorem rooms_no (c : Cfg) (p : Option Addr) (cap : Nat) (l : List OpN) (w : World) (hc : c.fits) (h : l.length ≤ 100) (hok : okC c = false) :
    Calls Try.prog 4 #[cv c, .slice p l.length cap] w (Holds7 w) := by
  have HC := Lib.hid hc
  have HO := Lib.hid hok
  have KK := Kp.box w (ccells c) 24
  clear hc hok
  go_enter Try.func4, Try.ntmps4
  go_wp2_with fail
  refine (awake7_any _).mono ?_
  rintro e w1 ⟨rfl, hb⟩
  have K1 := KK.step hb
  have ha := K1.1
  clear hb KK
  go_wp2_with fail
  refine (nnew_no c _ HC.out HO.out).mono ?_
  rintro e w2 ⟨rfl, hb2⟩
  have HB := Lib.hid (bstep K1.2.2 hb2)
  clear hb2 ha K1
  go_wp2_with fail
  go_ret
  exact ⟨rfl, HB.out⟩

theorem nat_yesI {w : World} {B n : Nat} {c : Cfg} {b : Nat → Nat} {l : Nat → List Msg} {v : Nat → Value} (h : NetP w B n c b l v) (j : Nat) (k i : Int) (q : Nat) (x : Msg) (hkj : k = j) (hj : j < 3) (hi : i = q) (hx : (l j)[q]? = some x) :
    Calls Try.prog 8 #[.pointer (some ⟨n, 0, none⟩), .int .i64 k, .int .i64 i] w (RetM w x (.bool true)) := by
  subst hi
  exact nat_yes h j k q x hkj hj hx
theorem room_cell (c : Cfg) (i : Nat) (hi : i < 3) : (ccells c)[10 + i]? = some (.int .i64 (room c i)) := by
  rcases (show i = 0 ∨ i = 1 ∨ i = 2 by omega) with rfl | rfl | rfl <;> rfl
theorem three_cell (f : Nat → Int) (i : Nat) (hi : i < 3) : (#[Value.int .i64 (f 0), .int .i64 (f 1), .int .i64 (f 2)])[i]? = some (.int .i64 (f i)) := by
  rcases (show i = 0 ∨ i = 1 ∨ i = 2 by omega) with rfl | rfl | rfl <;> rfl

theorem wrap_small {x : Int} (h0 : -1000 ≤ x) (h1 : x ≤ 1000) : IntKind.i64.wrap x = x := IntWalk.i64_in _ (by omega)

theorem want_send {c : Cfg} {l : Nat → List Msg} {f : Nat → Int} (h : ∀ i, f i = room c i - (l i).length) (j : Nat) (m : Msg) (i : Nat) : f i + (if (i : Int) = (j : Int) then -1 else 0) = room c i - ((upd l j (l j ++ [m])) i).length := by
  by_cases e : i = j
  · subst e
    rw [if_pos rfl, upd_same, h]
    simp
    omega
  · rw [if_neg (by omega), upd_other _ _ _ _ e, h]
    omega
theorem want_take {c : Cfg} {l : Nat → List Msg} {f : Nat → Int} (h : ∀ i, f i = room c i - (l i).length) (j q : Nat) (hq : q < (l j).length) (i : Nat) : f i + (if (i : Int) = (j : Int) then 1 else 0) = room c i - ((upd l j ((l j).eraseIdx q)) i).length := by
  by_cases e : i = j
  · subst e
    rw [if_pos rfl, upd_same, h, List.length_eraseIdx_of_lt hq]
    omega
  · rw [if_neg (by omega), upd_other _ _ _ _ e, h]
    omega

/-- What holds at each round's head. -/
def RmRel (w : World) (B n : Nat) (c : Cfg) (b : Nat → Nat) (ops : List OpN) (t : Value) (wr : World) : Prop :=
  ∃ (k : Nat) (l : Nat → List Msg) (v : Nat → Value), k ≤ ops.length ∧ t = .int .i64 k ∧ Hd w B n c b l v wr ∧ Good c l
/-- What is left of a network, as the law reckons it. -/
def RmCut (w : World) (B n : Nat) (c : Cfg) (b : Nat → Nat) (o2 : Nat) (lf : Nat → Int) (s10 s11 : Value) (wx : World) : Prop :=
  ∃ (kk by_ : Int) (l : Nat → List Msg) (v : Nat → Value), s10 = .int .i64 kk ∧ s11 = .int .i64 by_ ∧ (by_ = 1 ∨ by_ = -1) ∧ (∀ i : Nat, i < 3 → lf i + (if (i : Int) = kk then by_ else 0) = room c i - (l i).length) ∧
    Hd w B n c b l v wx ∧ Good c l ∧ Cl o2 #[.int .i64 (lf 0), .int .i64 (lf 1), .int .i64 (lf 2)] wx

set_option maxRecDepth 1000000 in
set_option maxHeartbeats 8000000 in
theorem rooms_yes (c : Cfg) (p : Option Addr) (cap : Nat) (ops : List OpN) (w : World) (hin : OpsN w p ops) (h : ops.length ≤ 100) (hok : okC c = true) :
    Calls Try.prog 4 #[cv c, .slice p ops.length cap] w (Holds7 w) := by
  have HI := Lib.hid hin
  have HO := Lib.hid hok
  have KK := Kp.box w (ccells c) 24
  clear hin hok
  go_enter Try.func4, Try.ntmps4
  go_wp2_with fail
  refine (awake7_any _).mono ?_
  rintro e w1 ⟨rfl, hb⟩
  have K1 := KK.step hb
  have ha := K1.1
  clear hb KK
  go_wp2_with fail
  refine (nnew_yes c _ (ok_fits HO.out) HO.out).mono ?_
  rintro e w2 ⟨n, b, v, rfl, hN, hb2⟩
  have hH : Hd w w1.heap.size n c b (fun _ => []) v w2 := ⟨hN, (K1.step hb2).1, K1.2.1, hb2.size, (K1.step hb2).2.2⟩
  have HH := Lib.hid hH
  clear hN hb2 hH K1 ha
  obtain ⟨B, hB⟩ : ∃ B, B = w1.heap.size := ⟨_, rfl⟩
  rw [← hB] at HH
  clear hB
  go_wp2_with fail
  go_loopw [35] (fun t wr => RmRel w B n c b ops t wr) (fun t _ => ops.length - (intOf t).toNat)
  case atStart => exact ⟨0, _, _, Nat.zero_le _, rfl, HH.out, good_nil c⟩
  case round =>
    obtain ⟨k, l, v, hk, rfl, hH, hG⟩ := hrel
    have HH2 := Lib.hid hH
    have HG := Lib.hid hG
    have HJ := Lib.hid (HI.out.step (hH.below))
    clear hH hG HH HI
    by_cases hlt : k < ops.length
    · obtain ⟨x, hx⟩ : ∃ x, ops[k]? = some x := ⟨_, List.getElem?_eq_getElem hlt⟩
      obtain ⟨g, off, rfl, hg, hr⟩ := HJ.out k x hx
      have HR := Lib.hid hr
      clear hr hx HJ
      have hb1 : Below wr.heap.size wr (wr.alloc (.cells (opa x) 39)) := (Below.refl _ _).alloc (Nat.le_refl _) _
      have HH3 := Lib.hid (HH2.out.step hb1)
      have HX3 := Lib.hid (Cl.new (t := 39) (A := opa x) wr)
      clear hb1
      go_wp2_with ((with_reducible refine wpList_load_at (op := ⟨some 38, _, _, _, _, _⟩) rfl 39 (.tmp 37) rfl g (off + k * 18) ?lx (opa x) _ ?lc Try.underlying39 ?ld ?li ?_); (case lx => rfl); (case lc => exact HR.out); (case ld => rfl); (case li => kernel_rfl))
      refine (nleft_yes HH3.out.net 0 0 rfl (by omega)).mono ?_
      rintro e w4 ⟨rfl, hb4⟩
      have HH4 := Lib.hid (HH3.out.step hb4)
      have HX4 := Lib.hid (HX3.out.step hb4)
      clear hb4 HH3 HX3 HR hg
      go_wp2_with fail
      refine (nleft_yes HH4.out.net 1 1 rfl (by omega)).mono ?_
      rintro e w5 ⟨rfl, hb5⟩
      have HH5 := Lib.hid (HH4.out.step hb5)
      have HX5 := Lib.hid (HX4.out.step hb5)
      clear hb5 HH4 HX4
      go_wp2_with fail
      refine (nleft_yes HH5.out.net 2 2 rfl (by omega)).mono ?_
      rintro e w6 ⟨rfl, hb6⟩
      have HH6 := Lib.hid (HH5.out.step hb6)
      have HX6 := Lib.hid (HX5.out.step hb6)
      have hc6 := HX6.out.c
      have hs6 := HX6.out.lt
      have ha6 := (fun oo q => (((Below.refl _ w6).alloc (Nat.le_refl _) oo).cell (p := ⟨wr.heap.size, q, none⟩) hs6).trans (hc6 q))
      clear hb6 HH5 HX5
      go_upto_if 48 with fail
      obtain ⟨f, hf⟩ : ∃ f : Nat → Int, f = fun i => room c i - (l i).length := ⟨_, rfl⟩
      have hA7 : Below w6.heap.size w6 (w6.alloc (.cells #[.int .i64 (f 0), .int .i64 (f 1), .int .i64 (f 2)] 22)) := (Below.refl _ _).alloc (Nat.le_refl _) _
      have HH7 := Lib.hid (HH6.out.step hA7)
      have HX7 := Lib.hid (HX6.out.step hA7)
      have HL7 := Lib.hid (Cl.new (t := 22) (A := #[.int .i64 (f 0), .int .i64 (f 1), .int .i64 (f 2)]) w6)
      have e0 : room c 0 - ((l 0).length : Int) = f 0 := by rw [hf]
      have e1 : room c 1 - ((l 1).length : Int) = f 1 := by rw [hf]
      have e2 : room c 2 - ((l 2).length : Int) = f 2 := by rw [hf]
      rw [e0, e1, e2]
      have HF := Lib.hid (show ∀ i, f i = room c i - (l i).length by rw [hf]; exact fun i => rfl)
      clear e0 e1 e2 hf hA7 ha6 hc6 HX6
      obtain ⟨w7, hw7⟩ : ∃ w7, w7 = w6.alloc (.cells #[.int .i64 (f 0), .int .i64 (f 1), .int .i64 (f 2)] 22) := ⟨_, rfl⟩
      rw [← hw7] at HH7 HX7 HL7 ⊢
      have HW := Lib.hid (fun l' w' (hg : NetGave w7 B n c b l' v w') => (⟨HX7.out.gave HH2.out.net hg (Nat.le_refl _), HL7.out.gave HH2.out.net hg (Nat.le_of_lt hs6)⟩ : Cl wr.heap.size (opa x) w' ∧ Cl w6.heap.size #[.int .i64 (f 0), .int .i64 (f 1), .int .i64 (f 2)] w'))
      have HFB := Lib.hid (fun i (hi : i < 3) => (show 0 ≤ f i ∧ f i ≤ 64 by rw [HF.out]; have := HH2.out.net.len i hi; have := room_le HO.out i hi; omega))
      clear hw7 hs6 HH6 HH2
      generalize wr.heap.size = o1 at HX7 HW ⊢
      generalize w6.heap.size = o2 at HL7 HW ⊢
      go_cut [10, 11, 12, 13, 14, 15, 16, 35] (fun s10 s11 _ _ _ _ _ s35 wx => s35 = .int .i64 k ∧ RmCut w B n c b o2 f s10 s11 wx)
      case first =>
        as_aux_lemma =>
        have hoc := HX7.out.c
        by_cases hd0 : x.d = 0
        · have e0 : (x.d == 0) = true := by simp [hd0]
          clear hd0
          rcases Bool.eq_false_or_eq_true (mayM c x.m) with hm | hm
          · obtain ⟨j, hj, hn⟩ := net_cases hm
            by_cases hfl : ((l j).length : Int) < room c j
            · as_aux_lemma =>
              have HN := Lib.hid hn
              have HM := Lib.hid hm
              have HFL := Lib.hid hfl
              clear hn hm hfl
              go_wp2_with fail
              refine (nsend_ok HH7.out.net HH7.out.size x.m j hj HM.out HN.out HFL.out).mono ?_
              rintro e w8 ⟨rfl, hg8⟩
              obtain ⟨hX8, hL8⟩ := HW.out _ _ hg8
              obtain ⟨v8, hH8⟩ := HH7.out.gave hg8
              have HH7l := Lib.hid (show (l j).length ≤ 64 from HH7.out.net.len64 j hj)
              clear hoc hg8 HW HX7 HL7 HH7
              have HH8 := Lib.hid hH8
              have HX8 := Lib.hid hX8
              have HL8 := Lib.hid hL8
              have hoc := HX8.out.c
              clear hH8 hX8 hL8
              go_wp2_with fail
              refine (refNet_any _ _).mono ?_
              rintro e w9 ⟨rfl, hb9⟩
              rw [HN.out]
              have HH9 := Lib.hid (HH8.out.step hb9)
              have HX9 := Lib.hid (HX8.out.step hb9)
              have HL9 := Lib.hid (HL8.out.step hb9)
              clear hoc hb9 HH8 HX8 HL8
              go_wp2_with fail
              have hj3 : (j : Int) < 3 := by omega
              have hj0 : (0 : Int) ≤ (j : Int) := by omega
              obtain ⟨R, hR⟩ : ∃ R, R = room c j := ⟨_, rfl⟩
              obtain ⟨F, hF⟩ : ∃ F, F = f j := ⟨_, rfl⟩
              obtain ⟨N, hN⟩ : ∃ N, N = (l j).length := ⟨_, rfl⟩
              have hN64 : N ≤ 64 := by rw [hN]; exact HH7l.out
              have hwr : IntKind.i64.wrap (R - F) = (N : Int) := by
                have h1 : R - F = (N : Int) := by rw [hR, hF, HF.out, hN]; omega
                rw [h1]
                exact wrap_small (by omega) (by omega)
              have HS : Hid (∀ W, Below w9.heap.size w9 W → W.cell? ⟨w.heap.size, 10 + j, none⟩ = some (.int .i64 R) ∧ W.cell? ⟨o2, j, none⟩ = some (.int .i64 F)) := Lib.hid (fun W hb => ⟨by rw [(HH9.out.step hb).cfg, hR]; exact room_cell c j hj, by rw [(HL9.out.step hb).c, hF]; exact three_cell f j hj⟩)
              have HP9 : Hid (∀ W, Below w9.heap.size w9 W → Calls Try.prog 8 #[.pointer (some ⟨n, 0, none⟩), .int .i64 j, .int .i64 N] W (RetM W x.m (.bool true))) := Lib.hid (fun W hb => nat_yes (HH9.out.step hb).net j j N x.m rfl hj (by rw [upd_same, hN]; simp))
              have hbd : Below w9.heap.size w9 w9.drew := (Below.refl _ _).drew
              have hba : Below w9.heap.size w9 (w9.alloc (.cells (mcells m0) 37)).drew := ((Below.refl _ w9).alloc (Nat.le_refl _) _).drew
              have HD := Lib.hid hbd
              have HBA := Lib.hid hba
              obtain ⟨cd1, cd2⟩ := HS.out _ hbd
              have hq := msg_neq x.m
              have HJ := Lib.hid hj
              clear hR hF hN hbd hba hj
              refine wp_region_noPanic ?_
              refine wp_region_held_drew (S := fun w' => w'.cell? ⟨w.heap.size, 10 + j, none⟩ = some (.int .i64 R) ∧ w'.cell? ⟨o2, j, none⟩ = some (.int .i64 F)) (by kernel_rfl) ⟨cd1, cd2⟩ (fun hh => ?_)
              refine wpAnyH_take (fuel := 16) (i := 0) (oi := ⟨some 60, _, _, _, _, _⟩) (v := .pointer (some ⟨n, 0, none⟩)) rfl (by kernel_rfl) (by kernel_rfl) (by kernel_rfl) (fun _ _ _ h => h) (Or.inl ⟨by rfl, ?_⟩) hh ?_
              · intro w' _
                go_simp
              simp only [Act.put, List.setIfInBounds_toArray, List.set_cons_zero, List.set_cons_succ]
              refine wpAnyH_take (fuel := 15) (i := 1) (oi := ⟨some 61, _, _, _, _, _⟩) (v := .int .i64 j) rfl (by kernel_rfl) (by kernel_rfl) (by kernel_rfl) (fun _ _ _ h => h) (Or.inl ⟨by rfl, ?_⟩) hh ?_
              · intro w' _
                go_simp
              simp only [Act.put, List.setIfInBounds_toArray, List.set_cons_zero, List.set_cons_succ]
              refine wpAnyH_take (fuel := 14) (i := 2) (oi := ⟨some 62, _, _, _, _, _⟩) (v := .int .i64 j) rfl (by kernel_rfl) (by kernel_rfl) (by kernel_rfl) (fun _ _ _ h => h) (Or.inl ⟨by rfl, ?_⟩) hh ?_
              · intro w' _
                go_simp
              simp only [Act.put, List.setIfInBounds_toArray, List.set_cons_zero, List.set_cons_succ]
              refine wpAnyH_take (fuel := 13) (i := 3) (oi := ⟨some 63, _, _, _, _, _⟩) (v := .pointer (some ⟨w.heap.size, 10, none⟩)) rfl (by kernel_rfl) (by kernel_rfl) (by kernel_rfl) (fun _ _ _ h => h) (Or.inl ⟨by rfl, ?_⟩) hh ?_
              · intro w' _
                go_simp
              simp only [Act.put, List.setIfInBounds_toArray, List.set_cons_zero, List.set_cons_succ]
              refine wpAnyH_take (fuel := 12) (i := 4) (oi := ⟨some 64, _, _, _, _, _⟩) (v := .pointer (some ⟨w.heap.size, 10 + j, none⟩)) rfl (by kernel_rfl) (by kernel_rfl) (by kernel_rfl) (fun _ _ _ h => h) (Or.inl ⟨by rfl, ?_⟩) hh ?_
              · intro w' _
                go_simp
              simp only [Act.put, List.setIfInBounds_toArray, List.set_cons_zero, List.set_cons_succ]
              refine wpAnyH_take (fuel := 11) (i := 5) (oi := ⟨some 65, _, _, _, _, _⟩) (v := .int .i64 R) rfl (by kernel_rfl) (by kernel_rfl) (by kernel_rfl) (fun _ _ _ h => h) (Or.inl ⟨by rfl, ?_⟩) hh ?_
              · rintro w' ⟨c0, c1⟩
                go_simp
              simp only [Act.put, List.setIfInBounds_toArray, List.set_cons_zero, List.set_cons_succ]
              refine wpAnyH_take (fuel := 10) (i := 6) (oi := ⟨some 66, _, _, _, _, _⟩) (v := .int .i64 j) rfl (by kernel_rfl) (by kernel_rfl) (by kernel_rfl) (fun _ _ _ h => h) (Or.inl ⟨by rfl, ?_⟩) hh ?_
              · intro w' _
                go_simp
              simp only [Act.put, List.setIfInBounds_toArray, List.set_cons_zero, List.set_cons_succ]
              refine wpAnyH_take (fuel := 9) (i := 7) (oi := ⟨some 67, _, _, _, _, _⟩) (v := .pointer (some ⟨o2, j, none⟩)) rfl (by kernel_rfl) (by kernel_rfl) (by kernel_rfl) (fun _ _ _ h => h) (Or.inl ⟨by rfl, ?_⟩) hh ?_
              · intro w' _
                go_simp
              simp only [Act.put, List.setIfInBounds_toArray, List.set_cons_zero, List.set_cons_succ]
              refine wpAnyH_take (fuel := 8) (i := 8) (oi := ⟨some 68, _, _, _, _, _⟩) (v := .int .i64 F) rfl (by kernel_rfl) (by kernel_rfl) (by kernel_rfl) (fun _ _ _ h => h) (Or.inl ⟨by rfl, ?_⟩) hh ?_
              · rintro w' ⟨c0, c1⟩
                go_simp
              simp only [Act.put, List.setIfInBounds_toArray, List.set_cons_zero, List.set_cons_succ]
              refine wpAnyH_take (fuel := 7) (i := 9) (oi := ⟨some 69, _, _, _, _, _⟩) (v := .int .i64 N) rfl (by kernel_rfl) (by kernel_rfl) (by kernel_rfl) (fun _ _ _ h => h) (Or.inl ⟨by rfl, ?_⟩) hh ?_
              · intro w' _
                go_simp
              simp only [Act.put, List.setIfInBounds_toArray, List.set_cons_zero, List.set_cons_succ]
              refine wpAnyH_ready (fuel := 6) (rs := [10, 14]) (by kernel_rfl) (by simp) ?_
              refine AllReadyH.cons (o := ⟨some 70, _, _, _, _, _⟩) rfl (fun K hK => ?_) (AllReadyH.cons (o := ⟨some 13, _, _, _, _, _⟩) rfl (fun K hK => ?_) AllReadyH.nil)
              · go_simp
                refine (HP9.out _ HD.out).mono ?_
                rintro e w10 ⟨rfl, hb10⟩
                have HB10 := Lib.hid (bstep HD.out hb10)
                show K _ _
                refine hK.out _ _ (HS.out _ HB10.out) (fun hh2 => ?_)
                clear hK K hh hb10
                refine wpAnyH_take (fuel := 5) (i := 11) (oi := ⟨some 59, _, _, _, _, _⟩) (v := .tuple #[mv x.m, .bool true]) rfl (by kernel_rfl) (by kernel_rfl) (by kernel_rfl) (fun _ _ _ h => h) (Or.inl ⟨by rfl, ?_⟩) hh2 ?_
                · intro w' _
                  go_simp
                simp only [Act.put, List.setIfInBounds_toArray, List.set_cons_zero, List.set_cons_succ]
                refine wpAnyH_take (fuel := 4) (i := 12) (oi := ⟨some 71, _, _, _, _, _⟩) (v := mv x.m) rfl (by kernel_rfl) (by kernel_rfl) (by kernel_rfl) (fun _ _ _ h => h) (Or.inl ⟨by rfl, ?_⟩) hh2 ?_
                · intro w' _
                  go_simp
                simp only [Act.put, List.setIfInBounds_toArray, List.set_cons_zero, List.set_cons_succ]
                refine wpAnyH_take (fuel := 3) (i := 13) (oi := ⟨some 72, _, _, _, _, _⟩) (v := .bool true) rfl (by kernel_rfl) (by kernel_rfl) (by kernel_rfl) (fun _ _ _ h => h) (Or.inl ⟨by rfl, ?_⟩) hh2 ?_
                · intro w' _
                  go_simp
                simp only [Act.put, List.setIfInBounds_toArray, List.set_cons_zero, List.set_cons_succ]
                refine wpAnyH_ready (fuel := 2) (rs := [14]) (by kernel_rfl) (by simp) ?_
                refine AllReadyH.cons (o := ⟨some 13, _, _, _, _, _⟩) rfl (fun K hK => ?_) AllReadyH.nil
                go_simp
                have hb11 : Below w10.heap.size w10 (w10.alloc (.cells (mcells m0) 37)) := (Below.refl _ _).alloc (Nat.le_refl _) _
                have HB11 := Lib.hid (bstep HB10.out hb11)
                have hs10 := HB10.out.size
                show K _ _
                refine hK.out _ _ (HS.out _ HB11.out) (fun hh3 => ?_)
                clear hK K hh2 hb11
                refine wpAnyH_ready (fuel := 1) (rs := [15]) (by kernel_rfl) (by simp) ?_
                refine AllReadyH.cons (o := ⟨none, _, _, _, _, _⟩) rfl (fun K hK => ?_) AllReadyH.nil
                rw [if_pos (by rfl)]
                refine wp_store_row 37 (.tmp 13) (.tmp 71) rfl w10.heap.size (mcells x.m) rfl rfl 37 (mcells m0) (heap_alloc_new w10 _) (by kernel_rfl) rfl (by kernel_rfl) ?_
                have HB12 := Lib.hid (below_setRow HB11.out hs10 (mcells x.m))
                have HC12 := Lib.hid (setRow_heap _ w10.heap.size _ (mcells x.m) 37 (0, 0) (heap_alloc_new w10 (.cells (mcells m0) 37)))
                refine hK.out _ _ (HS.out _ HB12.out) (fun hh4 => ?_)
                clear hK K hh3
                simp only [Act.put]
                refine wpAnyH_take (fuel := 0) (i := 16) (oi := ⟨some 14, _, _, _, _, _⟩) (v := .bool true) rfl (by kernel_rfl) (by kernel_rfl) (by kernel_rfl) (fun _ _ _ h => h) (Or.inl ⟨by rfl, ?_⟩) hh4 ?_
                · intro w' _
                  go_simp
                simp only [Act.put, List.setIfInBounds_toArray, List.set_cons_zero, List.set_cons_succ]
                refine wpAnyH_done (by kernel_rfl) ?_ _
                refine NoPanic.normal ?_
                have hop := (HX9.out.step HB12.out).c
                have hcm := blk_cell HC12.out
                have HH12 := Lib.hid (HH9.out.step HB12.out)
                have HL12 := Lib.hid (HL9.out.step HB12.out)
                clear hh4 cd1 cd2
                go_wp2_with fail
                go_meet
                case rel => exact ⟨rfl, ((j : Nat) : Int), -1, _, v8, rfl, rfl, .inr rfl, fun i _ => want_send HF.out j x.m i, HH12.out, HG.out.send HN.out HM.out, HL12.out⟩
              · go_simp
                have hz9 := heap_alloc_new w9 (.cells (mcells m0) 37)
                show K _ _
                refine hK.out _ _ (HS.out _ HBA.out) (fun hh2 => ?_)
                clear hK K hh
                refine wpAnyH_ready (fuel := 5) (rs := [10]) (by kernel_rfl) (by simp) ?_
                refine AllReadyH.cons (o := ⟨some 70, _, _, _, _, _⟩) rfl (fun K hK => ?_) AllReadyH.nil
                go_simp
                refine (HP9.out _ HBA.out).mono ?_
                rintro e w10 ⟨rfl, hb10⟩
                have HB10 := Lib.hid (bstep HBA.out hb10)
                have hz10 := (hb10.block w9.heap.size (by show _ < (w9.alloc _).heap.size; simp)).trans hz9
                show K _ _
                refine hK.out _ _ (HS.out _ HB10.out) (fun hh3 => ?_)
                clear hK K hh2 hb10 hz9
                refine wpAnyH_take (fuel := 4) (i := 11) (oi := ⟨some 59, _, _, _, _, _⟩) (v := .tuple #[mv x.m, .bool true]) rfl (by kernel_rfl) (by kernel_rfl) (by kernel_rfl) (fun _ _ _ h => h) (Or.inl ⟨by rfl, ?_⟩) hh3 ?_
                · intro w' _
                  go_simp
                simp only [Act.put, List.setIfInBounds_toArray, List.set_cons_zero, List.set_cons_succ]
                refine wpAnyH_take (fuel := 3) (i := 12) (oi := ⟨some 71, _, _, _, _, _⟩) (v := mv x.m) rfl (by kernel_rfl) (by kernel_rfl) (by kernel_rfl) (fun _ _ _ h => h) (Or.inl ⟨by rfl, ?_⟩) hh3 ?_
                · intro w' _
                  go_simp
                simp only [Act.put, List.setIfInBounds_toArray, List.set_cons_zero, List.set_cons_succ]
                refine wpAnyH_take (fuel := 2) (i := 13) (oi := ⟨some 72, _, _, _, _, _⟩) (v := .bool true) rfl (by kernel_rfl) (by kernel_rfl) (by kernel_rfl) (fun _ _ _ h => h) (Or.inl ⟨by rfl, ?_⟩) hh3 ?_
                · intro w' _
                  go_simp
                simp only [Act.put, List.setIfInBounds_toArray, List.set_cons_zero, List.set_cons_succ]
                refine wpAnyH_ready (fuel := 1) (rs := [15]) (by kernel_rfl) (by simp) ?_
                refine AllReadyH.cons (o := ⟨none, _, _, _, _, _⟩) rfl (fun K hK => ?_) AllReadyH.nil
                rw [if_pos (by rfl)]
                refine wp_store_row 37 (.tmp 13) (.tmp 71) rfl w9.heap.size (mcells x.m) rfl rfl 37 (mcells m0) hz10 (by kernel_rfl) rfl (by kernel_rfl) ?_
                have HB12 := Lib.hid (below_setRow HB10.out (Nat.le_refl _) (mcells x.m))
                have HC12 := Lib.hid (setRow_heap w10 w9.heap.size _ (mcells x.m) 37 (0, 0) hz10)
                refine hK.out _ _ (HS.out _ HB12.out) (fun hh4 => ?_)
                clear hK K hh3
                simp only [Act.put]
                refine wpAnyH_take (fuel := 0) (i := 16) (oi := ⟨some 14, _, _, _, _, _⟩) (v := .bool true) rfl (by kernel_rfl) (by kernel_rfl) (by kernel_rfl) (fun _ _ _ h => h) (Or.inl ⟨by rfl, ?_⟩) hh4 ?_
                · intro w' _
                  go_simp
                simp only [Act.put, List.setIfInBounds_toArray, List.set_cons_zero, List.set_cons_succ]
                refine wpAnyH_done (by kernel_rfl) ?_ _
                refine NoPanic.normal ?_
                have hop := (HX9.out.step HB12.out).c
                have hcm := blk_cell HC12.out
                have HH12 := Lib.hid (HH9.out.step HB12.out)
                have HL12 := Lib.hid (HL9.out.step HB12.out)
                clear hh4 cd1 cd2
                go_wp2_with fail
                go_meet
                case rel => exact ⟨rfl, ((j : Nat) : Int), -1, _, v8, rfl, rfl, .inr rfl, fun i _ => want_send HF.out j x.m i, HH12.out, HG.out.send HN.out HM.out, HL12.out⟩
            · as_aux_lemma =>
              have HP := Lib.hid (nsend_full HH7.out.net x.m j hj hm hn (by have := HH7.out.net.len j hj; omega))
              clear hn hm hfl
              go_wp2_with fail
              refine HP.out.mono ?_
              rintro e w8 ⟨rfl, hb8⟩
              have HH8 := Lib.hid (HH7.out.step hb8)
              have HX8 := Lib.hid (HX7.out.step hb8)
              have HL8 := Lib.hid (HL7.out.step hb8)
              clear hoc hb8 HW HX7 HL7 HH7 HP
              have hoc := HX8.out.c
              go_wp2_with fail
              refine (refNet_any _ _).mono ?_
              rintro e w9 ⟨rfl, hb9⟩
              have HH9 := Lib.hid (HH8.out.step hb9)
              have HL9 := Lib.hid (HL8.out.step hb9)
              clear hoc hb9 HH8 HX8 HL8
              go_wp2_with fail
              go_meet
              case rel => exact ⟨rfl, -1, -1, l, v, rfl, rfl, .inr rfl, fun i hi => by rw [if_neg (by omega), HF.out]; omega, HH9.out, HG.out, HL9.out⟩
          · as_aux_lemma =>
            have HP := Lib.hid (nsend_bad HH7.out.net x.m hm)
            clear hm
            go_wp2_with fail
            refine HP.out.mono ?_
            rintro e w8 ⟨rfl, hb8⟩
            have HH8 := Lib.hid (HH7.out.step hb8)
            have HX8 := Lib.hid (HX7.out.step hb8)
            have HL8 := Lib.hid (HL7.out.step hb8)
            clear hoc hb8 HW HX7 HL7 HH7 HP
            have hoc := HX8.out.c
            go_wp2_with fail
            refine (refNet_any _ _).mono ?_
            rintro e w9 ⟨rfl, hb9⟩
            have HH9 := Lib.hid (HH8.out.step hb9)
            have HL9 := Lib.hid (HL8.out.step hb9)
            clear hoc hb9 HH8 HX8 HL8
            go_wp2_with fail
            go_meet
            case rel => exact ⟨rfl, -1, -1, l, v, rfl, rfl, .inr rfl, fun i hi => by rw [if_neg (by omega), HF.out]; omega, HH9.out, HG.out, HL9.out⟩
        · as_aux_lemma =>
          have e0 : (x.d == 0) = false := by simpa using hd0
          clear hd0
          by_cases hno : (x.k < 0 ∨ 3 ≤ x.k) ∨ ∃ j : Nat, j < 3 ∧ x.k = j ∧ (x.i < 0 ∨ ((l j).length : Int) ≤ x.i)
          · have HP : Hid (Calls Try.prog 14 #[.pointer (some ⟨n, 0, none⟩), .int .i64 x.k, .int .i64 x.i] w7 (TakM m0 5 (Below w7.heap.size w7))) := Lib.hid (by
              rcases hno with hno | ⟨j, hj, hkj, hn⟩
              · exact ntake_no _ x.k x.i w7 hno
              · exact ntake_none HH7.out.net j x.k x.i hkj hj hn)
            clear hno
            go_wp2_with fail
            refine HP.out.mono ?_
            rintro e w8 ⟨rfl, hb8⟩
            have hb9 := bstep hb8 ((Below.refl _ w8).alloc (Nat.le_refl _) (.cells (mcells m0) 37))
            have HH8 := Lib.hid (HH7.out.step hb9)
            have HL8 := Lib.hid (HL7.out.step hb9)
            clear hoc hb8 hb9 HW HX7 HL7 HH7 HP
            go_wp2_with fail
            go_meet
            case rel => exact ⟨rfl, -1, -1, l, v, rfl, rfl, .inr rfl, fun i hi => by rw [if_neg (by omega), HF.out]; omega, HH8.out, HG.out, HL8.out⟩
          · obtain ⟨j, hj, hkj⟩ : ∃ j : Nat, j < 3 ∧ x.k = j := ⟨x.k.toNat, by omega, by omega⟩
            have hir : ¬ (x.i < 0 ∨ ((l j).length : Int) ≤ x.i) := fun e => hno (.inr ⟨j, hj, hkj, e⟩)
            obtain ⟨i, hi⟩ : ∃ i : Nat, x.i = i := ⟨x.i.toNat, by omega⟩
            have hil : i < (l j).length := by omega
            obtain ⟨y, hy⟩ : ∃ y, (l j)[i]? = some y := ⟨_, List.getElem?_eq_getElem hil⟩
            have HP : Hid (Calls Try.prog 14 #[.pointer (some ⟨n, 0, none⟩), .int .i64 x.k, .int .i64 x.i] w7 (TakM y 0 (NetGave w7 B n c b (upd l j ((l j).eraseIdx i)) v))) := Lib.hid (by
              rw [hi]
              exact ntake_yes HH7.out.net j x.k i y hkj hj hy)
            have HNE := Lib.hid (HG.out j hj y (List.mem_of_getElem? hy)).1
            have hkk : ((j : Int) != x.k) = false := by simp [hkj]
            have HIL := Lib.hid hil
            clear hno hir hi hil hy hkj hj
            go_wp2_with fail
            refine HP.out.mono ?_
            rintro e w8 ⟨rfl, hg8⟩
            obtain ⟨hX8, hL8⟩ := HW.out _ _ hg8
            obtain ⟨v8, hH8⟩ := HH7.out.gave hg8
            have hb9 := (Below.refl _ w8).alloc (Nat.le_refl _) (.cells (mcells y) 37)
            have HH8 := Lib.hid (hH8.step hb9)
            have HX8 := Lib.hid (hX8.step hb9)
            have HL8 := Lib.hid (hL8.step hb9)
            clear hoc hg8 HW HX7 HL7 HH7 HP hX8 hL8 hH8 hb9
            go_wp2_with fail
            refine (refNet_any _ _).mono ?_
            rintro e w9 ⟨rfl, hb9⟩
            rw [HNE.out]
            have HH9 := Lib.hid (HH8.out.step hb9)
            have HL9 := Lib.hid (HL8.out.step hb9)
            have hoc := (HX8.out.step hb9).c
            clear hb9 HH8 HX8 HL8
            go_wp2_with fail
            go_meet
            case rel => exact ⟨rfl, (j : Int), 1, _, v8, rfl, rfl, .inl rfl, fun q _ => want_take HF.out j i HIL.out q, HH9.out, HG.out.take j i, HL9.out⟩
      case rest =>
        as_aux_lemma =>
        obtain ⟨rfl, kk, by_, l', v', rfl, rfl, hby, hw, hH, hG', hL⟩ := hcut
        have HW2 := Lib.hid hw
        have HH3 := Lib.hid hH
        have HG3 := Lib.hid hG'
        have HL3 := Lib.hid hL
        have HBY := Lib.hid hby
        clear hw hH hG' hL hby HW HX7 HL7 HH7 HG
        go_wp2_with fail
        go_loopw [99] (fun t wq => ∃ i : Nat, i ≤ 3 ∧ t = .int .i64 i ∧ Hd w B n c b l' v' wq ∧ Cl o2 #[.int .i64 (f 0), .int .i64 (f 1), .int .i64 (f 2)] wq) (fun t _ => 3 - (intOf t).toNat)
        case atStart => exact ⟨0, by omega, rfl, HH3.out, HL3.out⟩
        case round =>
          obtain ⟨i, hi, rfl, hH, hL⟩ := hrel
          have HH4 := Lib.hid hH
          have HL4 := Lib.hid hL
          clear hH hL HH3 HL3
          by_cases hlt3 : i < 3
          · obtain ⟨R, hR⟩ : ∃ R, R = room c i := ⟨_, rfl⟩
            obtain ⟨L, hL⟩ : ∃ L, L = l' i := ⟨_, rfl⟩
            obtain ⟨N, hN⟩ : ∃ N, N = L.length := ⟨_, rfl⟩
            obtain ⟨F, hF⟩ : ∃ F, F = f i := ⟨_, rfl⟩
            obtain ⟨V, hV⟩ : ∃ V, V = R - (N : Int) := ⟨_, rfl⟩
            have hNR : (N : Int) ≤ R := by rw [hN, hL, hR]; exact HH4.out.net.len i hlt3
            have hR1 : 1 ≤ R ∧ R ≤ 64 := by rw [hR]; exact room_le HO.out i hlt3
            have hF1 : 0 ≤ F ∧ F ≤ 64 := by rw [hF]; exact HFB.out i hlt3
            have hFV : F + (if (i : Int) = kk then by_ else 0) = V := by rw [hF, hV, hR, hN, hL]; exact HW2.out i hlt3
            have hsub : R - V = (N : Int) := by omega
            have hV0 : 0 ≤ V := by omega
            have hV1 : V ≤ 64 := by omega
            have hVn : decide (V < 0) = false := by simp; omega
            have hcF : wr.cell? ⟨o2, i, none⟩ = some (.int .i64 F) := by rw [HL4.out.c, hF]; exact three_cell f i hlt3
            have HPL : Hid (∀ W, Below wr.heap.size wr W → Calls Try.prog 10 #[.pointer (some ⟨n, 0, none⟩), .int .i64 i] W fun e w' => e = .returned (.int .i64 V) ∧ Below W.heap.size W w') := Lib.hid (fun W hb => by
              rw [hV, hR, hN, hL]
              exact nleft_yes (HH4.out.step hb).net i i rfl hlt3)
            have HPT : Hid (∀ W, Below wr.heap.size wr W → Calls Try.prog 17 #[.pointer (some ⟨n, 0, none⟩), .int .i64 i] W fun e w' => (∃ p cap, e = .returned (.slice p N cap) ∧ MgsIn w' p L) ∧ Below W.heap.size W w') := Lib.hid (fun W hb => by
              have := nlistN (HH4.out.step hb).net i i rfl hlt3 N (by rw [hN, hL])
              rwa [← hL] at this)
            have HCR : Hid (∀ W, Below wr.heap.size wr W → W.cell? ⟨w.heap.size, 10 + i, none⟩ = some (.int .i64 R)) := Lib.hid (fun W hb => by rw [(HH4.out.step hb).cfg, hR]; exact room_cell c i hlt3)
            have HGL : Hid (∀ q y, L[q]? = some y → net y.kd = i ∧ mayM c y = true) := Lib.hid (fun q y hy => HG3.out i hlt3 y (hL ▸ List.mem_of_getElem? hy))
            have HN := Lib.hid hN
            have hN64 : N ≤ 64 := by omega
            have h0R : 0 ≤ R := by omega
            have hR64 : R ≤ 64 := hR1.2
            obtain ⟨hF0, hF64⟩ := hF1
            clear hR hL hN hF hR1
            obtain ⟨wo, rfl⟩ : ∃ wo : World, wo = wr := ⟨_, rfl⟩
            go_upto_if 107 with fail
            go_cut [18, 99] (fun s18 s99 wx => s18 = .int .i64 V ∧ s99 = .int .i64 i ∧ Below wo.heap.size wo wx)
            case first =>
              rcases (show ((i : Int) = kk ∧ F + by_ = V) ∨ ((i : Int) ≠ kk ∧ F = V) by
                by_cases e : (i : Int) = kk
                · rw [if_pos e] at hFV; exact .inl ⟨e, hFV⟩
                · rw [if_neg e] at hFV; exact .inr ⟨e, by omega⟩) with ⟨e1, e2⟩ | ⟨e1, e2⟩
              · have ek : ((i : Int) == kk) = true := by simpa using e1
                clear e1 hFV hV
                rcases HBY.out with rfl | rfl
                · have hs1 : wrap64 (F + 1) = V := by rw [e2]; unfold wrap64; omega
                  go_wp2_with fail
                  go_meet
                  case rel => exact ⟨rfl, rfl, Below.refl _ _⟩
                · have hs1 : wrap64 (F + -1) = V := by rw [e2]; unfold wrap64; omega
                  go_wp2_with fail
                  go_meet
                  case rel => exact ⟨rfl, rfl, Below.refl _ _⟩
              · have ek : ((i : Int) == kk) = false := by simpa using e1
                clear e1 hFV hV
                subst e2
                go_wp2_with fail
                go_meet
                case rel => exact ⟨rfl, rfl, Below.refl _ _⟩
            case rest =>
              obtain ⟨rfl, rfl, hbx⟩ := hcut
              have HBX := Lib.hid hbx
              have hcr := HCR.out _ hbx
              have HV := Lib.hid hV
              have hwr : IntKind.i64.wrap (R - V) = (N : Int) := by rw [hsub]; exact wrap_small (by omega) (by omega)
              clear hbx hFV hV hsub hcF
              go_wp2_with fail
              go_region_held3 (fun w' => w'.cell? ⟨w.heap.size, 10 + i, none⟩ = some (.int .i64 R))
                (first | exact HCR.out _ HB11.out | exact HCR.out _ HB10.out | exact HCR.out _ HBX.out | go_keep)
                (first
                  | (go_at_call 10; refine (HPL.out _ (by first | exact HBX.out | exact HBX.out.drew)).mono ?_; rintro e w10 ⟨rfl, hb10⟩; have HB10 := (by first | exact Lib.hid (bstep HBX.out hb10) | exact Lib.hid (bstep HBX.out.drew hb10)); clear hb10)
                  | (go_at_call 17; refine (HPT.out _ (by first | exact HB10.out | exact HB10.out.drew)).mono ?_; rintro e w11 ⟨⟨p11, c11, rfl, -⟩, hb11⟩; have HB11 := (by first | exact Lib.hid (bstep HB10.out hb11) | exact Lib.hid (bstep HB10.out.drew hb11)); clear hb11))
              clear hcr hwr HBX HB10
              as_aux_lemma =>
              go_wp2_with fail
              refine (HPT.out _ HB11.out).mono ?_
              rintro e w12 ⟨⟨p12, c12, rfl, hm12⟩, hb12⟩
              have HB12 := Lib.hid (bstep HB11.out hb12)
              have HM12 := Lib.hid hm12
              clear hb12 hm12 HB11
              go_wp2_with fail
              go_loopw [137] (fun t wq => ∃ q : Nat, q ≤ N ∧ t = .int .i64 q ∧ Below wo.heap.size wo wq ∧ MgsIn wq p12 L) (fun t _ => N - (intOf t).toNat)
              case atStart => exact ⟨0, Nat.zero_le _, rfl, HB12.out, HM12.out⟩
              case round =>
                obtain ⟨q, hq, rfl, hbq, hmq⟩ := hrel
                have HBQ := Lib.hid hbq
                have HMQ := Lib.hid hmq
                clear hbq hmq HB12 HM12
                by_cases hql : q < N
                · obtain ⟨y, hy⟩ : ∃ y, L[q]? = some y := ⟨_, List.getElem?_eq_getElem (by rw [← HN.out]; exact hql)⟩
                  obtain ⟨g5, rfl, hg5, hr5⟩ := HMQ.out q y hy
                  have HNY := Lib.hid (HGL.out q y hy).1
                  have HMY := Lib.hid (HGL.out q y hy).2
                  have HR5 := Lib.hid hr5
                  have hb13 : Below wr.heap.size wr (wr.alloc (.cells (mcells y) 37)) := (Below.refl _ _).alloc (Nat.le_refl _) _
                  have HB13 := Lib.hid (bstep HBQ.out hb13)
                  have HM13 := Lib.hid (HMQ.out.step hb13)
                  have HY13 := Lib.hid (Cl.new (t := 37) (A := mcells y) wr)
                  clear hy hr5 hg5 hb13 HBQ HMQ
                  go_wp2_with ((with_reducible refine wpList_load_at (op := ⟨some 140, _, _, _, _, _⟩) rfl 37 (.tmp 139) rfl g5 (q * 15) ?lx (mcells y) _ ?lc Try.underlying37 ?ld ?li ?_); (case lx => rfl); (case lc => exact HR5.out); (case ld => rfl); (case li => kernel_rfl))
                  refine (refNet_any _ _).mono ?_
                  rintro e w14 ⟨rfl, hb14⟩
                  rw [HNY.out]
                  have HB14 := Lib.hid (bstep HB13.out hb14)
                  have HM14 := Lib.hid (HM13.out.step hb14)
                  have hcy := (HY13.out.step hb14).c
                  have hcc := (HH4.out.step HB14.out).cfg
                  clear hb14 HB13 HM13 HY13 HR5
                  go_wp2_with fail
                  refine (refMay_any c y _).mono ?_
                  rintro e w15 ⟨rfl, hb15⟩
                  rw [HMY.out]
                  have HB15 := Lib.hid (bstep HB14.out hb15)
                  have HM15 := Lib.hid (HM14.out.step hb15)
                  clear hb15 hcy hcc HB14 HM14
                  go_wp2_with fail
                  go_roundw
                  case rel => exact ⟨q + 1, by omega, by go_num, HB15.out, HM15.out⟩
                  case measure => simp [intOf]; omega
                · obtain rfl : N = q := by omega
                  clear hql
                  go_wp2_with fail
                  go_roundw
                  case rel => exact ⟨i + 1, by omega, by go_num, HH4.out.step HBQ.out, HL4.out.step HBQ.out⟩
                  case measure => simp [intOf]; omega
          · obtain rfl : i = 3 := by omega
            clear hlt3
            go_wp2_with fail
            go_roundw
            case rel => exact ⟨k + 1, l', v', by omega, by go_num, HH4.out, HG3.out⟩
            case measure => simp [intOf]; omega
    · have hd : k = ops.length := by omega
      have HB := Lib.hid HH2.out.below
      clear HH2 hd
      go_wp2
      go_ret
      exact ⟨rfl, HB.out⟩

/-- NetRooms, all ways. -/
theorem netRooms_any (c : Cfg) (p : Option Addr) (cap : Nat) (ops : List OpN) (w : World) (hc : c.fits) (hin : OpsN w p ops) (hm : ops.length ≤ 9223372036854775807) :
    Calls Try.prog 4 #[cv c, .slice p ops.length cap] w (Holds7 w) := by
  rcases Nat.lt_or_ge 100 ops.length with h | h
  · exact rooms_long c p cap ops w hm h
  · rcases Bool.eq_false_or_eq_true (okC c) with hok | hok
    · exact rooms_yes c p cap ops w hin h hok
    · exact rooms_no c p cap ops w hc h hok

end Go.Proofs.Ytdggjbaapnkcgaa
