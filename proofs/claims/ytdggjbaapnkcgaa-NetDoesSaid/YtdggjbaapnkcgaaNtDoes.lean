/-
  NetDoes, its walk.
-/
import Derived.Test.YtdggjbaapnkcgaaNtY
import Derived.Test.YtdggjbaapnkcgaaNtJ
import Derived.Deep.RegionHeld3
import Derived.Deep.CutRange
import Derived.Deep.DeepCutAuto
namespace Go.Proofs.Ytdggjbaapnkcgaa
open Go Go.RowKit Go.Sort

set_option maxRecDepth 100000 in
theorem does_long (c : Cfg) (p : Option Addr) (cap : Nat) (l : List OpN) (line : Int) (w : World) (hm : l.length ≤ 9223372036854775807) (h : 100 < l.length) :
    Calls Try.prog 3 #[cv c, .slice p l.length cap, .int .i64 line] w (Holds7 w) := by
  go_enter Try.func3, Try.ntmps3
  go_wp2_with (go_at_call 5; refine (awake7_any _).mono ?_; rintro e w1 ⟨rfl, hb⟩)
  go_ret
  exact ⟨rfl, bbox hb⟩
set_option maxRecDepth 100000 in
set_option maxHeartbeats 2000000 in
theorem does_no (c : Cfg) (p : Option Addr) (cap : Nat) (l : List OpN) (line : Int) (w : World) (hc : c.fits) (h : l.length ≤ 100) (hok : okC c = false) :
    Calls Try.prog 3 #[cv c, .slice p l.length cap, .int .i64 line] w (Holds7 w) := by
  have HC := Lib.hid hc
  have HO := Lib.hid hok
  have KK := Kp.box w (ccells c) 24
  clear hc hok
  go_enter Try.func3, Try.ntmps3
  go_wp2_with fail
  refine (awake7_any _).mono ?_
  rintro e w1 ⟨rfl, hb⟩
  have K1 := KK.step hb
  have ha := K1.1
  clear hb KK
  go_wp2_with fail
  refine (nnew_no c _ HC.out HO.out).mono ?_
  rintro e w2 ⟨rfl, hb2⟩
  have K2' := K1.step hb2
  have ha2 := K2'.1
  clear hb2 ha K1
  go_wp2_with fail
  refine (rnew_no c _ HO.out).mono ?_
  rintro e w3 ⟨rfl, hb3⟩
  have HB := Lib.hid (bstep K2'.2.2 hb3)
  clear hb3 ha2 K2'
  go_wp2_with fail
  go_loopw [11] (fun t wr => t = .int .i64 0 ∧ Below w.heap.size w wr) (fun _ _ => 0)
  case atStart => exact ⟨rfl, HB.out⟩
  case round =>
    obtain ⟨rfl, hb⟩ := hrel
    go_wp2_with fail
    go_ret
    exact ⟨rfl, hb⟩

theorem Cl.grown {g : Nat} {A : Array Value} {wr : World} (h : Cl g A wr) : ∀ o d os, (grow (redrawn wr d) os).cell? ⟨g, o, none⟩ = A[o]? := fun o d os => (h.step (below_regrown wr d os)).c o

set_option maxRecDepth 1000000 in
set_option maxHeartbeats 8000000 in
theorem does_yes (c : Cfg) (p : Option Addr) (cap : Nat) (ops : List OpN) (line : Int) (w : World) (hin : OpsN w p ops) (h : ops.length ≤ 100) (hok : okC c = true) :
    Calls Try.prog 3 #[cv c, .slice p ops.length cap, .int .i64 line] w (Holds7 w) := by
  have HI := Lib.hid hin
  have HO := Lib.hid hok
  have KK := Kp.box w (ccells c) 24
  clear hin hok
  go_enter Try.func3, Try.ntmps3
  go_wp2_with fail
  refine (awake7_any _).mono ?_
  rintro e w1 ⟨rfl, hb⟩
  have K1 := KK.step hb
  have ha := K1.1
  clear hb KK
  go_wp2_with fail
  refine (nnew_yes c _ (ok_fits HO.out) HO.out).mono ?_
  rintro e w2 ⟨n, b, v, rfl, hN, hb2⟩
  have K2' := K1.step hb2
  have ha2 := K2'.1
  have HN := Lib.hid hN
  have hs2 := hb2.size
  clear hN hb2 ha
  go_wp2_with fail
  refine (rnew_yes c _ HO.out).mono ?_
  rintro e w3 ⟨r, u, rfl, hR, hb3⟩
  have hT : Two w w1.heap.size n r c b (fun _ => []) (fun _ => []) [] w3 :=
    ⟨v, u, HN.out.below hb3, ⟨hR.blk, fun k hk => own_base (hR.row k hk) (fun q hq => by have := ((hR.row k hk).lt q hq).1; omega), hR.len, hR.off, by have := hR.big; omega, hR.ok⟩,
      fun k hk hr => by have h1 := (HN.out.foot k hk).2; have h2 := (hR.foot k hr).1; omega, fun p hp => (by cases hp), Nat.le_of_lt K1.2.1, Nat.le_trans hs2 hb3.size, bstep K2'.2.2 hb3⟩
  have HT := Lib.hid hT
  clear hR hT hb3 ha2 K2' HN K1 hs2
  obtain ⟨B, hB⟩ : ∃ B, B = w1.heap.size := ⟨_, rfl⟩
  rw [← hB] at HT
  clear hB
  go_wp2_with fail
  go_loopw [11] (fun t wr => ∃ (k : Nat) (l : Nat → List Msg), k ≤ ops.length ∧ t = .int .i64 k ∧ Two w B n r c b l l [] wr) (fun t _ => ops.length - (intOf t).toNat)
  case atStart => exact ⟨0, _, Nat.zero_le _, rfl, HT.out⟩
  case round =>
    obtain ⟨k, l, hk, rfl, hT⟩ := hrel
    have HT0 := Lib.hid hT
    have HJ := Lib.hid (HI.out.step hT.below)
    clear hT HT HI
    by_cases hlt : k < ops.length
    · obtain ⟨x, hx⟩ : ∃ x, ops[k]? = some x := ⟨_, List.getElem?_eq_getElem hlt⟩
      obtain ⟨g, off, rfl, hg, hr⟩ := HJ.out k x hx
      have HR := Lib.hid hr
      clear hr hx HJ
      obtain ⟨xa, qa, hA1, hA2⟩ := both_at (w := w) (B := B) (n := n) (r := r) (b := b) c l x.k x.i
      obtain ⟨z, hL1, hL2⟩ := both_left (w := w) (B := B) (n := n) (r := r) (b := b) c l x.k
      have HA1 := Lib.hid hA1
      have HA2 := Lib.hid hA2
      have HL1 := Lib.hid hL1
      have HL2 := Lib.hid hL2
      clear hA1 hA2 hL1 hL2
      have HT1 := Lib.hid (HT0.out.add (t := 39) (opa x))
      have hc1 := (HT1.out.cl (g := wr.heap.size) (A := opa x) (by simp)).c
      go_wp2_with ((with_reducible refine wpList_load_at (op := ⟨some 61, _, _, _, _, _⟩) rfl 39 (.tmp 60) rfl g (off + k * 18) ?lx (opa x) _ ?lc Try.underlying39 ?ld ?li ?_); (case lx => rfl); (case lc => exact HR.out); (case ld => rfl); (case li => kernel_rfl))
      refine (HA1.out _ _ _ HT1.out).mono ?_
      rintro e w4 ⟨rfl, hb4⟩
      have HT4 := Lib.hid (((HT1.out.step hb4)).add (t := 37) (mcells xa))
      have hc4 := (HT4.out.cl (g := wr.heap.size) (A := opa x) (by simp)).c
      clear hb4 HT1 hc1 HR hg
      go_wp2_with fail
      refine (HA2.out _ _ _ HT4.out).mono ?_
      rintro e w5 ⟨rfl, hb5⟩
      have HT5 := Lib.hid (((HT4.out.step hb5)).add (t := 37) (mcells xa))
      clear hb5 HT4 hc4
      have HC1 := Lib.hid (HT5.out.cl (g := wr.heap.size) (A := opa x) (by simp))
      have HC2 := Lib.hid (HT5.out.cl (g := w4.heap.size) (A := mcells xa) (by simp))
      have HC3 := Lib.hid (HT5.out.cl (g := w5.heap.size) (A := mcells xa) (by simp))
      go_wp2_with fail
      obtain ⟨w6, hw6⟩ : ∃ X, X = w5.alloc (.cells (mcells xa) 37) := ⟨_, rfl⟩
      rw [← hw6] at HT5 HC1 HC2 HC3 ⊢
      clear hw6
      as_aux_lemma =>
      have hg1 := HC1.out.grown
      have hg2 := HC2.out.grown
      have hg3 := HC3.out.grown
      have hq := msg_neq xa
      refine wp_region_quiet_below (by kernel_rfl) (by kernel_rfl) ?_
      repeat (go_big_quiet_step (first
        | (go_at_call 10; exact Calls.regrown_of (HL1.out _ _ _ (HT5.out.step (below_regrown _ _ _))))
        | (go_at_call 11; exact Calls.regrown_of (HL2.out _ _ _ (HT5.out.step (below_regrown _ _ _))))))
      refine wpQuiet_nil ?_
      rintro w7 ⟨pp, hw7⟩
      have hb7 : Below w6.heap.size w6 w7 := by rw [hw7]; exact below_regrown _ _ _
      have HT7 := Lib.hid (HT5.out.step hb7)
      clear hb7 hw7 hg1 hg2 hg3 hq HT5 HC1 HC2 HC3 HA1 HA2 HL1 HL2
      generalize wr.heap.size = o1 at HT7 ⊢
      have hc1 := (HT7.out.cl (g := o1) (A := opa x) (by simp)).c
      as_aux_lemma =>
      go_upto_if 101 with fail
      go_cut [17, 18, 19, 20] (fun _ _ _ _ wx => ∃ l', Two w B n r c b l' l' [] wx)
      case first =>
        as_aux_lemma =>
        by_cases hd0 : x.d = 0
        · have e0 : (x.d == 0) = true := by simp [hd0]
          clear hd0
          obtain ⟨zs, l', hS1, hS2⟩ := both_send (w := w) (B := B) (n := n) (r := r) (b := b) l x.m (fun k hk => HT7.out.len k hk)
          have HS1 := Lib.hid hS1
          have HS2 := Lib.hid hS2
          clear hS1 hS2
          go_wp2_with fail
          go_region_held3 (fun w' => ∀ o, w'.cell? ⟨o1, o, none⟩ = (opa x)[o]?)
            (first | exact (HT9.out.cl (g := o1) (A := opa x) (by simp)).c | exact (HT8.out.cl (g := o1) (A := opa x) (by simp)).c | exact (HT7.out.cl (g := o1) (A := opa x) (by simp)).c | go_keep)
            (first
              | (go_at_call 12; refine (HS1.out _ _ _ (by first | exact HT7.out.drew | exact HT7.out)).mono ?_; rintro e w8 ⟨rfl, hT8⟩; have HT8 := Lib.hid hT8; clear hT8)
              | (go_at_call 13; refine (HS2.out _ _ _ (by first | exact HT8.out | exact HT8.out.drew)).mono ?_; rintro e w9 ⟨rfl, hT9⟩; have HT9 := Lib.hid hT9; clear hT9))
          all_goals
            go_wp2_with fail
            go_meet
            case rel => exact ⟨l', HT9.out.drop⟩
        · have e0 : (x.d == 0) = false := by simpa using hd0
          clear hd0
          obtain ⟨y, zs, l', hS1, hS2⟩ := both_take (w := w) (B := B) (n := n) (r := r) (b := b) c l x.k x.i
          have HS1 := Lib.hid hS1
          have HS2 := Lib.hid hS2
          have hq := msg_neq y
          clear hS1 hS2
          go_wp2_with fail
          refine (HS1.out _ _ _ HT7.out).mono ?_
          rintro e w8 ⟨rfl, hT8⟩
          have HT8 := Lib.hid (hT8.add (t := 37) (mcells y))
          clear hT8 hc1
          have hc1 := (HT8.out.cl (g := o1) (A := opa x) (by simp)).c
          go_wp2_with fail
          refine (HS2.out _ _ _ HT8.out).mono ?_
          rintro e w9 ⟨rfl, hT9⟩
          have HT9 := Lib.hid (hT9.add (t := 37) (mcells y))
          have hc8 := (HT9.out.cl (g := w8.heap.size) (A := mcells y) (by simp)).c
          clear hT9 hc1
          go_wp2_with fail
          go_meet
          case rel => exact ⟨l', HT9.out.drop⟩
      case rest =>
        as_aux_lemma =>
        obtain ⟨l', hT⟩ := hcut
        have HT8 := Lib.hid hT
        clear hT HT7 hc1 HT0
        go_wp2_with fail
        go_loopw [21] (fun t wq => ∃ K : Int, -1 ≤ K ∧ K ≤ 4 ∧ t = .int .i64 K ∧ Two w B n r c b l' l' [] wq) (fun t _ => (4 - intOf t).toNat)
        case atStart => exact ⟨-1, by omega, by omega, rfl, HT8.out⟩
        case round =>
          obtain ⟨K, hK0, hK1, rfl, hT⟩ := hrel
          have HT9 := Lib.hid hT
          clear hT HT8
          by_cases hK : K ≤ 3
          · obtain ⟨N, hN⟩ : ∃ N, N = (nls l' K).length := ⟨_, rfl⟩
            have hN64 : N ≤ 1000 := by
              rw [hN]; unfold nls
              split
              · have := HT9.out.len K.toNat (by omega); have := room_le HO.out K.toNat (by omega); omega
              · simp
            have hbe : Below wr.heap.size wr (wr.alloc (.cells #[] 37)) := (Below.refl _ _).alloc (Nat.le_refl _) _
            have HT10 := Lib.hid (HT9.out.step hbe)
            have HPL := Lib.hid (both_list HT10.out K N hN.symm)
            have HS : Hid (∀ W q q' cq cq', MgsIn W q (nls l' K) → MgsIn W q' (nls l' K) → Calls Try.prog 16 #[.slice q N cq, .slice q' N cq'] W fun e w' => e = .returned (.bool true) ∧ Below W.heap.size W w') := Lib.hid (fun W q q' cq cq' h1 h2 => same7_any q q' cq cq' N (nls l' K) W hN.symm hN64 h1 h2)
            by_cases hin : 0 ≤ K ∧ K < 3
            · obtain ⟨j, rfl⟩ : ∃ j : Nat, (j : Int) = K := ⟨K.toNat, by omega⟩
              have hj : j < 3 := by omega
              have hlj : nls l' (j : Int) = l' j := by unfold nls; rw [if_pos hin]; simp
              obtain ⟨q, cq, cr, hrl, hmr⟩ := both_row HT10.out j hj
              rw [← hlj] at cr hmr
              rw [← hN] at cr
              have HMR := Lib.hid hmr
              obtain ⟨hin0, hin1⟩ := hin
              clear hN hmr hlj hj hrl hbe
              as_aux_lemma =>
              go_wp2_with fail
              refine HPL.out.mono ?_
              rintro e w11 ⟨⟨q11, c11, rfl, hm11⟩, hb11⟩
              have HT11 := Lib.hid (HT10.out.step hb11)
              have HP := Lib.hid (HS.out w11 q11 q c11 cq hm11 (HMR.out.step hb11))
              clear hm11 hb11 cr
              go_wp2_with fail
              refine HP.out.mono ?_
              rintro e w12 ⟨rfl, hb12⟩
              have HT12 := Lib.hid (HT11.out.step hb12)
              clear hb12
              go_wp2_with fail
              go_roundw
              case rel => exact ⟨(j : Int) + 1, by omega, by omega, by go_num, HT12.out⟩
              case measure => simp [intOf]; omega
            · have hN0 : N = 0 := by rw [hN]; unfold nls; rw [if_neg hin]; rfl
              have hnil : nls l' K = [] := by unfold nls; rw [if_neg hin]
              subst hN0
              have hcs : K = -1 ∨ K = 3 := by omega
              have HNIL : Hid (∀ W q, MgsIn W q (nls l' K)) := Lib.hid (fun W q i x hx => by rw [hnil] at hx; simp at hx)
              clear hN hin hnil hbe hN64
              as_aux_lemma =>
              rcases hcs with rfl | rfl
              all_goals
                go_wp2_with fail
                refine HPL.out.mono ?_
                rintro e w11 ⟨⟨q11, c11, rfl, hm11⟩, hb11⟩
                have HT11 := Lib.hid (HT10.out.step hb11)
                have HP := Lib.hid (fun q cq => HS.out w11 q11 q c11 cq hm11 (HNIL.out w11 q))
                clear hm11 hb11
                go_wp2_with fail
                refine (HP.out _ _).mono ?_
                rintro e w12 ⟨rfl, hb12⟩
                have HT12 := Lib.hid (HT11.out.step hb12)
                clear hb12
                go_wp2_with fail
                go_roundw
              case rel => exact ⟨0, by omega, by omega, by go_num, HT12.out⟩
              case measure => simp [intOf]
              case rel => exact ⟨4, by omega, by omega, by go_num, HT12.out⟩
              case measure => simp [intOf]
          · obtain rfl : K = 4 := by omega
            obtain ⟨N, hN⟩ : ∃ N, N = (flt line (allOf l')).length := ⟨_, rfl⟩
            have hN64 : N ≤ 1000 := by
              have h0 := HT9.out.len 0 (by omega); have h1 := HT9.out.len 1 (by omega); have h2 := HT9.out.len 2 (by omega)
              have r0 := room_le HO.out 0 (by omega); have r1 := room_le HO.out 1 (by omega); have r2 := room_le HO.out 2 (by omega)
              have := flt_len line (allOf l')
              unfold allOf at this hN
              simp at this
              omega
            have HS : Hid (∀ W q q' cq cq', MgsIn W q (flt line (allOf l')) → MgsIn W q' (flt line (allOf l')) → Calls Try.prog 16 #[.slice q N cq, .slice q' N cq'] W fun e w' => e = .returned (.bool true) ∧ Below W.heap.size W w') := Lib.hid (fun W q q' cq cq' h1 h2 => same7_any q q' cq cq' N _ W hN.symm hN64 h1 h2)
            have HN := Lib.hid hN
            have HE1 : Hid (∀ W, Two w B n r c b l' l' [] W → Calls Try.prog 18 #[.pointer (some ⟨n, 0, none⟩)] W fun e w' => e = .returned (.bool (allOf l').isEmpty) ∧ Below W.heap.size W w') := Lib.hid (fun W h => by obtain ⟨v, u, h⟩ := h; exact nempty_any h.net)
            have HE2 : Hid (∀ W, Two w B n r c b l' l' [] W → Calls Try.prog 19 #[.pointer (some ⟨r, 0, none⟩)] W fun e w' => e = .returned (.bool (allOf l').isEmpty) ∧ Below W.heap.size W w') := Lib.hid (fun W h => by obtain ⟨v, u, h⟩ := h; exact rempty_any h.ref)
            clear hK hK0 hK1 hN hN64
            generalize (allOf l').isEmpty = bb at HE1 HE2
            as_aux_lemma =>
            go_wp2_with fail
            refine (HE1.out _ HT9.out).mono ?_
            rintro e w10 ⟨rfl, hb10⟩
            have HT10 := Lib.hid (HT9.out.step hb10)
            clear hb10
            go_wp2_with fail
            refine (HE2.out _ HT10.out).mono ?_
            rintro e w11 ⟨rfl, hb11⟩
            have HT11 := Lib.hid (HT10.out.step hb11)
            clear hb11
            go_wp2_with fail
            refine (both_of HT11.out line N HN.out.symm).mono ?_
            rintro e w12 ⟨⟨q12, c12, rfl, hm12⟩, hb12⟩
            have HT12 := Lib.hid (HT11.out.step hb12)
            have HM12 := Lib.hid hm12
            clear hb12 hm12
            go_wp2_with fail
            refine (both_rof HT12.out line N HN.out.symm).mono ?_
            rintro e w13 ⟨⟨q13, c13, rfl, hm13⟩, hb13⟩
            have HT13 := Lib.hid (HT12.out.step hb13)
            have HP := Lib.hid (HS.out w13 q12 q13 c12 c13 (HM12.out.step hb13) hm13)
            clear hb13 hm13
            go_wp2_with fail
            refine HP.out.mono ?_
            rintro e w14 ⟨rfl, hb14⟩
            have HT14 := Lib.hid (HT13.out.step hb14)
            clear hb14
            go_wp2_with fail
            go_roundw
            case rel => exact ⟨k + 1, l', by omega, by go_num, HT14.out⟩
            case measure => simp [intOf]; omega
    · have hd : k = ops.length := by omega
      have HB := Lib.hid HT0.out.below
      clear HT0 hd
      go_wp2
      go_ret
      exact ⟨rfl, HB.out⟩

/-- NetDoes, all ways. -/
theorem netDoes_any (c : Cfg) (p : Option Addr) (cap : Nat) (ops : List OpN) (line : Int) (w : World) (hc : c.fits) (hin : OpsN w p ops) (hm : ops.length ≤ 9223372036854775807) :
    Calls Try.prog 3 #[cv c, .slice p ops.length cap, .int .i64 line] w (Holds7 w) := by
  rcases Nat.lt_or_ge 100 ops.length with h | h
  · exact does_long c p cap ops line w hm h
  · rcases Bool.eq_false_or_eq_true (okC c) with hok | hok
    · exact does_yes c p cap ops line w hin h hok
    · exact does_no c p cap ops line w hc h hok

end Go.Proofs.Ytdggjbaapnkcgaa
