/-
  SharerTells, its walk.
-/
import Derived.Test.YtlkeecghofldeaaShU
import Derived.Test.YtlkeecghofldeaaShHas
import Derived.Deep.RegionHeld3
import Derived.Deep.DeepCutAuto
namespace Go.Proofs.Ytlkeecghofldeaa
open Go Go.RowKit Go.Sort

theorem tells_long (c m : Int) (p : Option Addr) (cap : Nat) (l : List Int) (al : Bool) (x : Int) (q : Option Addr) (cq : Nat) (but : List Int) (cores ptrs : Int) (w : World) (hm : l.length ≤ 9223372036854775807) (hm2 : but.length ≤ 9223372036854775807) (h : 100 < l.length ∨ (l.length ≤ 100 ∧ 100 < but.length)) :
    Calls Try.prog 3 #[.agg (sv c m p l.length cap al), .int .i64 x, .slice q but.length cq, .int .i64 cores, .int .i64 ptrs] w (Holds w) := by
  have hd : decide (100 < (l.length : Int)) = true ∨ (decide (100 < (l.length : Int)) = false ∧ decide (100 < (but.length : Int)) = true) := by
    simp only [decide_eq_true_eq, decide_eq_false_iff_not]
    omega
  have K := Kp.box w (sv c m p l.length cap al) 24
  clear h
  rcases hd with h | ⟨h, h'⟩
  all_goals
    go_enter Try.func3, Try.ntmps3
    go_wp2_with (go_at_call 7; refine (awake_any _).mono ?_; rintro e w1 ⟨rfl, hb⟩; have K2 := K.step hb; have hc2 := K2.1; clear K hb)
    go_ret
    exact ⟨rfl, K2.2.2⟩

theorem same_yes (p q : Option Addr) (cp cq : Nat) (l : List Int) (w : World) (hl : l.length ≤ 5000) (h1 : NumsIn w p l) (h2 : NumsIn w q l) :
    Calls Try.prog 16 #[.slice p l.length cp, .slice q l.length cq] w fun e w' => e = .returned (.bool true) ∧ Below w.heap.size w w' := by
  refine (same_any p q cp cq l l w hl h1 h2).mono ?_
  rintro e w' ⟨rfl, n, rfl⟩
  exact ⟨ret_bool (by simp), below_drewN (Below.refl _ _) n⟩

theorem refMay_is {s : St} {b : Bool} (h : s.may = b) (p : Option Addr) (cap : Nat) (w : World) (hi : NumsIn w p s.l) (hl : s.l.length ≤ 5000) :
    Calls Try.prog 9 #[.agg (sval s p cap)] w fun e w' => e = .returned (.bool b) ∧ Below w.heap.size w w' := by
  subst h
  exact refMay_any s.c s.m p cap s.l s.al w hi (by omega)
/-- The set and the document's set, in two boxes. -/
structure TSt (w : World) (g : Nat) (s : St) (p : Option Addr) (cap : Nat) (wr : World) : Prop where
  a : ∀ o, wr.cell? ⟨w.heap.size, o, none⟩ = (sval s p cap)[o]?
  r : ∀ o, wr.cell? ⟨g, o, none⟩ = (sval s p cap)[o]?
  lta : w.heap.size < wr.heap.size
  ltr : g < wr.heap.size
  below : Below w.heap.size w wr
theorem TSt.step {w wr w' : World} {g : Nat} {s : St} {p : Option Addr} {cap : Nat} (h : TSt w g s p cap wr) (hb : Below wr.heap.size wr w') : TSt w g s p cap w' :=
  ⟨fun o => (hb.cell (p := ⟨w.heap.size, o, none⟩) h.lta).trans (h.a o), fun o => (hb.cell (p := ⟨g, o, none⟩) h.ltr).trans (h.r o), Nat.lt_of_lt_of_le h.lta hb.size, Nat.lt_of_lt_of_le h.ltr hb.size, bstep h.below hb⟩

set_option maxRecDepth 1000000 in
set_option maxHeartbeats 16000000 in
/-- The last region, where the set may be. -/
theorem tells_fine (s : St) (p : Option Addr) (cap : Nat) (x : Int) (q : Option Addr) (cq : Nat) (but : List Int) (cores ptrs : Int) (w : World) (hin : NumsIn w p s.l) (hib : NumsIn w q but) (hl : s.l.length ≤ 100) (hlb : but.length ≤ 100) :
    Calls Try.prog 3 #[.agg (sval s p cap), .int .i64 x, .slice q but.length cq, .int .i64 cores, .int .i64 ptrs] w (Holds w) := by
  have K := Kp.box w (sval s p cap) 24
  have HI := Lib.hid hin
  have HB := Lib.hid hib
  have hnf : (mayB cores ptrs [] false = true ∧ newS cores ptrs = (⟨cores, ptrs, [], false⟩, 0)) ∨ (mayB cores ptrs [] false = false ∧ newS cores ptrs = (⟨0, 0, [], false⟩, 1)) := by
    rcases Bool.eq_false_or_eq_true (mayB cores ptrs [] false) with h | h
    · exact .inl ⟨h, by unfold newS; rw [if_pos h]⟩
    · exact .inr ⟨h, by unfold newS; rw [if_neg (by rw [h]; simp)]; rfl⟩
  obtain ⟨N, e0, hN⟩ : ∃ N e0, newS cores ptrs = (N, e0) := ⟨_, _, rfl⟩
  rw [hN] at hnf
  have HNW := Lib.hid hN
  obtain ⟨F, hF⟩ : ∃ F, F = mayB cores ptrs [] false := ⟨_, rfl⟩
  rw [← hF] at hnf
  have HNF := Lib.hid hnf
  have HFF := Lib.hid hF
  clear hin hib hnf hN hF
  go_enter Try.func3, Try.ntmps3
  go_wp2_with fail
  refine (awake_any _).mono ?_
  rintro e w1 ⟨rfl, hb1⟩
  have K2 := K.step hb1
  have hc2 := K2.1
  have hbA := balloc w1 (.cells #[.int .i64 s.c, .int .i64 s.m, .slice p s.l.length cap, .bool s.al] 26)
  have hT : TSt w w1.heap.size s p cap (w1.alloc (.cells #[.int .i64 s.c, .int .i64 s.m, .slice p s.l.length cap, .bool s.al] 26)) :=
    have K3 := K2.step hbA
    ⟨K3.1, fun o => blk_cell (heap_alloc_new w1 _) o, K3.2.1, by simp, K3.2.2⟩
  have HT := Lib.hid hT
  clear hb1 hbA K hT
  go_wp2_with fail
  refine (new_is HNW.out _).mono ?_
  rintro e w2 ⟨v, rfl, p2, c2, rfl, hin2, hb2, -⟩
  have hbB := balloc w2 (.cells #[.int .i64 N.c, .int .i64 N.m, .slice p2 N.l.length c2, .bool N.al] 24)
  have HT2 := Lib.hid ((HT.out.step hb2).step hbB)
  have HN2 := Lib.hid (hin2.step hbB)
  have h12 : w2.heap.size < (w2.alloc (.cells #[.int .i64 N.c, .int .i64 N.m, .slice p2 N.l.length c2, .bool N.al] 24)).heap.size := by simp
  have hc12 : ∀ o, (w2.alloc (.cells #[.int .i64 N.c, .int .i64 N.m, .slice p2 N.l.length c2, .bool N.al] 24)).cell? ⟨w2.heap.size, o, none⟩ = (sval N p2 c2)[o]? := fun o => blk_cell (heap_alloc_new w2 _) o
  have HC12 := Lib.hid hc12
  have H12 := Lib.hid h12
  clear hb2 hbB hin2 hc12 h12 hc2 K2 HT
  go_upto_region 7 with fail
  generalize w1.heap.size = g at HT2 ⊢
  generalize w2.heap.size = b12 at HC12 H12 ⊢
  generalize World.alloc _ _ = w3 at HT2 HN2 HC12 H12 ⊢
  go_upto_region 8 with (go_at_call 9; refine (refMay_any cores ptrs none 0 [] false _ (NumsIn.nil _ _) (by simp)).mono ?_; rintro e w4 ⟨rfl, hb4⟩; rw [← HFF.out])
  have HT4 := Lib.hid (HT2.out.step hb4)
  have HN4 := Lib.hid (HN2.out.step hb4)
  have hc12 : ∀ o, w4.cell? ⟨b12, o, none⟩ = (sval N p2 c2)[o]? := fun o => (hb4.cell (p := ⟨b12, o, none⟩) H12.out).trans (HC12.out o)
  clear hb4 HT2 HN2 HC12 H12
  go_cut [67] (fun s67 wx => s67 = .bool false ∧ TSt w g s p cap wx)
  case first =>
    as_aux_lemma =>
    rcases HNF.out with ⟨hF, hN⟩ | ⟨hF, hN⟩
    · rw [Prod.mk.injEq] at hN
      obtain ⟨rfl, rfl⟩ := hN
      subst hF
      clear HNF HFF HNW
      go_wp2_with (go_at_call 10; refine (refSame_yes ⟨cores, ptrs, [], false⟩ p2 none c2 0 _ (by simp) (NumsIn.nil _ _) (NumsIn.nil _ _)).mono ?_; rintro e w5 ⟨rfl, hb5⟩; have HT5 := Lib.hid (HT4.out.step hb5); clear hb5)
      go_meet
      case rel => exact ⟨rfl, HT5.out⟩
    · rw [Prod.mk.injEq] at hN
      obtain ⟨rfl, rfl⟩ := hN
      subst hF
      clear HNF HFF HNW
      go_wp2_with (go_at_call 10; refine (refSame_yes ⟨0, 0, [], false⟩ p2 none c2 0 _ (by simp) (NumsIn.nil _ _) (NumsIn.nil _ _)).mono ?_; rintro e w5 ⟨rfl, hb5⟩; have HT5 := Lib.hid (HT4.out.step hb5); clear hb5)
      go_meet
      case rel => exact ⟨rfl, HT5.out⟩
  case rest =>
    as_aux_lemma =>
    clear hc12 HT4 HN4 HNF HFF HNW
    obtain ⟨rfl, hT⟩ := hcut
    have HT := Lib.hid hT
    have hca := hT.a
    have hcr := hT.r
    obtain ⟨s', e', hse⟩ : ∃ s' e', addS s x = (s', e') := ⟨_, _, rfl⟩
    have HSE := Lib.hid hse
    have hls' : s'.l.length ≤ 200 := by
      have h1 : (addS s x).1 = s' := by rw [hse]
      rw [← h1]
      unfold addS
      split
      · split
        · unfold withS
          split
          · show s.l.length ≤ 200
            omega
          · split
            · simp
            · rw [insAt_len _ _ _ (less_le _ _)]
              omega
        · simp [z0]
      · simp [z0]
    clear hT hse
    go_wp2_with fail
    refine (add_is HSE.out p cap _ (HI.out.step HT.out.below) (by omega)).mono ?_
    rintro e w5 ⟨v, rfl, p5, c5, rfl, hin5, hb5, -⟩
    have hbC := balloc w5 (.cells #[.int .i64 s'.c, .int .i64 s'.m, .slice p5 s'.l.length c5, .bool s'.al] 24)
    have HT5 := Lib.hid ((HT.out.step hb5).step hbC)
    have HN5 := Lib.hid (hin5.step hbC)
    have HK5 : Hid ((w5.alloc (.cells #[.int .i64 s'.c, .int .i64 s'.m, .slice p5 s'.l.length c5, .bool s'.al] 24)).heap[w5.heap.size]? = some (.cells (sval s' p5 c5) 24 (0, 0))) := Lib.hid (heap_alloc_new w5 _)
    clear hb5 hbC hin5 hca hcr HT
    have hcr := HT5.out.r
    go_wp2_with fail
    have hR := refAdd_any s p cap x (w5.alloc (.cells #[.int .i64 s'.c, .int .i64 s'.m, .slice p5 s'.l.length c5, .bool s'.al] 24)) (HI.out.step HT5.out.below) (by omega)
    rw [HSE.out] at hR
    refine hR.mono ?_
    rintro e w6 ⟨p6, c6, rfl, hin6, hb6⟩
    have hbD := balloc w6 (.cells #[.int .i64 s'.c, .int .i64 s'.m, .slice p6 s'.l.length c6, .bool s'.al] 26)
    have hbb := bstep hb6 hbD
    have HT6 := Lib.hid (HT5.out.step hbb)
    have HN6 := Lib.hid (hin6.step hbD)
    have HN56 := Lib.hid (HN5.out.step hbb)
    have HK6 : Hid ((w6.alloc (.cells #[.int .i64 s'.c, .int .i64 s'.m, .slice p6 s'.l.length c6, .bool s'.al] 26)).heap[w6.heap.size]? = some (.cells (sval s' p6 c6) 26 (0, 0))) := Lib.hid (heap_alloc_new w6 _)
    have HK56 := Lib.hid ((hbb.block w5.heap.size (by simp)).trans HK5.out)
    clear hb6 hbD hbb hin6 hcr hR HT5 HN5 HK5
    go_upto_region 12 with fail
    generalize w5.heap.size = b15 at HK56 ⊢
    generalize w6.heap.size = b17 at HK6 ⊢
    generalize World.alloc _ _ = w7 at HT6 HN6 HN56 HK6 HK56 ⊢
    have hg5 : ∀ o d os, (grow (redrawn w7 d) os).cell? ⟨w.heap.size, o, none⟩ = (sval s p cap)[o]? := fun o d os => (HT6.out.step (below_regrown w7 d os)).a o
    have hg11 : ∀ o d os, (grow (redrawn w7 d) os).cell? ⟨g, o, none⟩ = (sval s p cap)[o]? := fun o d os => (HT6.out.step (below_regrown w7 d os)).r o
    have hg15 : ∀ o d os, (grow (redrawn w7 d) os).cell? ⟨b15, o, none⟩ = (sval s' p5 c5)[o]? := fun o d os => ((below_regrown w7 d os).cell (p := ⟨b15, o, none⟩) (lt_of_block HK56.out)).trans (blk_cell HK56.out o)
    have hg17 : ∀ o d os, (grow (redrawn w7 d) os).cell? ⟨b17, o, none⟩ = (sval s' p6 c6)[o]? := fun o d os => ((below_regrown w7 d os).cell (p := ⟨b17, o, none⟩) (lt_of_block HK6.out)).trans (blk_cell HK6.out o)
    obtain ⟨M, hM⟩ : ∃ M, s.may = M := ⟨_, rfl⟩
    have HM := Lib.hid hM
    have hbM : (M != M) = false := by cases M <;> rfl
    have hbe : (e' != e') = false := by simp
    clear hM
    refine wp_region_quiet_below (by kernel_rfl) (by kernel_rfl) ?_
    repeat (go_big_quiet_step (first
      | (go_at_call 13; exact Calls.regrown_of (may_is HM.out p cap _ ((HI.out.step HT6.out.below).step (below_regrown _ _ _)) (by omega)))
      | (go_at_call 9; exact Calls.regrown_of (refMay_is HM.out p cap _ ((HI.out.step HT6.out.below).step (below_regrown _ _ _)) (by omega)))
      | (go_at_call 10; exact Calls.regrown_of (refSame_yes s' p5 p6 c5 c6 _ (by omega) (HN56.out.step (below_regrown _ _ _)) (HN6.out.step (below_regrown _ _ _))))))
    refine wpQuiet_nil ?_
    intro w8 hw8
    have hb8 : Below w7.heap.size w7 w8 := by
      obtain ⟨pp, rfl⟩ := hw8
      exact below_regrown _ _ _
    have HT8 := Lib.hid (HT6.out.step hb8)
    clear hw8 hb8 hg5 hg11 hg15 hg17 HT6 HN6 HN56 HK6 HK56
    have hcr := HT8.out.r
    rcases Bool.eq_false_or_eq_true M with rfl | rfl
    · have hmay : mayB s.c s.m s.l s.al = true := HM.out
      obtain ⟨hc1, hc64, hm0, hm8, hl8⟩ := may_bounds hmay
      obtain ⟨cn, hcn⟩ : ∃ cn : Nat, s.c = cn := ⟨s.c.toNat, by omega⟩
      obtain ⟨b, hb⟩ : ∃ b, hasAll s.c s.m s.l s.al x = b := ⟨_, rfl⟩
      have hb2 : (hasB s.c x && toldB s.l s.al x) = b := by
        rw [← hb]
        unfold hasAll
        rw [hmay]
        rfl
      obtain ⟨T, hT⟩ : ∃ T, targetsS s but = T := ⟨_, rfl⟩
      have hT2 : pickS s.l s.al but cn = T := by
        rw [← hT]
        unfold targetsS
        rw [if_pos HM.out, hcn]
        rfl
      have hTl : T.length ≤ 5000 := by
        rw [← hT2]
        have := pickS_len s.l s.al but cn
        omega
      have hclr : (newS s.c s.m).1 = ⟨s.c, s.m, [], false⟩ := by
        unfold newS
        rw [if_pos (may_new.2 ⟨hc1, hc64, hm0, hm8⟩)]
      have HBB := Lib.hid hb
      have HBR := Lib.hid hb2
      have HTT := Lib.hid hT
      have HTR := Lib.hid hT2
      have HTL := Lib.hid hTl
      have HCL := Lib.hid hclr
      have HCN := Lib.hid hcn
      have hcn64 : cn ≤ 64 := by omega
      clear hmay hb hb2 hT hT2 hTl hclr hcn
      go_upto_region 16 with (go_at_call 9; refine (refMay_is HM.out p cap _ (HI.out.step HT8.out.below) (by omega)).mono ?_; rintro e w9 ⟨rfl, hb9⟩)
      have HT9 := Lib.hid (HT8.out.step hb9)
      clear hb9 hcr HT8
      as_aux_lemma =>
      have HS : Hid (∀ W, Below w9.heap.size w9 W → (∀ o, W.cell? ⟨w.heap.size, o, none⟩ = (sval s p cap)[o]?) ∧ (∀ o, W.cell? ⟨g, o, none⟩ = (sval s p cap)[o]?)) := Lib.hid (fun W hb => ⟨(HT9.out.step hb).a, (HT9.out.step hb).r⟩)
      have HIW : Hid (∀ W, Below w9.heap.size w9 W → NumsIn W p s.l ∧ NumsIn W q but) := Lib.hid (fun W hb => ⟨HI.out.step (HT9.out.step hb).below, HB.out.step (HT9.out.step hb).below⟩)
      have HPH : Hid (∀ W, Below w9.heap.size w9 W → Calls Try.prog 14 #[.agg (sval s p cap), .int .i64 x] W fun e w' => e = .returned (.bool b) ∧ Below W.heap.size W w') := Lib.hid (fun W hb => has_is HBB.out p cap W (HIW.out W hb).1 (by omega))
      have HPR : Hid (∀ W, Below w9.heap.size w9 W → Calls Try.prog 15 #[.agg (sval s p cap), .int .i64 x] W fun e w' => e = .returned (.bool b) ∧ Below W.heap.size W w') := Lib.hid (fun W hb => refHas_is HBR.out p cap W (HIW.out W hb).1 (by omega))
      have HPT : Hid (∀ W, Below w9.heap.size w9 W → Calls Try.prog 17 #[.agg (sval s p cap), .slice q but.length cq] W (GaveL W T)) := Lib.hid (fun W hb => targets_is HTT.out p cap q cq W (HIW.out W hb).1 (HIW.out W hb).2 (by omega) (by omega))
      have HPU : Hid (∀ W, Below w9.heap.size w9 W → Calls Try.prog 18 #[.agg (sval s p cap), .slice q but.length cq] W (GaveL W T)) := Lib.hid (fun W hb => by
        have := refTargets_any cn s.m p cap s.l s.al q cq but W (HIW.out W hb).1 (HIW.out W hb).2 (by omega) (by omega) hcn64
        rw [← HCN.out, HTR.out] at this
        exact this)
      have HPC : Hid (∀ W, Below w9.heap.size w9 W → Calls Try.prog 19 #[.agg (sval s p cap)] W (Gave1 W ⟨s.c, s.m, [], false⟩)) := Lib.hid (fun W hb => clear_is HCL.out p s.l.length cap W)
      have HPS : Hid (∀ W, Below w9.heap.size w9 W → ∀ p6 c6, Calls Try.prog 10 #[.agg #[.int .i64 s.c, .int .i64 s.m, .slice p6 0 c6, .bool false], .agg #[.int .i64 s.c, .int .i64 s.m, .slice none 0 0, .bool false]] W fun e w' => e = .returned (.bool true) ∧ Below W.heap.size W w') := Lib.hid (fun W hb p6 c6 => refSame_yes ⟨s.c, s.m, [], false⟩ p6 none c6 0 W (by simp) (NumsIn.nil _ _) (NumsIn.nil _ _))
      have hbd : Below w9.heap.size w9 w9.drew := (Below.refl _ _).drew
      have HB0 := Lib.hid hbd
      obtain ⟨cd1, cd2⟩ := HS.out _ hbd
      have hbq : (b == b) = true := by cases b <;> rfl
      clear hbd
      refine wp_region_noPanic ?_
      refine wp_region_held_drew (S := fun w' => (∀ o, w'.cell? ⟨w.heap.size, o, none⟩ = (sval s p cap)[o]?) ∧ (∀ o, w'.cell? ⟨g, o, none⟩ = (sval s p cap)[o]?)) (by kernel_rfl) ⟨cd1, cd2⟩ (fun hh0 => ?_)
      clear cd1 cd2
      refine wpAnyH_take (fuel := 26) (i := 0) (oi := ⟨some 99, _, _, _, _, _⟩) (v := .agg (sval s p cap)) rfl (by kernel_rfl) (by kernel_rfl) (by kernel_rfl) (fun _ _ _ h => h) (Or.inl ⟨by rfl, ?_⟩) hh0 ?_
      · rintro w' ⟨k1, k2⟩
        clear k2
        go_simp
      simp only [Act.put, List.setIfInBounds_toArray, List.set_cons_zero, List.set_cons_succ]
      refine wpAnyH_take (fuel := 25) (i := 1) (oi := ⟨some 100, _, _, _, _, _⟩) (v := .int .i64 x) rfl (by kernel_rfl) (by kernel_rfl) (by kernel_rfl) (fun _ _ _ h => h) (Or.inl ⟨by rfl, ?_⟩) hh0 ?_
      · rintro w' ⟨k1, k2⟩
        go_simp
      simp only [Act.put, List.setIfInBounds_toArray, List.set_cons_zero, List.set_cons_succ]
      refine wpAnyH_take (fuel := 24) (i := 3) (oi := ⟨some 102, _, _, _, _, _⟩) (v := .agg (sval s p cap)) rfl (by kernel_rfl) (by kernel_rfl) (by kernel_rfl) (fun _ _ _ h => h) (Or.inl ⟨by rfl, ?_⟩) hh0 ?_
      · rintro w' ⟨k1, k2⟩
        clear k1
        go_simp
      simp only [Act.put, List.setIfInBounds_toArray, List.set_cons_zero, List.set_cons_succ]
      refine wpAnyH_take (fuel := 23) (i := 4) (oi := ⟨some 103, _, _, _, _, _⟩) (v := .int .i64 x) rfl (by kernel_rfl) (by kernel_rfl) (by kernel_rfl) (fun _ _ _ h => h) (Or.inl ⟨by rfl, ?_⟩) hh0 ?_
      · rintro w' ⟨k1, k2⟩
        go_simp
      simp only [Act.put, List.setIfInBounds_toArray, List.set_cons_zero, List.set_cons_succ]
      refine wpAnyH_ready (fuel := 22) (rs := [2]) (by kernel_rfl) (by simp) ?_
      refine AllReadyH.cons (o := ⟨some 101, _, _, _, _, _⟩) rfl (fun K hK => ?_) AllReadyH.nil
      go_simp
      refine (HPH.out _ HB0.out).mono ?_
      rintro e wz1 ⟨rfl, hb1⟩
      have HB1 := Lib.hid (bstep HB0.out hb1)
      show K _ _
      refine hK.out _ _ (HS.out _ HB1.out) (fun hh1 => ?_)
      clear hK K hb1 hh0
      refine wpAnyH_ready (fuel := 21) (rs := [5]) (by kernel_rfl) (by simp) ?_
      refine AllReadyH.cons (o := ⟨some 104, _, _, _, _, _⟩) rfl (fun K hK => ?_) AllReadyH.nil
      go_simp
      refine (HPR.out _ HB1.out).mono ?_
      rintro e wz2 ⟨rfl, hb2⟩
      have HB2 := Lib.hid (bstep HB1.out hb2)
      show K _ _
      refine hK.out _ _ (HS.out _ HB2.out) (fun hh2 => ?_)
      clear hK K hb2 hh1
      refine wpAnyH_take (fuel := 20) (i := 6) (oi := ⟨some 105, _, _, _, _, _⟩) (v := .bool true) rfl (by kernel_rfl) (by kernel_rfl) (by kernel_rfl) (fun _ _ _ h => h) (Or.inl ⟨by rfl, ?_⟩) hh2 ?_
      · rintro w' ⟨k1, k2⟩
        go_simp
      simp only [Act.put, List.setIfInBounds_toArray, List.set_cons_zero, List.set_cons_succ]
      refine wpAnyH_take (fuel := 19) (i := 7) (oi := ⟨some 106, _, _, _, _, _⟩) (v := .bool true) rfl (by kernel_rfl) (by kernel_rfl) (by kernel_rfl) (fun _ _ _ h => h) (Or.inl ⟨by rfl, ?_⟩) hh2 ?_
      · rintro w' ⟨k1, k2⟩
        go_simp
      simp only [Act.put, List.setIfInBounds_toArray, List.set_cons_zero, List.set_cons_succ]
      refine wpAnyH_take (fuel := 18) (i := 8) (oi := ⟨some 107, _, _, _, _, _⟩) (v := .agg (sval s p cap)) rfl (by kernel_rfl) (by kernel_rfl) (by kernel_rfl) (fun _ _ _ h => h) (Or.inl ⟨by rfl, ?_⟩) hh2 ?_
      · rintro w' ⟨k1, k2⟩
        clear k2
        go_simp
      simp only [Act.put, List.setIfInBounds_toArray, List.set_cons_zero, List.set_cons_succ]
      refine wpAnyH_take (fuel := 17) (i := 9) (oi := ⟨some 108, _, _, _, _, _⟩) (v := .slice q but.length cq) rfl (by kernel_rfl) (by kernel_rfl) (by kernel_rfl) (fun _ _ _ h => h) (Or.inl ⟨by rfl, ?_⟩) hh2 ?_
      · rintro w' ⟨k1, k2⟩
        go_simp
      simp only [Act.put, List.setIfInBounds_toArray, List.set_cons_zero, List.set_cons_succ]
      refine wpAnyH_take (fuel := 16) (i := 11) (oi := ⟨some 110, _, _, _, _, _⟩) (v := .agg (sval s p cap)) rfl (by kernel_rfl) (by kernel_rfl) (by kernel_rfl) (fun _ _ _ h => h) (Or.inl ⟨by rfl, ?_⟩) hh2 ?_
      · rintro w' ⟨k1, k2⟩
        clear k1
        go_simp
      simp only [Act.put, List.setIfInBounds_toArray, List.set_cons_zero, List.set_cons_succ]
      refine wpAnyH_take (fuel := 15) (i := 12) (oi := ⟨some 111, _, _, _, _, _⟩) (v := .slice q but.length cq) rfl (by kernel_rfl) (by kernel_rfl) (by kernel_rfl) (fun _ _ _ h => h) (Or.inl ⟨by rfl, ?_⟩) hh2 ?_
      · rintro w' ⟨k1, k2⟩
        go_simp
      simp only [Act.put, List.setIfInBounds_toArray, List.set_cons_zero, List.set_cons_succ]
      refine wpAnyH_ready (fuel := 14) (rs := [10]) (by kernel_rfl) (by simp) ?_
      refine AllReadyH.cons (o := ⟨some 109, _, _, _, _, _⟩) rfl (fun K hK => ?_) AllReadyH.nil
      go_simp
      refine (HPT.out _ HB2.out).mono ?_
      rintro e wz3 ⟨p1, c1, rfl, hn1, hb3⟩
      have HB3 := Lib.hid (bstep HB2.out hb3)
      have HN1 := Lib.hid hn1
      clear hn1
      show K _ _
      refine hK.out _ _ (HS.out _ HB3.out) (fun hh3 => ?_)
      clear hK K hb3 hh2
      refine wpAnyH_ready (fuel := 13) (rs := [13]) (by kernel_rfl) (by simp) ?_
      refine AllReadyH.cons (o := ⟨some 112, _, _, _, _, _⟩) rfl (fun K hK => ?_) AllReadyH.nil
      go_simp
      refine (HPU.out _ HB3.out).mono ?_
      rintro e wz4 ⟨p2, c2, rfl, hn2, hb4⟩
      have HB4 := Lib.hid (bstep HB3.out hb4)
      have HN2 := Lib.hid hn2
      have HB34 := Lib.hid hb4
      clear hn2
      show K _ _
      refine hK.out _ _ (HS.out _ HB4.out) (fun hh4 => ?_)
      clear hK K hb4 hh3
      refine wpAnyH_ready (fuel := 12) (rs := [14]) (by kernel_rfl) (by simp) ?_
      refine AllReadyH.cons (o := ⟨some 113, _, _, _, _, _⟩) rfl (fun K hK => ?_) AllReadyH.nil
      go_simp
      refine (same_yes p1 p2 c1 c2 T _ HTL.out (HN1.out.step HB34.out) HN2.out).mono ?_
      rintro e wz5 ⟨rfl, hb5⟩
      have HB5 := Lib.hid (bstep HB4.out hb5)
      show K _ _
      refine hK.out _ _ (HS.out _ HB5.out) (fun hh5 => ?_)
      clear hK K hb5 hh4
      refine wpAnyH_take (fuel := 11) (i := 15) (oi := ⟨some 114, _, _, _, _, _⟩) (v := .bool true) rfl (by kernel_rfl) (by kernel_rfl) (by kernel_rfl) (fun _ _ _ h => h) (Or.inl ⟨by rfl, ?_⟩) hh5 ?_
      · rintro w' ⟨k1, k2⟩
        go_simp
      simp only [Act.put, List.setIfInBounds_toArray, List.set_cons_zero, List.set_cons_succ]
      refine wpAnyH_take (fuel := 10) (i := 16) (oi := ⟨some 115, _, _, _, _, _⟩) (v := .bool true) rfl (by kernel_rfl) (by kernel_rfl) (by kernel_rfl) (fun _ _ _ h => h) (Or.inl ⟨by rfl, ?_⟩) hh5 ?_
      · rintro w' ⟨k1, k2⟩
        go_simp
      simp only [Act.put, List.setIfInBounds_toArray, List.set_cons_zero, List.set_cons_succ]
      refine wpAnyH_take (fuel := 9) (i := 17) (oi := ⟨some 116, _, _, _, _, _⟩) (v := .agg (sval s p cap)) rfl (by kernel_rfl) (by kernel_rfl) (by kernel_rfl) (fun _ _ _ h => h) (Or.inl ⟨by rfl, ?_⟩) hh5 ?_
      · rintro w' ⟨k1, k2⟩
        clear k2
        go_simp
      simp only [Act.put, List.setIfInBounds_toArray, List.set_cons_zero, List.set_cons_succ]
      refine wpAnyH_take (fuel := 8) (i := 19) (oi := ⟨some 118, _, _, _, _, _⟩) (v := .pointer (some ⟨w.heap.size, 0, none⟩)) rfl (by kernel_rfl) (by kernel_rfl) (by kernel_rfl) (fun _ _ _ h => h) (Or.inl ⟨by rfl, ?_⟩) hh5 ?_
      · rintro w' ⟨k1, k2⟩
        go_simp
      simp only [Act.put, List.setIfInBounds_toArray, List.set_cons_zero, List.set_cons_succ]
      refine wpAnyH_take (fuel := 7) (i := 20) (oi := ⟨some 119, _, _, _, _, _⟩) (v := .int .i64 s.c) rfl (by kernel_rfl) (by kernel_rfl) (by kernel_rfl) (fun _ _ _ h => h) (Or.inl ⟨by rfl, ?_⟩) hh5 ?_
      · rintro w' ⟨k1, k2⟩
        clear k2
        go_simp
      simp only [Act.put, List.setIfInBounds_toArray, List.set_cons_zero, List.set_cons_succ]
      refine wpAnyH_take (fuel := 6) (i := 21) (oi := ⟨some 120, _, _, _, _, _⟩) (v := .pointer (some ⟨w.heap.size, 1, none⟩)) rfl (by kernel_rfl) (by kernel_rfl) (by kernel_rfl) (fun _ _ _ h => h) (Or.inl ⟨by rfl, ?_⟩) hh5 ?_
      · rintro w' ⟨k1, k2⟩
        go_simp
      simp only [Act.put, List.setIfInBounds_toArray, List.set_cons_zero, List.set_cons_succ]
      refine wpAnyH_take (fuel := 5) (i := 22) (oi := ⟨some 121, _, _, _, _, _⟩) (v := .int .i64 s.m) rfl (by kernel_rfl) (by kernel_rfl) (by kernel_rfl) (fun _ _ _ h => h) (Or.inl ⟨by rfl, ?_⟩) hh5 ?_
      · rintro w' ⟨k1, k2⟩
        clear k2
        go_simp
      simp only [Act.put, List.setIfInBounds_toArray, List.set_cons_zero, List.set_cons_succ]
      refine wpAnyH_take (fuel := 4) (i := 23) (oi := ⟨some 122, _, _, _, _, _⟩) (v := .agg #[.int .i64 s.c, .int .i64 s.m, .slice none 0 0, .bool false]) rfl (by kernel_rfl) (by kernel_rfl) (by kernel_rfl) (fun _ _ _ h => h) (Or.inl ⟨by rfl, ?_⟩) hh5 ?_
      · rintro w' ⟨k1, k2⟩
        go_simp
      simp only [Act.put, List.setIfInBounds_toArray, List.set_cons_zero, List.set_cons_succ]
      refine wpAnyH_ready (fuel := 3) (rs := [18]) (by kernel_rfl) (by simp) ?_
      refine AllReadyH.cons (o := ⟨some 117, _, _, _, _, _⟩) rfl (fun K hK => ?_) AllReadyH.nil
      go_simp
      refine (HPC.out _ HB5.out).mono ?_
      rintro e wz6 ⟨v6, rfl, p6, c6, rfl, hn6, hb6, -⟩
      have HB6 := Lib.hid (bstep HB5.out hb6)
      show K _ _
      refine hK.out _ _ (HS.out _ HB6.out) (fun hh6 => ?_)
      clear hK K hb6 hh5
      refine wpAnyH_ready (fuel := 2) (rs := [24]) (by kernel_rfl) (by simp) ?_
      refine AllReadyH.cons (o := ⟨some 123, _, _, _, _, _⟩) rfl (fun K hK => ?_) AllReadyH.nil
      go_simp
      refine (HPS.out _ HB6.out p6 c6).mono ?_
      rintro e wz7 ⟨rfl, hb7⟩
      have HB7 := Lib.hid (bstep HB6.out hb7)
      show K _ _
      refine hK.out _ _ (HS.out _ HB7.out) (fun hh7 => ?_)
      clear hK K hb7 hh6
      refine wpAnyH_take (fuel := 1) (i := 25) (oi := ⟨some 124, _, _, _, _, _⟩) (v := .bool true) rfl (by kernel_rfl) (by kernel_rfl) (by kernel_rfl) (fun _ _ _ h => h) (Or.inl ⟨by rfl, ?_⟩) hh7 ?_
      · rintro w' ⟨k1, k2⟩
        go_simp
      simp only [Act.put, List.setIfInBounds_toArray, List.set_cons_zero, List.set_cons_succ]
      refine wpAnyH_take (fuel := 0) (i := 26) (oi := ⟨some 10, _, _, _, _, _⟩) (v := .bool true) rfl (by kernel_rfl) (by kernel_rfl) (by kernel_rfl) (fun _ _ _ h => h) (Or.inl ⟨by rfl, ?_⟩) hh7 ?_
      · rintro w' ⟨k1, k2⟩
        go_simp
      simp only [Act.put, List.setIfInBounds_toArray, List.set_cons_zero, List.set_cons_succ]
      refine wpAnyH_done (by kernel_rfl) ?_ _
      refine NoPanic.normal ?_
      clear hh7
      have HT10 := Lib.hid (HT9.out.step HB7.out)
      go_wp2
      go_ret
      exact ⟨rfl, HT10.out.below⟩
    · go_wp2_with (go_at_call 9; refine (refMay_is HM.out p cap _ (HI.out.step HT8.out.below) (by omega)).mono ?_; rintro e w9 ⟨rfl, hb9⟩)
      go_ret
      exact ⟨rfl, (HT8.out.step hb9).below⟩

theorem sharerTells_any (c m : Int) (p : Option Addr) (cap : Nat) (l : List Int) (al : Bool) (x : Int) (q : Option Addr) (cq : Nat) (but : List Int) (cores ptrs : Int) (w : World) (hin : NumsIn w p l) (hm : l.length ≤ 9223372036854775807) (hib : NumsIn w q but) (hm2 : but.length ≤ 9223372036854775807) :
    Calls Try.prog 3 #[.agg (sv c m p l.length cap al), .int .i64 x, .slice q but.length cq, .int .i64 cores, .int .i64 ptrs] w (Holds w) := by
  by_cases h : 100 < l.length ∨ (l.length ≤ 100 ∧ 100 < but.length)
  · exact tells_long c m p cap l al x q cq but cores ptrs w hm hm2 h
  · exact tells_fine ⟨c, m, l, al⟩ p cap x q cq but cores ptrs w hin hib (by simp only; omega) (by omega)

end Go.Proofs.Ytlkeecghofldeaa
