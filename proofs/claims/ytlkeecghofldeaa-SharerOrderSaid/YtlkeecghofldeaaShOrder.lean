/-
  SharerOrder, its walk.
-/
import Derived.Test.YtlkeecghofldeaaShP
import Derived.Test.YtlkeecghofldeaaShHas
import Derived.Deep.RegionHeld3
import Derived.Deep.CutRange
namespace Go.Proofs.Ytlkeecghofldeaa
open Go Go.RowKit

theorem NumsIn.newRow {w : World} {p : Option Addr} {l : List Int} (h : NumsIn w p l) (o : Obj) (cs : Array Value) : NumsIn ((w.alloc o).setRow w.heap.size cs) p l := fun j hj => by
  obtain ⟨g, off, e, hb, hc⟩ := h j hj
  refine ⟨g, off, e, by simp; omega, ?_⟩
  rw [World.cell?_of_block (setRow_other _ w.heap.size g cs (by omega))]
  exact Lib.cell?_alloc_some o hc
theorem wrap_nat {a : Int} {n : Nat} (h : a = n) (hn : n ≤ 1000) : IntKind.i64.wrap a = (n : Int) := by
  subst h
  rw [IntKind.wrap_i64]
  omega

theorem order_long (cores ptrs : Int) (p : Option Addr) (cap : Nat) (l : List Int) (by_ : Int) (w : World) (hm : l.length ≤ 9223372036854775807) (h : 100 < l.length ∨ (l.length ≤ 100 ∧ by_ < 0) ∨ (l.length ≤ 100 ∧ 0 ≤ by_ ∧ (l.length : Int) < by_)) :
    Calls Try.prog 6 #[.int .i64 cores, .int .i64 ptrs, .slice p l.length cap, .int .i64 by_] w (Holds w) := by
  have hd : decide (100 < (l.length : Int)) = true ∨ (decide (100 < (l.length : Int)) = false ∧ decide (by_ < 0) = true) ∨ (decide (100 < (l.length : Int)) = false ∧ decide (by_ < 0) = false ∧ decide ((l.length : Int) < by_) = true) := by
    simp only [decide_eq_true_eq, decide_eq_false_iff_not]
    omega
  clear h
  rcases hd with h | ⟨h, h'⟩ | ⟨h, h', h''⟩
  all_goals
    go_enter Try.func6, Try.ntmps6
    go_wp2_with (go_at_call 7; refine (awake_any _).mono ?_; rintro e w1 ⟨rfl, hb⟩)
    go_ret
    exact ⟨rfl, hb⟩

set_option maxRecDepth 100000 in
set_option maxHeartbeats 2000000 in
theorem order_bad (cores ptrs : Int) (p : Option Addr) (cap : Nat) (l : List Int) (by_ : Int) (w : World) (h : l.length ≤ 100) (h0 : 0 ≤ by_) (h1 : by_ ≤ l.length) (hn : newS cores ptrs = (⟨0, 0, [], false⟩, 1)) :
    Calls Try.prog 6 #[.int .i64 cores, .int .i64 ptrs, .slice p l.length cap, .int .i64 by_] w (Holds w) := by
  have HNW := Lib.hid hn
  clear hn
  go_enter Try.func6, Try.ntmps6
  go_wp2_with fail
  refine (awake_any _).mono ?_
  rintro e w1 ⟨rfl, hb1⟩
  go_wp2_with fail
  refine (new_is HNW.out _).mono ?_
  rintro e w2 ⟨v, rfl, p2, c2, rfl, -, hb2, -⟩
  have hb3 := bstep (bstep hb1 hb2) (balloc w2 (.cells #[.int .i64 0, .int .i64 0, .slice p2 0 c2, .bool false] 24))
  have HB3 := Lib.hid hb3
  clear hb1 hb2 hb3
  go_wp2_with fail
  go_ret
  exact ⟨rfl, HB3.out⟩

/-- What holds at each round's head of the first loop. -/
def ORel (w : World) (ba bb c : Nat) (m : Int) (l : List Int) (b : Nat) (i : Value) (wr : World) : Prop :=
  ∃ k : Nat, k ≤ l.length ∧ i = .int .i64 k ∧ OSt w ba bb (stL c m (l.take k)) (stL c m (turned l b k)) wr
/-- .. of the second. -/
def CRel (w : World) (ba bb bc c : Nat) (m : Int) (l : List Int) (sa sb : St) (i : Value) (wr : World) : Prop :=
  ∃ k : Nat, k ≤ l.length ∧ i = .int .i64 k ∧ O3 w ba bb bc sa sb (stL c m (l ++ l.take k)) wr
theorem take_snoc (l : List Int) (k : Nat) (h : k < l.length) : l.take (k + 1) = l.take k ++ [l.getD k 0] := by
  rw [List.take_add_one]
  simp [List.getElem?_eq_getElem h, List.getD_eq_getElem?_getD]

set_option maxRecDepth 1000000 in
set_option maxHeartbeats 16000000 in
theorem order_fine (c : Nat) (m : Int) (p : Option Addr) (cap : Nat) (l : List Int) (b : Nat) (w : World) (hin : NumsIn w p l) (h : l.length ≤ 100) (hb : b ≤ l.length) (h1 : 1 ≤ c) (h2 : c ≤ 64) (h3 : 0 ≤ m) (h4 : m ≤ 8) :
    Calls Try.prog 6 #[.int .i64 c, .int .i64 m, .slice p l.length cap, .int .i64 b] w (Holds w) := by
  have HI := Lib.hid hin
  have HNW := Lib.hid (new_st h1 h2 h3 h4)
  clear hin
  go_enter Try.func6, Try.ntmps6
  go_wp2_with fail
  refine (awake_any _).mono ?_
  rintro e w1 ⟨rfl, hb1⟩
  go_wp2_with fail
  refine (new_is HNW.out _).mono ?_
  generalize hs0 : stOf c m (fun _ => false) = s0
  rintro e w2 ⟨v, rfl, p2, c2, rfl, hin2, hb2, hf2⟩
  have hbA := balloc w2 (.cells (sval s0 p2 c2) 24)
  have hbB := balloc (w2.alloc (.cells (sval s0 p2 c2) 24)) (.cells (sval s0 p2 c2) 24)
  have hs12 := hb2.size
  have hs1 := hb1.size
  have hl0 : s0.l = [] := by rw [← hs0, stOf_few (by rw [canon_none]; simpa using h3), canon_none]
  have ho : OSt w w2.heap.size (w2.heap.size + 1) s0 s0 ((w2.alloc (.cells (sval s0 p2 c2) 24)).alloc (.cells (sval s0 p2 c2) 24)) :=
    ⟨⟨p2, c2, new_at1 w2 _ _, (hin2.step hbA).step hbB, fun hl => absurd hl0 hl⟩, ⟨p2, c2, new_at2 w2 _ _, (hin2.step hbA).step hbB, fun hl => absurd hl0 hl⟩, by omega, by omega, by omega, bstep (bstep (bstep hb1 hb2) hbA) hbB⟩
  have HO := Lib.hid ho
  clear ho hbA hbB hb1 hb2 hf2 hin2 hl0
  go_wp2_with fail
  subst hs0
  generalize w2.heap.size = ba at HO ⊢
  generalize hbb : ba + 1 = bb at HO ⊢
  generalize World.alloc _ _ = w3 at HO ⊢
  go_loopw [48] (fun i wr => ORel w ba bb c m l b i wr) (fun i _ => l.length - (intOf i).toNat)
  case atStart => exact ⟨0, Nat.zero_le _, rfl, HO.out⟩
  case round =>
    obtain ⟨k, hk, rfl, ho⟩ := hrel
    have HO' := Lib.hid ho
    have HIN := Lib.hid (HI.out.step ho.below)
    clear ho HO
    have HO := HO'
    clear HO'
    by_cases hlt : k < l.length
    · as_aux_lemma =>
      have HTA := Lib.hid (take_snoc l k hlt)
      have HTB := Lib.hid (turned_succ l b k)
      obtain ⟨pa, ca, hbka, hia, -⟩ := HO.out.a
      obtain ⟨g, off, rfl, hg, hx⟩ := HIN.out k hlt
      generalize hxe : l.getD k 0 = x at hx
      rw [hxe] at HTA
      have HAY : Hid (addS (stL c m (l.take k)) x = if hasB c x = true then (stL c m (l.take k ++ [x]), 0) else (z0, 5)) := Lib.hid (by
        by_cases hxc : hasB c x = true
        · rw [if_pos hxc]; exact addL_yes h1 h2 h3 h4 hxc
        · rw [if_neg hxc]; exact addL_no h1 h2 h3 h4 (by simpa using hxc))
      have hlsa := stL_len c m (l.take k)
      generalize hsa : stL c m (l.take k) = sa at *
      obtain ⟨s', e', hse⟩ : ∃ s' e', addS sa x = (s', e') := ⟨_, _, rfl⟩
      have HSE := Lib.hid hse
      have HSA := Lib.hid hsa
      clear hse hsa hxe
      go_upto_region 12 with fail
      go_cut [12, 13, 14, 48] from 48 to 84 (fun s12 s13 s14 s48 wx => s12 = .int .i64 k ∧ s48 = .int .i64 k ∧ ∃ g13, s13 = .pointer (some ⟨g13, 0, none⟩) ∧ s14 = .int .i64 e' ∧ OSt w ba bb sa (stL c m (turned l b k)) wx ∧ Box (fun k => k = ba ∨ k = bb) g13 s' wx)
      case first =>
        as_aux_lemma =>
        have hlta := HO.out.a.lt
        have hltb := HO.out.b.lt
        have HC : Hid (∀ W, Below wr.heap.size wr W → (∀ o, W.cell? ⟨ba, o, none⟩ = (sval sa pa ca)[o]?) ∧ W.cell? ⟨g, off + k, none⟩ = some (.int .i64 x)) := Lib.hid (fun W hb => ⟨fun o => (hb.cell (p := ⟨ba, o, none⟩) hlta).trans (blk_cell hbka o), (hb.cell (p := ⟨g, off + k, none⟩) hg).trans hx⟩)
        have HS := HC
        have HP : Hid (∀ W, Below wr.heap.size wr W → Calls Try.prog 11 #[.agg (sval sa pa ca), .int .i64 x] W (GaveS W s' e')) := Lib.hid (fun W hb => add_is HSE.out pa ca W (hia.step hb) (by omega))
        have hbd : Below wr.heap.size wr wr.drew := (Below.refl _ _).drew
        have hba : Below wr.heap.size wr (wr.alloc (.cells zc 24)).drew := (balloc wr _).drew
        have HD := Lib.hid hbd
        have HA := Lib.hid hba
        obtain ⟨cd1, cd2⟩ := HS.out _ hbd
        clear hbd hba hbka hia hx
        refine wp_region_noPanic ?_
        refine wp_region_held_drew (S := fun w' => (∀ o, w'.cell? ⟨ba, o, none⟩ = (sval sa pa ca)[o]?) ∧ w'.cell? ⟨g, off + k, none⟩ = some (.int .i64 x)) (by kernel_rfl) ⟨cd1, cd2⟩ (fun hh => ?_)
        refine wpAnyH_take (fuel := 11) (i := 0) (oi := ⟨some 52, _, _, _, _, _⟩) (v := .agg (sval sa pa ca)) rfl (by kernel_rfl) (by kernel_rfl) (by kernel_rfl) (fun _ _ _ h => h) (Or.inl ⟨by rfl, ?_⟩) hh ?_
        · rintro w' ⟨c0, c1⟩
          go_simp
        simp only [Act.put, List.setIfInBounds_toArray, List.set_cons_zero, List.set_cons_succ]
        refine wpAnyH_take (fuel := 10) (i := 1) (oi := ⟨some 53, _, _, _, _, _⟩) (v := .slice (some ⟨g, off, none⟩) l.length cap) rfl (by kernel_rfl) (by kernel_rfl) (by kernel_rfl) (fun _ _ _ h => h) (Or.inl ⟨by rfl, ?_⟩) hh ?_
        · intro w' _
          go_simp
        simp only [Act.put, List.setIfInBounds_toArray, List.set_cons_zero, List.set_cons_succ]
        refine wpAnyH_take (fuel := 9) (i := 2) (oi := ⟨some 54, _, _, _, _, _⟩) (v := .int .i64 k) rfl (by kernel_rfl) (by kernel_rfl) (by kernel_rfl) (fun _ _ _ h => h) (Or.inl ⟨by rfl, ?_⟩) hh ?_
        · intro w' _
          go_simp
        simp only [Act.put, List.setIfInBounds_toArray, List.set_cons_zero, List.set_cons_succ]
        refine wpAnyH_take (fuel := 8) (i := 3) (oi := ⟨some 55, _, _, _, _, _⟩) (v := .pointer (some ⟨g, off + k, none⟩)) rfl (by kernel_rfl) (by kernel_rfl) (by kernel_rfl) (fun _ _ _ h => h) (Or.inl ⟨by rfl, ?_⟩) hh ?_
        · intro w' _
          go_simp
        simp only [Act.put, List.setIfInBounds_toArray, List.set_cons_zero, List.set_cons_succ]
        refine wpAnyH_take (fuel := 7) (i := 4) (oi := ⟨some 56, _, _, _, _, _⟩) (v := .int .i64 x) rfl (by kernel_rfl) (by kernel_rfl) (by kernel_rfl) (fun _ _ _ h => h) (Or.inl ⟨by rfl, ?_⟩) hh ?_
        · rintro w' ⟨c0, c1⟩
          go_simp
        simp only [Act.put, List.setIfInBounds_toArray, List.set_cons_zero, List.set_cons_succ]
        refine wpAnyH_ready (fuel := 6) (rs := [5, 9]) (by kernel_rfl) (by simp) ?_
        refine AllReadyH.cons (o := ⟨some 57, _, _, _, _, _⟩) rfl (fun K hK => ?_) (AllReadyH.cons (o := ⟨some 13, _, _, _, _, _⟩) rfl (fun K hK => ?_) AllReadyH.nil)
        · go_simp
          refine (HP.out _ HD.out).mono ?_
          rintro e w4 ⟨v4, rfl, p4, c4, rfl, hi4, hb4, hf4⟩
          have HB4 := Lib.hid (bstep HD.out hb4)
          have HI4 := Lib.hid hi4
          have HF4 := Lib.hid hf4
          show K _ _
          refine hK.out _ _ (HS.out _ HB4.out) (fun hh2 => ?_)
          clear hK K hh hb4 hi4 hf4
          refine wpAnyH_take (fuel := 5) (i := 6) (oi := ⟨some 51, _, _, _, _, _⟩) (v := .tuple #[.agg (sval s' p4 c4), .int .i64 e']) rfl (by kernel_rfl) (by kernel_rfl) (by kernel_rfl) (fun _ _ _ h => h) (Or.inl ⟨by rfl, ?_⟩) hh2 ?_
          · intro w' _
            go_simp
          simp only [Act.put, List.setIfInBounds_toArray, List.set_cons_zero, List.set_cons_succ]
          refine wpAnyH_take (fuel := 4) (i := 7) (oi := ⟨some 58, _, _, _, _, _⟩) (v := .agg (sval s' p4 c4)) rfl (by kernel_rfl) (by kernel_rfl) (by kernel_rfl) (fun _ _ _ h => h) (Or.inl ⟨by rfl, ?_⟩) hh2 ?_
          · intro w' _
            go_simp
          simp only [Act.put, List.setIfInBounds_toArray, List.set_cons_zero, List.set_cons_succ]
          refine wpAnyH_take (fuel := 3) (i := 8) (oi := ⟨some 59, _, _, _, _, _⟩) (v := .int .i64 e') rfl (by kernel_rfl) (by kernel_rfl) (by kernel_rfl) (fun _ _ _ h => h) (Or.inl ⟨by rfl, ?_⟩) hh2 ?_
          · intro w' _
            go_simp
          simp only [Act.put, List.setIfInBounds_toArray, List.set_cons_zero, List.set_cons_succ]
          refine wpAnyH_ready (fuel := 2) (rs := [9]) (by kernel_rfl) (by simp) ?_
          refine AllReadyH.cons (o := ⟨some 13, _, _, _, _, _⟩) rfl (fun K hK => ?_) AllReadyH.nil
          go_simp
          have hb5 := balloc w4 (.cells zc 24)
          have HB5 := Lib.hid (bstep HB4.out hb5)
          have hs4 := HB4.out.size
          show K _ _
          refine hK.out _ _ (HS.out _ HB5.out) (fun hh3 => ?_)
          clear hK K hh2
          refine wpAnyH_ready (fuel := 1) (rs := [10]) (by kernel_rfl) (by simp) ?_
          refine AllReadyH.cons (o := ⟨none, _, _, _, _, _⟩) rfl (fun K hK => ?_) AllReadyH.nil
          rw [if_pos (by rfl)]
          refine wp_store_row 24 (.tmp 13) (.tmp 58) rfl w4.heap.size (sval s' p4 c4) rfl rfl 24 zc (heap_alloc_new w4 _) (by kernel_rfl) rfl (by kernel_rfl) ?_
          have HB6 := Lib.hid (below_setRow HB5.out hs4 (sval s' p4 c4))
          refine hK.out _ _ (HS.out _ HB6.out) (fun hh4 => ?_)
          clear hK K
          simp only [Act.put]
          refine wpAnyH_take (fuel := 0) (i := 11) (oi := ⟨some 14, _, _, _, _, _⟩) (v := .int .i64 e') rfl (by kernel_rfl) (by kernel_rfl) (by kernel_rfl) (fun _ _ _ h => h) (Or.inl ⟨by rfl, ?_⟩) hh4 ?_
          · intro w' _
            go_simp
          simp only [Act.put, List.setIfInBounds_toArray, List.set_cons_zero, List.set_cons_succ]
          refine wpAnyH_done (by kernel_rfl) ?_ _
          refine NoPanic.normal ?_
          clear hh3 hh4
          go_wp2_with fail
          go_meet
          case rel => exact ⟨rfl, rfl, _, rfl, rfl, HO.out.step HB6.out, p4, c4, (setRow_heap _ w4.heap.size _ (sval s' p4 c4) 24 (0, 0) (heap_alloc_new w4 (.cells zc 24))), (HI4.out.newRow _ _), fun _ a ha hG => by have hq := HF4.out a ha; simp at hq; simp only at hG; omega⟩
        · go_simp
          show K _ _
          refine hK.out _ _ (HS.out _ HA.out) (fun hh2 => ?_)
          clear hK K hh
          refine wpAnyH_ready (fuel := 5) (rs := [5]) (by kernel_rfl) (by simp) ?_
          refine AllReadyH.cons (o := ⟨some 57, _, _, _, _, _⟩) rfl (fun K hK => ?_) AllReadyH.nil
          go_simp
          refine (HP.out _ HA.out).mono ?_
          rintro e w4 ⟨v4, rfl, p4, c4, rfl, hi4, hb4, hf4⟩
          have HB4 := Lib.hid (bstep HA.out hb4)
          have HI4 := Lib.hid hi4
          have HF4 := Lib.hid hf4
          have HZ := Lib.hid ((hb4.block wr.heap.size (by simp)).trans (heap_alloc_new wr (.cells zc 24)))
          show K _ _
          refine hK.out _ _ (HS.out _ HB4.out) (fun hh3 => ?_)
          clear hK K hh2 hb4 hi4 hf4
          refine wpAnyH_take (fuel := 4) (i := 6) (oi := ⟨some 51, _, _, _, _, _⟩) (v := .tuple #[.agg (sval s' p4 c4), .int .i64 e']) rfl (by kernel_rfl) (by kernel_rfl) (by kernel_rfl) (fun _ _ _ h => h) (Or.inl ⟨by rfl, ?_⟩) hh3 ?_
          · intro w' _
            go_simp
          simp only [Act.put, List.setIfInBounds_toArray, List.set_cons_zero, List.set_cons_succ]
          refine wpAnyH_take (fuel := 3) (i := 7) (oi := ⟨some 58, _, _, _, _, _⟩) (v := .agg (sval s' p4 c4)) rfl (by kernel_rfl) (by kernel_rfl) (by kernel_rfl) (fun _ _ _ h => h) (Or.inl ⟨by rfl, ?_⟩) hh3 ?_
          · intro w' _
            go_simp
          simp only [Act.put, List.setIfInBounds_toArray, List.set_cons_zero, List.set_cons_succ]
          refine wpAnyH_take (fuel := 2) (i := 8) (oi := ⟨some 59, _, _, _, _, _⟩) (v := .int .i64 e') rfl (by kernel_rfl) (by kernel_rfl) (by kernel_rfl) (fun _ _ _ h => h) (Or.inl ⟨by rfl, ?_⟩) hh3 ?_
          · intro w' _
            go_simp
          simp only [Act.put, List.setIfInBounds_toArray, List.set_cons_zero, List.set_cons_succ]
          refine wpAnyH_ready (fuel := 1) (rs := [10]) (by kernel_rfl) (by simp) ?_
          refine AllReadyH.cons (o := ⟨none, _, _, _, _, _⟩) rfl (fun K hK => ?_) AllReadyH.nil
          rw [if_pos (by rfl)]
          refine wp_store_row 24 (.tmp 13) (.tmp 58) rfl wr.heap.size (sval s' p4 c4) rfl rfl 24 zc HZ.out (by kernel_rfl) rfl (by kernel_rfl) ?_
          have HB6 := Lib.hid (below_setRow HB4.out (Nat.le_refl _) (sval s' p4 c4))
          refine hK.out _ _ (HS.out _ HB6.out) (fun hh4 => ?_)
          clear hK K
          simp only [Act.put]
          refine wpAnyH_take (fuel := 0) (i := 11) (oi := ⟨some 14, _, _, _, _, _⟩) (v := .int .i64 e') rfl (by kernel_rfl) (by kernel_rfl) (by kernel_rfl) (fun _ _ _ h => h) (Or.inl ⟨by rfl, ?_⟩) hh4 ?_
          · intro w' _
            go_simp
          simp only [Act.put, List.setIfInBounds_toArray, List.set_cons_zero, List.set_cons_succ]
          refine wpAnyH_done (by kernel_rfl) ?_ _
          refine NoPanic.normal ?_
          clear hh3 hh4
          go_wp2_with fail
          go_meet
          case rel => exact ⟨rfl, rfl, _, rfl, rfl, HO.out.step HB6.out, p4, c4, (setRow_heap _ wr.heap.size _ (sval s' p4 c4) 24 (0, 0) HZ.out), (HI4.out.row wr.heap.size (fun a ha => by have := HF4.out a ha; simp at this; omega) _), fun _ a ha hG => by have hq := HF4.out a ha; simp at hq; simp only at hG; omega⟩
      case rest =>
        as_aux_lemma =>
        clear hbka hia hx hg
        obtain ⟨rfl, rfl, g13, rfl, rfl, ho2, hb13⟩ := hcut
        have HO2 := Lib.hid ho2
        have HB13 := Lib.hid hb13
        clear ho2 hb13 HO
        obtain ⟨pt, ct, hbkt, hit, hft⟩ := HB13.out
        have hct : ∀ o, wc.cell? ⟨g13, o, none⟩ = (sval s' pt ct)[o]? := fun o => blk_cell hbkt o
        have HT := Lib.hid (And.intro hit hft)
        clear hit hft hbkt
        rcases Bool.eq_false_or_eq_true (hasB c x) with hxc | hxc
        · have he := HSE.out.symm.trans (HAY.out.trans (if_pos hxc))
          simp only [Prod.mk.injEq] at he
          obtain ⟨he1, rfl⟩ := he
          obtain ⟨qa, cqa, hbk2, -⟩ := HO2.out.a
          have HBK2 := Lib.hid hbk2
          have HO3 : Hid (OSt w ba bb (stL c m (l.take (k + 1))) (stL c m (turned l b k)) (wc.setRow ba (sval s' pt ct))) := Lib.hid (by
            have := HO2.out.setA (p := pt) (cap := ct) HT.out.1 HT.out.2
            rw [he1, ← HTA.out] at this
            rw [he1, ← HTA.out]
            exact this)
          clear hxc he1 hbk2 HAY HTA HSE
          go_upto_region 15 with ((with_reducible refine wpList_store_row (o := ⟨none, _, _, _, _, _⟩) rfl 24 (.tmp 9) (.tmp 62) rfl ba (sval s' pt ct) ?sx ?sy 24 (sval sa qa cqa) ?sg ?si ?so ?s1 ?_); (case sx => rfl); (case sy => rfl); (case sg => exact HBK2.out); (case si => kernel_rfl); (case so => rfl); (case s1 => kernel_rfl))
          clear hct
          go_frame
          generalize World.setRow _ _ _ = wy at HO3 ⊢
          clear HT HB13 HO2
          obtain ⟨pb, cb, hbkb, hib, -⟩ := HO3.out.b
          obtain ⟨n1, hn1⟩ : ∃ n1, n1 = l.length - 1 := ⟨_, rfl⟩
          obtain ⟨n2, hn2⟩ : ∃ n2, n2 = n1 - k := ⟨_, rfl⟩
          obtain ⟨n3, hn3⟩ : ∃ n3, n3 = n2 + b := ⟨_, rfl⟩
          obtain ⟨d, hd⟩ : ∃ d, d = n3 % l.length := ⟨_, rfl⟩
          have hdl : d < l.length := by rw [hd]; exact Nat.mod_lt _ (by omega)
          have hdt : turnAt l.length b k = d := by rw [hd, hn3, hn2, hn1]; rfl
          have hA : IntKind.i64.wrap ((l.length : Int) - 1) = (n1 : Int) := wrap_nat (by omega) (by omega)
          have hB : IntKind.i64.wrap ((n1 : Int) - (k : Int)) = (n2 : Int) := wrap_nat (by omega) (by omega)
          have hC : IntKind.i64.wrap ((n2 : Int) + (b : Int)) = (n3 : Int) := wrap_nat (by omega) (by omega)
          have hD : (n3 : Int).tmod (l.length : Int) = (d : Int) := by rw [hd]; rfl
          have hD2 : IntKind.i64.wrap (d : Int) = (d : Int) := wrap_nat rfl (by omega)
          have hN0 : ¬ l.length = 0 := by omega
          obtain ⟨hg2, hy⟩ := (HI.out.step HO3.out.below).at d hdl
          generalize hye : l.getD d 0 = y at hy
          rw [hdt, hye] at HTB
          have HBY : Hid (addS (stL c m (turned l b k)) y = if hasB c y = true then (stL c m (turned l b k ++ [y]), 0) else (z0, 5)) := Lib.hid (by
            by_cases hxc : hasB c y = true
            · rw [if_pos hxc]; exact addL_yes h1 h2 h3 h4 hxc
            · rw [if_neg hxc]; exact addL_no h1 h2 h3 h4 (by simpa using hxc))
          have hlsb := stL_len c m (turned l b k)
          generalize hsb : stL c m (turned l b k) = sb at *
          obtain ⟨t', f', hsf⟩ : ∃ t' f', addS sb y = (t', f') := ⟨_, _, rfl⟩
          have HSF := Lib.hid hsf
          have HSB := Lib.hid hsb
          clear hsf hsb hye hn1 hn2 hn3 hd hdt
          go_cut [12, 15, 16, 48] from 48 to 84 (fun s12 s15 s16 s48 wx => s12 = .int .i64 k ∧ s48 = .int .i64 k ∧ ∃ g15, s15 = .pointer (some ⟨g15, 0, none⟩) ∧ s16 = .int .i64 f' ∧ OSt w ba bb (stL c m (l.take (k + 1))) sb wx ∧ Box (fun k => k = ba ∨ k = bb) g15 t' wx)
          case first =>
            as_aux_lemma =>
            have hlta := HO3.out.a.lt
            have hltb := HO3.out.b.lt
            have HS : Hid (∀ W, Below wy.heap.size wy W → (∀ o, W.cell? ⟨bb, o, none⟩ = (sval sb pb cb)[o]?) ∧ W.cell? ⟨g, off + d, none⟩ = some (.int .i64 y)) := Lib.hid (fun W hb => ⟨fun o => (hb.cell (p := ⟨bb, o, none⟩) hltb).trans (blk_cell hbkb o), (hb.cell (p := ⟨g, off + d, none⟩) hg2).trans hy⟩)
            have HP : Hid (∀ W, Below wy.heap.size wy W → Calls Try.prog 11 #[.agg (sval sb pb cb), .int .i64 y] W (GaveS W t' f')) := Lib.hid (fun W hb => add_is HSF.out pb cb W (hib.step hb) (by omega))
            have hbd : Below wy.heap.size wy wy.drew := (Below.refl _ _).drew
            have hba : Below wy.heap.size wy (wy.alloc (.cells zc 24)).drew := (balloc wy _).drew
            have HD := Lib.hid hbd
            have HA := Lib.hid hba
            obtain ⟨cd1, cd2⟩ := HS.out _ hbd
            clear hbd hba hbkb hib hy
            refine wp_region_noPanic ?_
            refine wp_region_held_drew (S := fun w' => (∀ o, w'.cell? ⟨bb, o, none⟩ = (sval sb pb cb)[o]?) ∧ w'.cell? ⟨g, off + d, none⟩ = some (.int .i64 y)) (by kernel_rfl) ⟨cd1, cd2⟩ (fun hh => ?_)
            refine wpAnyH_take (fuel := 20) (i := 0) (oi := ⟨some 64, _, _, _, _, _⟩) (v := .agg (sval sb pb cb)) rfl (by kernel_rfl) (by kernel_rfl) (by kernel_rfl) (fun _ _ _ h => h) (Or.inl ⟨by rfl, ?_⟩) hh ?_
            · rintro w' ⟨c0, c1⟩
              go_simp
            simp only [Act.put, List.setIfInBounds_toArray, List.set_cons_zero, List.set_cons_succ]
            refine wpAnyH_take (fuel := 19) (i := 1) (oi := ⟨some 65, _, _, _, _, _⟩) (v := .slice (some ⟨g, off, none⟩) l.length cap) rfl (by kernel_rfl) (by kernel_rfl) (by kernel_rfl) (fun _ _ _ h => h) (Or.inl ⟨by rfl, ?_⟩) hh ?_
            · intro w' _
              go_simp
            simp only [Act.put, List.setIfInBounds_toArray, List.set_cons_zero, List.set_cons_succ]
            refine wpAnyH_take (fuel := 18) (i := 2) (oi := ⟨some 66, _, _, _, _, _⟩) (v := .slice (some ⟨g, off, none⟩) l.length cap) rfl (by kernel_rfl) (by kernel_rfl) (by kernel_rfl) (fun _ _ _ h => h) (Or.inl ⟨by rfl, ?_⟩) hh ?_
            · intro w' _
              go_simp
            simp only [Act.put, List.setIfInBounds_toArray, List.set_cons_zero, List.set_cons_succ]
            refine wpAnyH_take (fuel := 17) (i := 3) (oi := ⟨some 67, _, _, _, _, _⟩) (v := .int .i64 l.length) rfl (by kernel_rfl) (by kernel_rfl) (by kernel_rfl) (fun _ _ _ h => h) (Or.inl ⟨by rfl, ?_⟩) hh ?_
            · intro w' _
              go_simp
            simp only [Act.put, List.setIfInBounds_toArray, List.set_cons_zero, List.set_cons_succ]
            refine wpAnyH_take (fuel := 16) (i := 4) (oi := ⟨some 68, _, _, _, _, _⟩) (v := .int .i64 n1) rfl (by kernel_rfl) (by kernel_rfl) (by kernel_rfl) (fun _ _ _ h => h) (Or.inl ⟨by rfl, ?_⟩) hh ?_
            · intro w' _
              go_simp
            simp only [Act.put, List.setIfInBounds_toArray, List.set_cons_zero, List.set_cons_succ]
            refine wpAnyH_take (fuel := 15) (i := 5) (oi := ⟨some 69, _, _, _, _, _⟩) (v := .int .i64 k) rfl (by kernel_rfl) (by kernel_rfl) (by kernel_rfl) (fun _ _ _ h => h) (Or.inl ⟨by rfl, ?_⟩) hh ?_
            · intro w' _
              go_simp
            simp only [Act.put, List.setIfInBounds_toArray, List.set_cons_zero, List.set_cons_succ]
            refine wpAnyH_take (fuel := 14) (i := 6) (oi := ⟨some 70, _, _, _, _, _⟩) (v := .int .i64 n2) rfl (by kernel_rfl) (by kernel_rfl) (by kernel_rfl) (fun _ _ _ h => h) (Or.inl ⟨by rfl, ?_⟩) hh ?_
            · intro w' _
              go_simp
            simp only [Act.put, List.setIfInBounds_toArray, List.set_cons_zero, List.set_cons_succ]
            refine wpAnyH_take (fuel := 13) (i := 7) (oi := ⟨some 71, _, _, _, _, _⟩) (v := .int .i64 b) rfl (by kernel_rfl) (by kernel_rfl) (by kernel_rfl) (fun _ _ _ h => h) (Or.inl ⟨by rfl, ?_⟩) hh ?_
            · intro w' _
              go_simp
            simp only [Act.put, List.setIfInBounds_toArray, List.set_cons_zero, List.set_cons_succ]
            refine wpAnyH_take (fuel := 12) (i := 8) (oi := ⟨some 72, _, _, _, _, _⟩) (v := .int .i64 n3) rfl (by kernel_rfl) (by kernel_rfl) (by kernel_rfl) (fun _ _ _ h => h) (Or.inl ⟨by rfl, ?_⟩) hh ?_
            · intro w' _
              go_simp
            simp only [Act.put, List.setIfInBounds_toArray, List.set_cons_zero, List.set_cons_succ]
            refine wpAnyH_take (fuel := 11) (i := 9) (oi := ⟨some 73, _, _, _, _, _⟩) (v := .slice (some ⟨g, off, none⟩) l.length cap) rfl (by kernel_rfl) (by kernel_rfl) (by kernel_rfl) (fun _ _ _ h => h) (Or.inl ⟨by rfl, ?_⟩) hh ?_
            · intro w' _
              go_simp
            simp only [Act.put, List.setIfInBounds_toArray, List.set_cons_zero, List.set_cons_succ]
            refine wpAnyH_take (fuel := 10) (i := 10) (oi := ⟨some 74, _, _, _, _, _⟩) (v := .int .i64 l.length) rfl (by kernel_rfl) (by kernel_rfl) (by kernel_rfl) (fun _ _ _ h => h) (Or.inl ⟨by rfl, ?_⟩) hh ?_
            · intro w' _
              go_simp
            simp only [Act.put, List.setIfInBounds_toArray, List.set_cons_zero, List.set_cons_succ]
            refine wpAnyH_take (fuel := 9) (i := 11) (oi := ⟨some 75, _, _, _, _, _⟩) (v := .int .i64 d) rfl (by kernel_rfl) (by kernel_rfl) (by kernel_rfl) (fun _ _ _ h => h) (Or.inl ⟨by rfl, ?_⟩) hh ?_
            · intro w' _
              go_simp
            simp only [Act.put, List.setIfInBounds_toArray, List.set_cons_zero, List.set_cons_succ]
            refine wpAnyH_take (fuel := 8) (i := 12) (oi := ⟨some 76, _, _, _, _, _⟩) (v := .pointer (some ⟨g, off + d, none⟩)) rfl (by kernel_rfl) (by kernel_rfl) (by kernel_rfl) (fun _ _ _ h => h) (Or.inl ⟨by rfl, ?_⟩) hh ?_
            · intro w' _
              go_simp
            simp only [Act.put, List.setIfInBounds_toArray, List.set_cons_zero, List.set_cons_succ]
            refine wpAnyH_take (fuel := 7) (i := 13) (oi := ⟨some 77, _, _, _, _, _⟩) (v := .int .i64 y) rfl (by kernel_rfl) (by kernel_rfl) (by kernel_rfl) (fun _ _ _ h => h) (Or.inl ⟨by rfl, ?_⟩) hh ?_
            · rintro w' ⟨c0, c1⟩
              go_simp
            simp only [Act.put, List.setIfInBounds_toArray, List.set_cons_zero, List.set_cons_succ]
            refine wpAnyH_ready (fuel := 6) (rs := [14, 18]) (by kernel_rfl) (by simp) ?_
            refine AllReadyH.cons (o := ⟨some 78, _, _, _, _, _⟩) rfl (fun K hK => ?_) (AllReadyH.cons (o := ⟨some 15, _, _, _, _, _⟩) rfl (fun K hK => ?_) AllReadyH.nil)
            · go_simp
              refine (HP.out _ HD.out).mono ?_
              rintro e w4 ⟨v4, rfl, p4, c4, rfl, hi4, hb4, hf4⟩
              have HB4 := Lib.hid (bstep HD.out hb4)
              have HI4 := Lib.hid hi4
              have HF4 := Lib.hid hf4
              show K _ _
              refine hK.out _ _ (HS.out _ HB4.out) (fun hh2 => ?_)
              clear hK K hh hb4 hi4 hf4
              refine wpAnyH_take (fuel := 5) (i := 15) (oi := ⟨some 63, _, _, _, _, _⟩) (v := .tuple #[.agg (sval t' p4 c4), .int .i64 f']) rfl (by kernel_rfl) (by kernel_rfl) (by kernel_rfl) (fun _ _ _ h => h) (Or.inl ⟨by rfl, ?_⟩) hh2 ?_
              · intro w' _
                go_simp
              simp only [Act.put, List.setIfInBounds_toArray, List.set_cons_zero, List.set_cons_succ]
              refine wpAnyH_take (fuel := 4) (i := 16) (oi := ⟨some 79, _, _, _, _, _⟩) (v := .agg (sval t' p4 c4)) rfl (by kernel_rfl) (by kernel_rfl) (by kernel_rfl) (fun _ _ _ h => h) (Or.inl ⟨by rfl, ?_⟩) hh2 ?_
              · intro w' _
                go_simp
              simp only [Act.put, List.setIfInBounds_toArray, List.set_cons_zero, List.set_cons_succ]
              refine wpAnyH_take (fuel := 3) (i := 17) (oi := ⟨some 80, _, _, _, _, _⟩) (v := .int .i64 f') rfl (by kernel_rfl) (by kernel_rfl) (by kernel_rfl) (fun _ _ _ h => h) (Or.inl ⟨by rfl, ?_⟩) hh2 ?_
              · intro w' _
                go_simp
              simp only [Act.put, List.setIfInBounds_toArray, List.set_cons_zero, List.set_cons_succ]
              refine wpAnyH_ready (fuel := 2) (rs := [18]) (by kernel_rfl) (by simp) ?_
              refine AllReadyH.cons (o := ⟨some 15, _, _, _, _, _⟩) rfl (fun K hK => ?_) AllReadyH.nil
              go_simp
              have hb5 := balloc w4 (.cells zc 24)
              have HB5 := Lib.hid (bstep HB4.out hb5)
              have hs4 := HB4.out.size
              show K _ _
              refine hK.out _ _ (HS.out _ HB5.out) (fun hh3 => ?_)
              clear hK K hh2
              refine wpAnyH_ready (fuel := 1) (rs := [19]) (by kernel_rfl) (by simp) ?_
              refine AllReadyH.cons (o := ⟨none, _, _, _, _, _⟩) rfl (fun K hK => ?_) AllReadyH.nil
              rw [if_pos (by rfl)]
              refine wp_store_row 24 (.tmp 15) (.tmp 79) rfl w4.heap.size (sval t' p4 c4) rfl rfl 24 zc (heap_alloc_new w4 _) (by kernel_rfl) rfl (by kernel_rfl) ?_
              have HB6 := Lib.hid (below_setRow HB5.out hs4 (sval t' p4 c4))
              refine hK.out _ _ (HS.out _ HB6.out) (fun hh4 => ?_)
              clear hK K
              simp only [Act.put]
              refine wpAnyH_take (fuel := 0) (i := 20) (oi := ⟨some 16, _, _, _, _, _⟩) (v := .int .i64 f') rfl (by kernel_rfl) (by kernel_rfl) (by kernel_rfl) (fun _ _ _ h => h) (Or.inl ⟨by rfl, ?_⟩) hh4 ?_
              · intro w' _
                go_simp
              simp only [Act.put, List.setIfInBounds_toArray, List.set_cons_zero, List.set_cons_succ]
              refine wpAnyH_done (by kernel_rfl) ?_ _
              refine NoPanic.normal ?_
              clear hh3 hh4
              go_wp2_with fail
              go_meet
              case rel => exact ⟨rfl, rfl, _, rfl, rfl, HO3.out.step HB6.out, p4, c4, (setRow_heap _ w4.heap.size _ (sval t' p4 c4) 24 (0, 0) (heap_alloc_new w4 (.cells zc 24))), (HI4.out.newRow _ _), fun _ a ha hG => by have hq := HF4.out a ha; simp at hq; simp only at hG; omega⟩
            · go_simp
              show K _ _
              refine hK.out _ _ (HS.out _ HA.out) (fun hh2 => ?_)
              clear hK K hh
              refine wpAnyH_ready (fuel := 5) (rs := [14]) (by kernel_rfl) (by simp) ?_
              refine AllReadyH.cons (o := ⟨some 78, _, _, _, _, _⟩) rfl (fun K hK => ?_) AllReadyH.nil
              go_simp
              refine (HP.out _ HA.out).mono ?_
              rintro e w4 ⟨v4, rfl, p4, c4, rfl, hi4, hb4, hf4⟩
              have HB4 := Lib.hid (bstep HA.out hb4)
              have HI4 := Lib.hid hi4
              have HF4 := Lib.hid hf4
              have HZ := Lib.hid ((hb4.block wy.heap.size (by simp)).trans (heap_alloc_new wy (.cells zc 24)))
              show K _ _
              refine hK.out _ _ (HS.out _ HB4.out) (fun hh3 => ?_)
              clear hK K hh2 hb4 hi4 hf4
              refine wpAnyH_take (fuel := 4) (i := 15) (oi := ⟨some 63, _, _, _, _, _⟩) (v := .tuple #[.agg (sval t' p4 c4), .int .i64 f']) rfl (by kernel_rfl) (by kernel_rfl) (by kernel_rfl) (fun _ _ _ h => h) (Or.inl ⟨by rfl, ?_⟩) hh3 ?_
              · intro w' _
                go_simp
              simp only [Act.put, List.setIfInBounds_toArray, List.set_cons_zero, List.set_cons_succ]
              refine wpAnyH_take (fuel := 3) (i := 16) (oi := ⟨some 79, _, _, _, _, _⟩) (v := .agg (sval t' p4 c4)) rfl (by kernel_rfl) (by kernel_rfl) (by kernel_rfl) (fun _ _ _ h => h) (Or.inl ⟨by rfl, ?_⟩) hh3 ?_
              · intro w' _
                go_simp
              simp only [Act.put, List.setIfInBounds_toArray, List.set_cons_zero, List.set_cons_succ]
              refine wpAnyH_take (fuel := 2) (i := 17) (oi := ⟨some 80, _, _, _, _, _⟩) (v := .int .i64 f') rfl (by kernel_rfl) (by kernel_rfl) (by kernel_rfl) (fun _ _ _ h => h) (Or.inl ⟨by rfl, ?_⟩) hh3 ?_
              · intro w' _
                go_simp
              simp only [Act.put, List.setIfInBounds_toArray, List.set_cons_zero, List.set_cons_succ]
              refine wpAnyH_ready (fuel := 1) (rs := [19]) (by kernel_rfl) (by simp) ?_
              refine AllReadyH.cons (o := ⟨none, _, _, _, _, _⟩) rfl (fun K hK => ?_) AllReadyH.nil
              rw [if_pos (by rfl)]
              refine wp_store_row 24 (.tmp 15) (.tmp 79) rfl wy.heap.size (sval t' p4 c4) rfl rfl 24 zc HZ.out (by kernel_rfl) rfl (by kernel_rfl) ?_
              have HB6 := Lib.hid (below_setRow HB4.out (Nat.le_refl _) (sval t' p4 c4))
              refine hK.out _ _ (HS.out _ HB6.out) (fun hh4 => ?_)
              clear hK K
              simp only [Act.put]
              refine wpAnyH_take (fuel := 0) (i := 20) (oi := ⟨some 16, _, _, _, _, _⟩) (v := .int .i64 f') rfl (by kernel_rfl) (by kernel_rfl) (by kernel_rfl) (fun _ _ _ h => h) (Or.inl ⟨by rfl, ?_⟩) hh4 ?_
              · intro w' _
                go_simp
              simp only [Act.put, List.setIfInBounds_toArray, List.set_cons_zero, List.set_cons_succ]
              refine wpAnyH_done (by kernel_rfl) ?_ _
              refine NoPanic.normal ?_
              clear hh3 hh4
              go_wp2_with fail
              go_meet
              case rel => exact ⟨rfl, rfl, _, rfl, rfl, HO3.out.step HB6.out, p4, c4, (setRow_heap _ wy.heap.size _ (sval t' p4 c4) 24 (0, 0) HZ.out), (HI4.out.row wy.heap.size (fun a ha => by have := HF4.out a ha; simp at this; omega) _), fun _ a ha hG => by have hq := HF4.out a ha; simp at hq; simp only at hG; omega⟩
          case rest =>
            as_aux_lemma =>
            clear hbkb hib hy hg2
            obtain ⟨rfl, rfl, g15, rfl, rfl, ho4, hb15⟩ := hcut
            have HO4 := Lib.hid ho4
            obtain ⟨pt2, ct2, hbkt2, hit2, hft2⟩ := hb15
            have hct2 : ∀ o, wc.cell? ⟨g15, o, none⟩ = (sval t' pt2 ct2)[o]? := fun o => blk_cell hbkt2 o
            have HT2 := Lib.hid (And.intro hit2 hft2)
            clear hit2 hft2 hbkt2 ho4
            rcases Bool.eq_false_or_eq_true (hasB c y) with hyc | hyc
            · have he := HSF.out.symm.trans (HBY.out.trans (if_pos hyc))
              simp only [Prod.mk.injEq] at he
              obtain ⟨he1, rfl⟩ := he
              obtain ⟨qb, cqb, hbk4, -⟩ := HO4.out.b
              have HBK4 := Lib.hid hbk4
              have HO5 : Hid (OSt w ba bb (stL c m (l.take (k + 1))) (stL c m (turned l b (k + 1))) (wc.setRow bb (sval t' pt2 ct2))) := Lib.hid (by
                have := HO4.out.setB (p := pt2) (cap := ct2) HT2.out.1 HT2.out.2
                rw [he1, ← HTB.out] at this
                rw [he1, ← HTB.out]
                exact this)
              clear hyc he1 hbk4 HBY HTB HSF
              go_wp2_with ((with_reducible refine wpList_store_row (o := ⟨none, _, _, _, _, _⟩) rfl 24 (.tmp 11) (.tmp 83) rfl bb (sval t' pt2 ct2) ?sx ?sy 24 (sval sb qb cqb) ?sg ?si ?so ?s1 ?_); (case sx => rfl); (case sy => rfl); (case sg => exact HBK4.out); (case si => kernel_rfl); (case so => rfl); (case s1 => kernel_rfl))
              go_roundw
              case rel => exact ⟨k + 1, by omega, by go_num, HO5.out⟩
              case measure => simp [intOf]; omega
            · have he := HSF.out.symm.trans (HBY.out.trans (if_neg (by rw [hyc]; simp)))
              simp only [Prod.mk.injEq] at he
              obtain ⟨-, rfl⟩ := he
              have HO5 : Hid (OSt w ba bb (stL c m (l.take (k + 1))) (stL c m (turned l b (k + 1))) wc) := Lib.hid (by
                rw [HTB.out, stL_no hyc, HSB.out]
                exact HO4.out)
              clear hyc HBY HTB HSF
              go_wp2_with fail
              go_roundw
              case rel => exact ⟨k + 1, by omega, by go_num, HO5.out⟩
              case measure => simp [intOf]; omega
        · have he := HSE.out.symm.trans (HAY.out.trans (if_neg (by rw [hxc]; simp)))
          simp only [Prod.mk.injEq] at he
          obtain ⟨-, rfl⟩ := he
          have HO3 : Hid (OSt w ba bb (stL c m (l.take (k + 1))) (stL c m (turned l b k)) wc) := Lib.hid (by
            rw [HTA.out, stL_no hxc, HSA.out]
            exact HO2.out)
          clear hxc HAY HTA HSE
          go_upto_region 15 with fail
          clear hct
          obtain ⟨wy, rfl⟩ : ∃ wy : World, wy = wc := ⟨_, rfl⟩
          clear HT HB13 HO2
          obtain ⟨pb, cb, hbkb, hib, -⟩ := HO3.out.b
          obtain ⟨n1, hn1⟩ : ∃ n1, n1 = l.length - 1 := ⟨_, rfl⟩
          obtain ⟨n2, hn2⟩ : ∃ n2, n2 = n1 - k := ⟨_, rfl⟩
          obtain ⟨n3, hn3⟩ : ∃ n3, n3 = n2 + b := ⟨_, rfl⟩
          obtain ⟨d, hd⟩ : ∃ d, d = n3 % l.length := ⟨_, rfl⟩
          have hdl : d < l.length := by rw [hd]; exact Nat.mod_lt _ (by omega)
          have hdt : turnAt l.length b k = d := by rw [hd, hn3, hn2, hn1]; rfl
          have hA : IntKind.i64.wrap ((l.length : Int) - 1) = (n1 : Int) := wrap_nat (by omega) (by omega)
          have hB : IntKind.i64.wrap ((n1 : Int) - (k : Int)) = (n2 : Int) := wrap_nat (by omega) (by omega)
          have hC : IntKind.i64.wrap ((n2 : Int) + (b : Int)) = (n3 : Int) := wrap_nat (by omega) (by omega)
          have hD : (n3 : Int).tmod (l.length : Int) = (d : Int) := by rw [hd]; rfl
          have hD2 : IntKind.i64.wrap (d : Int) = (d : Int) := wrap_nat rfl (by omega)
          have hN0 : ¬ l.length = 0 := by omega
          obtain ⟨hg2, hy⟩ := (HI.out.step HO3.out.below).at d hdl
          generalize hye : l.getD d 0 = y at hy
          rw [hdt, hye] at HTB
          have HBY : Hid (addS (stL c m (turned l b k)) y = if hasB c y = true then (stL c m (turned l b k ++ [y]), 0) else (z0, 5)) := Lib.hid (by
            by_cases hxc : hasB c y = true
            · rw [if_pos hxc]; exact addL_yes h1 h2 h3 h4 hxc
            · rw [if_neg hxc]; exact addL_no h1 h2 h3 h4 (by simpa using hxc))
          have hlsb := stL_len c m (turned l b k)
          generalize hsb : stL c m (turned l b k) = sb at *
          obtain ⟨t', f', hsf⟩ : ∃ t' f', addS sb y = (t', f') := ⟨_, _, rfl⟩
          have HSF := Lib.hid hsf
          have HSB := Lib.hid hsb
          clear hsf hsb hye hn1 hn2 hn3 hd hdt
          go_cut [12, 15, 16, 48] from 48 to 84 (fun s12 s15 s16 s48 wx => s12 = .int .i64 k ∧ s48 = .int .i64 k ∧ ∃ g15, s15 = .pointer (some ⟨g15, 0, none⟩) ∧ s16 = .int .i64 f' ∧ OSt w ba bb (stL c m (l.take (k + 1))) sb wx ∧ Box (fun k => k = ba ∨ k = bb) g15 t' wx)
          case first =>
            as_aux_lemma =>
            have hlta := HO3.out.a.lt
            have hltb := HO3.out.b.lt
            have HS : Hid (∀ W, Below wy.heap.size wy W → (∀ o, W.cell? ⟨bb, o, none⟩ = (sval sb pb cb)[o]?) ∧ W.cell? ⟨g, off + d, none⟩ = some (.int .i64 y)) := Lib.hid (fun W hb => ⟨fun o => (hb.cell (p := ⟨bb, o, none⟩) hltb).trans (blk_cell hbkb o), (hb.cell (p := ⟨g, off + d, none⟩) hg2).trans hy⟩)
            have HP : Hid (∀ W, Below wy.heap.size wy W → Calls Try.prog 11 #[.agg (sval sb pb cb), .int .i64 y] W (GaveS W t' f')) := Lib.hid (fun W hb => add_is HSF.out pb cb W (hib.step hb) (by omega))
            have hbd : Below wy.heap.size wy wy.drew := (Below.refl _ _).drew
            have hba : Below wy.heap.size wy (wy.alloc (.cells zc 24)).drew := (balloc wy _).drew
            have HD := Lib.hid hbd
            have HA := Lib.hid hba
            obtain ⟨cd1, cd2⟩ := HS.out _ hbd
            clear hbd hba hbkb hib hy
            refine wp_region_noPanic ?_
            refine wp_region_held_drew (S := fun w' => (∀ o, w'.cell? ⟨bb, o, none⟩ = (sval sb pb cb)[o]?) ∧ w'.cell? ⟨g, off + d, none⟩ = some (.int .i64 y)) (by kernel_rfl) ⟨cd1, cd2⟩ (fun hh => ?_)
            refine wpAnyH_take (fuel := 20) (i := 0) (oi := ⟨some 64, _, _, _, _, _⟩) (v := .agg (sval sb pb cb)) rfl (by kernel_rfl) (by kernel_rfl) (by kernel_rfl) (fun _ _ _ h => h) (Or.inl ⟨by rfl, ?_⟩) hh ?_
            · rintro w' ⟨c0, c1⟩
              go_simp
            simp only [Act.put, List.setIfInBounds_toArray, List.set_cons_zero, List.set_cons_succ]
            refine wpAnyH_take (fuel := 19) (i := 1) (oi := ⟨some 65, _, _, _, _, _⟩) (v := .slice (some ⟨g, off, none⟩) l.length cap) rfl (by kernel_rfl) (by kernel_rfl) (by kernel_rfl) (fun _ _ _ h => h) (Or.inl ⟨by rfl, ?_⟩) hh ?_
            · intro w' _
              go_simp
            simp only [Act.put, List.setIfInBounds_toArray, List.set_cons_zero, List.set_cons_succ]
            refine wpAnyH_take (fuel := 18) (i := 2) (oi := ⟨some 66, _, _, _, _, _⟩) (v := .slice (some ⟨g, off, none⟩) l.length cap) rfl (by kernel_rfl) (by kernel_rfl) (by kernel_rfl) (fun _ _ _ h => h) (Or.inl ⟨by rfl, ?_⟩) hh ?_
            · intro w' _
              go_simp
            simp only [Act.put, List.setIfInBounds_toArray, List.set_cons_zero, List.set_cons_succ]
            refine wpAnyH_take (fuel := 17) (i := 3) (oi := ⟨some 67, _, _, _, _, _⟩) (v := .int .i64 l.length) rfl (by kernel_rfl) (by kernel_rfl) (by kernel_rfl) (fun _ _ _ h => h) (Or.inl ⟨by rfl, ?_⟩) hh ?_
            · intro w' _
              go_simp
            simp only [Act.put, List.setIfInBounds_toArray, List.set_cons_zero, List.set_cons_succ]
            refine wpAnyH_take (fuel := 16) (i := 4) (oi := ⟨some 68, _, _, _, _, _⟩) (v := .int .i64 n1) rfl (by kernel_rfl) (by kernel_rfl) (by kernel_rfl) (fun _ _ _ h => h) (Or.inl ⟨by rfl, ?_⟩) hh ?_
            · intro w' _
              go_simp
            simp only [Act.put, List.setIfInBounds_toArray, List.set_cons_zero, List.set_cons_succ]
            refine wpAnyH_take (fuel := 15) (i := 5) (oi := ⟨some 69, _, _, _, _, _⟩) (v := .int .i64 k) rfl (by kernel_rfl) (by kernel_rfl) (by kernel_rfl) (fun _ _ _ h => h) (Or.inl ⟨by rfl, ?_⟩) hh ?_
            · intro w' _
              go_simp
            simp only [Act.put, List.setIfInBounds_toArray, List.set_cons_zero, List.set_cons_succ]
            refine wpAnyH_take (fuel := 14) (i := 6) (oi := ⟨some 70, _, _, _, _, _⟩) (v := .int .i64 n2) rfl (by kernel_rfl) (by kernel_rfl) (by kernel_rfl) (fun _ _ _ h => h) (Or.inl ⟨by rfl, ?_⟩) hh ?_
            · intro w' _
              go_simp
            simp only [Act.put, List.setIfInBounds_toArray, List.set_cons_zero, List.set_cons_succ]
            refine wpAnyH_take (fuel := 13) (i := 7) (oi := ⟨some 71, _, _, _, _, _⟩) (v := .int .i64 b) rfl (by kernel_rfl) (by kernel_rfl) (by kernel_rfl) (fun _ _ _ h => h) (Or.inl ⟨by rfl, ?_⟩) hh ?_
            · intro w' _
              go_simp
            simp only [Act.put, List.setIfInBounds_toArray, List.set_cons_zero, List.set_cons_succ]
            refine wpAnyH_take (fuel := 12) (i := 8) (oi := ⟨some 72, _, _, _, _, _⟩) (v := .int .i64 n3) rfl (by kernel_rfl) (by kernel_rfl) (by kernel_rfl) (fun _ _ _ h => h) (Or.inl ⟨by rfl, ?_⟩) hh ?_
            · intro w' _
              go_simp
            simp only [Act.put, List.setIfInBounds_toArray, List.set_cons_zero, List.set_cons_succ]
            refine wpAnyH_take (fuel := 11) (i := 9) (oi := ⟨some 73, _, _, _, _, _⟩) (v := .slice (some ⟨g, off, none⟩) l.length cap) rfl (by kernel_rfl) (by kernel_rfl) (by kernel_rfl) (fun _ _ _ h => h) (Or.inl ⟨by rfl, ?_⟩) hh ?_
            · intro w' _
              go_simp
            simp only [Act.put, List.setIfInBounds_toArray, List.set_cons_zero, List.set_cons_succ]
            refine wpAnyH_take (fuel := 10) (i := 10) (oi := ⟨some 74, _, _, _, _, _⟩) (v := .int .i64 l.length) rfl (by kernel_rfl) (by kernel_rfl) (by kernel_rfl) (fun _ _ _ h => h) (Or.inl ⟨by rfl, ?_⟩) hh ?_
            · intro w' _
              go_simp
            simp only [Act.put, List.setIfInBounds_toArray, List.set_cons_zero, List.set_cons_succ]
            refine wpAnyH_take (fuel := 9) (i := 11) (oi := ⟨some 75, _, _, _, _, _⟩) (v := .int .i64 d) rfl (by kernel_rfl) (by kernel_rfl) (by kernel_rfl) (fun _ _ _ h => h) (Or.inl ⟨by rfl, ?_⟩) hh ?_
            · intro w' _
              go_simp
            simp only [Act.put, List.setIfInBounds_toArray, List.set_cons_zero, List.set_cons_succ]
            refine wpAnyH_take (fuel := 8) (i := 12) (oi := ⟨some 76, _, _, _, _, _⟩) (v := .pointer (some ⟨g, off + d, none⟩)) rfl (by kernel_rfl) (by kernel_rfl) (by kernel_rfl) (fun _ _ _ h => h) (Or.inl ⟨by rfl, ?_⟩) hh ?_
            · intro w' _
              go_simp
            simp only [Act.put, List.setIfInBounds_toArray, List.set_cons_zero, List.set_cons_succ]
            refine wpAnyH_take (fuel := 7) (i := 13) (oi := ⟨some 77, _, _, _, _, _⟩) (v := .int .i64 y) rfl (by kernel_rfl) (by kernel_rfl) (by kernel_rfl) (fun _ _ _ h => h) (Or.inl ⟨by rfl, ?_⟩) hh ?_
            · rintro w' ⟨c0, c1⟩
              go_simp
            simp only [Act.put, List.setIfInBounds_toArray, List.set_cons_zero, List.set_cons_succ]
            refine wpAnyH_ready (fuel := 6) (rs := [14, 18]) (by kernel_rfl) (by simp) ?_
            refine AllReadyH.cons (o := ⟨some 78, _, _, _, _, _⟩) rfl (fun K hK => ?_) (AllReadyH.cons (o := ⟨some 15, _, _, _, _, _⟩) rfl (fun K hK => ?_) AllReadyH.nil)
            · go_simp
              refine (HP.out _ HD.out).mono ?_
              rintro e w4 ⟨v4, rfl, p4, c4, rfl, hi4, hb4, hf4⟩
              have HB4 := Lib.hid (bstep HD.out hb4)
              have HI4 := Lib.hid hi4
              have HF4 := Lib.hid hf4
              show K _ _
              refine hK.out _ _ (HS.out _ HB4.out) (fun hh2 => ?_)
              clear hK K hh hb4 hi4 hf4
              refine wpAnyH_take (fuel := 5) (i := 15) (oi := ⟨some 63, _, _, _, _, _⟩) (v := .tuple #[.agg (sval t' p4 c4), .int .i64 f']) rfl (by kernel_rfl) (by kernel_rfl) (by kernel_rfl) (fun _ _ _ h => h) (Or.inl ⟨by rfl, ?_⟩) hh2 ?_
              · intro w' _
                go_simp
              simp only [Act.put, List.setIfInBounds_toArray, List.set_cons_zero, List.set_cons_succ]
              refine wpAnyH_take (fuel := 4) (i := 16) (oi := ⟨some 79, _, _, _, _, _⟩) (v := .agg (sval t' p4 c4)) rfl (by kernel_rfl) (by kernel_rfl) (by kernel_rfl) (fun _ _ _ h => h) (Or.inl ⟨by rfl, ?_⟩) hh2 ?_
              · intro w' _
                go_simp
              simp only [Act.put, List.setIfInBounds_toArray, List.set_cons_zero, List.set_cons_succ]
              refine wpAnyH_take (fuel := 3) (i := 17) (oi := ⟨some 80, _, _, _, _, _⟩) (v := .int .i64 f') rfl (by kernel_rfl) (by kernel_rfl) (by kernel_rfl) (fun _ _ _ h => h) (Or.inl ⟨by rfl, ?_⟩) hh2 ?_
              · intro w' _
                go_simp
              simp only [Act.put, List.setIfInBounds_toArray, List.set_cons_zero, List.set_cons_succ]
              refine wpAnyH_ready (fuel := 2) (rs := [18]) (by kernel_rfl) (by simp) ?_
              refine AllReadyH.cons (o := ⟨some 15, _, _, _, _, _⟩) rfl (fun K hK => ?_) AllReadyH.nil
              go_simp
              have hb5 := balloc w4 (.cells zc 24)
              have HB5 := Lib.hid (bstep HB4.out hb5)
              have hs4 := HB4.out.size
              show K _ _
              refine hK.out _ _ (HS.out _ HB5.out) (fun hh3 => ?_)
              clear hK K hh2
              refine wpAnyH_ready (fuel := 1) (rs := [19]) (by kernel_rfl) (by simp) ?_
              refine AllReadyH.cons (o := ⟨none, _, _, _, _, _⟩) rfl (fun K hK => ?_) AllReadyH.nil
              rw [if_pos (by rfl)]
              refine wp_store_row 24 (.tmp 15) (.tmp 79) rfl w4.heap.size (sval t' p4 c4) rfl rfl 24 zc (heap_alloc_new w4 _) (by kernel_rfl) rfl (by kernel_rfl) ?_
              have HB6 := Lib.hid (below_setRow HB5.out hs4 (sval t' p4 c4))
              refine hK.out _ _ (HS.out _ HB6.out) (fun hh4 => ?_)
              clear hK K
              simp only [Act.put]
              refine wpAnyH_take (fuel := 0) (i := 20) (oi := ⟨some 16, _, _, _, _, _⟩) (v := .int .i64 f') rfl (by kernel_rfl) (by kernel_rfl) (by kernel_rfl) (fun _ _ _ h => h) (Or.inl ⟨by rfl, ?_⟩) hh4 ?_
              · intro w' _
                go_simp
              simp only [Act.put, List.setIfInBounds_toArray, List.set_cons_zero, List.set_cons_succ]
              refine wpAnyH_done (by kernel_rfl) ?_ _
              refine NoPanic.normal ?_
              clear hh3 hh4
              go_wp2_with fail
              go_meet
              case rel => exact ⟨rfl, rfl, _, rfl, rfl, HO3.out.step HB6.out, p4, c4, (setRow_heap _ w4.heap.size _ (sval t' p4 c4) 24 (0, 0) (heap_alloc_new w4 (.cells zc 24))), (HI4.out.newRow _ _), fun _ a ha hG => by have hq := HF4.out a ha; simp at hq; simp only at hG; omega⟩
            · go_simp
              show K _ _
              refine hK.out _ _ (HS.out _ HA.out) (fun hh2 => ?_)
              clear hK K hh
              refine wpAnyH_ready (fuel := 5) (rs := [14]) (by kernel_rfl) (by simp) ?_
              refine AllReadyH.cons (o := ⟨some 78, _, _, _, _, _⟩) rfl (fun K hK => ?_) AllReadyH.nil
              go_simp
              refine (HP.out _ HA.out).mono ?_
              rintro e w4 ⟨v4, rfl, p4, c4, rfl, hi4, hb4, hf4⟩
              have HB4 := Lib.hid (bstep HA.out hb4)
              have HI4 := Lib.hid hi4
              have HF4 := Lib.hid hf4
              have HZ := Lib.hid ((hb4.block wy.heap.size (by simp)).trans (heap_alloc_new wy (.cells zc 24)))
              show K _ _
              refine hK.out _ _ (HS.out _ HB4.out) (fun hh3 => ?_)
              clear hK K hh2 hb4 hi4 hf4
              refine wpAnyH_take (fuel := 4) (i := 15) (oi := ⟨some 63, _, _, _, _, _⟩) (v := .tuple #[.agg (sval t' p4 c4), .int .i64 f']) rfl (by kernel_rfl) (by kernel_rfl) (by kernel_rfl) (fun _ _ _ h => h) (Or.inl ⟨by rfl, ?_⟩) hh3 ?_
              · intro w' _
                go_simp
              simp only [Act.put, List.setIfInBounds_toArray, List.set_cons_zero, List.set_cons_succ]
              refine wpAnyH_take (fuel := 3) (i := 16) (oi := ⟨some 79, _, _, _, _, _⟩) (v := .agg (sval t' p4 c4)) rfl (by kernel_rfl) (by kernel_rfl) (by kernel_rfl) (fun _ _ _ h => h) (Or.inl ⟨by rfl, ?_⟩) hh3 ?_
              · intro w' _
                go_simp
              simp only [Act.put, List.setIfInBounds_toArray, List.set_cons_zero, List.set_cons_succ]
              refine wpAnyH_take (fuel := 2) (i := 17) (oi := ⟨some 80, _, _, _, _, _⟩) (v := .int .i64 f') rfl (by kernel_rfl) (by kernel_rfl) (by kernel_rfl) (fun _ _ _ h => h) (Or.inl ⟨by rfl, ?_⟩) hh3 ?_
              · intro w' _
                go_simp
              simp only [Act.put, List.setIfInBounds_toArray, List.set_cons_zero, List.set_cons_succ]
              refine wpAnyH_ready (fuel := 1) (rs := [19]) (by kernel_rfl) (by simp) ?_
              refine AllReadyH.cons (o := ⟨none, _, _, _, _, _⟩) rfl (fun K hK => ?_) AllReadyH.nil
              rw [if_pos (by rfl)]
              refine wp_store_row 24 (.tmp 15) (.tmp 79) rfl wy.heap.size (sval t' p4 c4) rfl rfl 24 zc HZ.out (by kernel_rfl) rfl (by kernel_rfl) ?_
              have HB6 := Lib.hid (below_setRow HB4.out (Nat.le_refl _) (sval t' p4 c4))
              refine hK.out _ _ (HS.out _ HB6.out) (fun hh4 => ?_)
              clear hK K
              simp only [Act.put]
              refine wpAnyH_take (fuel := 0) (i := 20) (oi := ⟨some 16, _, _, _, _, _⟩) (v := .int .i64 f') rfl (by kernel_rfl) (by kernel_rfl) (by kernel_rfl) (fun _ _ _ h => h) (Or.inl ⟨by rfl, ?_⟩) hh4 ?_
              · intro w' _
                go_simp
              simp only [Act.put, List.setIfInBounds_toArray, List.set_cons_zero, List.set_cons_succ]
              refine wpAnyH_done (by kernel_rfl) ?_ _
              refine NoPanic.normal ?_
              clear hh3 hh4
              go_wp2_with fail
              go_meet
              case rel => exact ⟨rfl, rfl, _, rfl, rfl, HO3.out.step HB6.out, p4, c4, (setRow_heap _ wy.heap.size _ (sval t' p4 c4) 24 (0, 0) HZ.out), (HI4.out.row wy.heap.size (fun a ha => by have := HF4.out a ha; simp at this; omega) _), fun _ a ha hG => by have hq := HF4.out a ha; simp at hq; simp only at hG; omega⟩
          case rest =>
            as_aux_lemma =>
            clear hbkb hib hy hg2
            obtain ⟨rfl, rfl, g15, rfl, rfl, ho4, hb15⟩ := hcut
            have HO4 := Lib.hid ho4
            obtain ⟨pt2, ct2, hbkt2, hit2, hft2⟩ := hb15
            have hct2 : ∀ o, wc.cell? ⟨g15, o, none⟩ = (sval t' pt2 ct2)[o]? := fun o => blk_cell hbkt2 o
            have HT2 := Lib.hid (And.intro hit2 hft2)
            clear hit2 hft2 hbkt2 ho4
            rcases Bool.eq_false_or_eq_true (hasB c y) with hyc | hyc
            · have he := HSF.out.symm.trans (HBY.out.trans (if_pos hyc))
              simp only [Prod.mk.injEq] at he
              obtain ⟨he1, rfl⟩ := he
              obtain ⟨qb, cqb, hbk4, -⟩ := HO4.out.b
              have HBK4 := Lib.hid hbk4
              have HO5 : Hid (OSt w ba bb (stL c m (l.take (k + 1))) (stL c m (turned l b (k + 1))) (wc.setRow bb (sval t' pt2 ct2))) := Lib.hid (by
                have := HO4.out.setB (p := pt2) (cap := ct2) HT2.out.1 HT2.out.2
                rw [he1, ← HTB.out] at this
                rw [he1, ← HTB.out]
                exact this)
              clear hyc he1 hbk4 HBY HTB HSF
              go_wp2_with ((with_reducible refine wpList_store_row (o := ⟨none, _, _, _, _, _⟩) rfl 24 (.tmp 11) (.tmp 83) rfl bb (sval t' pt2 ct2) ?sx ?sy 24 (sval sb qb cqb) ?sg ?si ?so ?s1 ?_); (case sx => rfl); (case sy => rfl); (case sg => exact HBK4.out); (case si => kernel_rfl); (case so => rfl); (case s1 => kernel_rfl))
              go_roundw
              case rel => exact ⟨k + 1, by omega, by go_num, HO5.out⟩
              case measure => simp [intOf]; omega
            · have he := HSF.out.symm.trans (HBY.out.trans (if_neg (by rw [hyc]; simp)))
              simp only [Prod.mk.injEq] at he
              obtain ⟨-, rfl⟩ := he
              have HO5 : Hid (OSt w ba bb (stL c m (l.take (k + 1))) (stL c m (turned l b (k + 1))) wc) := Lib.hid (by
                rw [HTB.out, stL_no hyc, HSB.out]
                exact HO4.out)
              clear hyc HBY HTB HSF
              go_wp2_with fail
              go_roundw
              case rel => exact ⟨k + 1, by omega, by go_num, HO5.out⟩
              case measure => simp [intOf]; omega
    · as_aux_lemma =>
      have hkl : k = l.length := by omega
      subst hkl
      have hla : l.take l.length = l := List.take_length
      rw [hla] at HO
      have hsb : stL c m (turned l b l.length) = stL c m l := stL_same (turned_mem l b)
      rw [hsb] at HO
      have hsc : stL c m (l ++ l) = stL c m l := stL_same fun y => by simp
      have HSC := Lib.hid hsc
      obtain ⟨pa, ca, hbka, hia, -⟩ := HO.out.a
      have hcta : ∀ o, wr.cell? ⟨ba, o, none⟩ = (sval (stL c m l) pa ca)[o]? := fun o => blk_cell hbka o
      have hO3 := HO.out.third (cap := ca) hia
      have h00 : l ++ l.take 0 = l := by simp
      have hls := stL_len c m l
      have hst : ∀ k, k < l.length → ∃ s' e', addS (stL c m (l ++ l.take k)) (l.getD k 0) = (s', e') ∧ (hasB c (l.getD k 0) = true → s' = stL c m (l ++ l.take (k + 1)) ∧ e' = 0) ∧ (hasB c (l.getD k 0) = false → stL c m (l ++ l.take (k + 1)) = stL c m (l ++ l.take k) ∧ e' = 5) := fun k hk => by
        rcases Bool.eq_false_or_eq_true (hasB c (l.getD k 0)) with hc | hc
        · exact ⟨_, _, addL_yes h1 h2 h3 h4 hc, fun _ => ⟨by rw [take_snoc l k hk, List.append_assoc], rfl⟩, fun e => by rw [hc] at e; cases e⟩
        · exact ⟨_, _, addL_no h1 h2 h3 h4 hc, (fun e => by rw [hc] at e; cases e), fun _ => ⟨by rw [take_snoc l k hk, ← List.append_assoc]; exact stL_no hc, rfl⟩⟩
      have HST := Lib.hid hst
      generalize hsl : stL c m l = sl at *
      have HSL := Lib.hid hsl
      have H3 := Lib.hid hO3
      clear hbka hia hO3 hsb hsc hst hsl
      go_wp2_with fail
      clear hcta HO HIN
      generalize wr.heap.size = bc at H3 ⊢
      generalize World.alloc _ _ = wq at H3 ⊢
      go_loopw [88] (fun i wr => CRel w ba bb bc c m l sl sl i wr) (fun i _ => l.length - (intOf i).toNat)
      case atStart => exact ⟨0, Nat.zero_le _, rfl, by rw [h00, HSL.out]; exact H3.out⟩
      case round =>
        obtain ⟨k, hk, rfl, h3⟩ := hrel
        have H3' := Lib.hid h3
        have HIN := Lib.hid (HI.out.step h3.below)
        clear h3 H3 h00
        by_cases hlt : k < l.length
        · obtain ⟨g, off, rfl, hg, hx⟩ := HIN.out k hlt
          obtain ⟨s', e', hse, hy, hn⟩ := HST.out k hlt
          obtain ⟨pc, cc, hbkc, hic, -⟩ := H3'.out.c
          have hctc : ∀ o, wr.cell? ⟨bc, o, none⟩ = (sval (stL c m (l ++ l.take k)) pc cc)[o]? := fun o => blk_cell hbkc o
          have hlc := stL_len c m (l ++ l.take k)
          generalize l.getD k 0 = x at hx hse hy hn
          generalize hsk : stL c m (l ++ l.take k) = sk at *
          have HSE := Lib.hid hse
          have HSK := Lib.hid hsk
          clear hse hsk
          rcases Bool.eq_false_or_eq_true (hasB c x) with hxc | hxc
          · obtain ⟨hs', rfl⟩ := hy hxc
            have HS' := Lib.hid hs'
            clear hs' hy hn hxc
            go_wp2_with fail
            refine (add_is HSE.out pc cc _ hic (by omega)).mono ?_
            rintro e w4 ⟨v, rfl, p4, c4, rfl, hi4, hb4, hf4⟩
            have hbA := balloc w4 (.cells #[.int .i64 s'.c, .int .i64 s'.m, .slice p4 s'.l.length c4, .bool s'.al] 24)
            have hltc := H3'.out.c.lt
            have hbk4 := (hbA.block bc (Nat.lt_of_lt_of_le hltc hb4.size)).trans ((hb4.block bc hltc).trans hbkc)
            have h5 := ((H3'.out.step hb4).step hbA).setC (s' := s') (p := p4) (cap := c4) (hi4.step hbA) (fun _ a ha e => by have := hf4 a ha; omega)
            have HBK4 := Lib.hid hbk4
            have H5 := Lib.hid h5
            clear hb4 hbA hbk4 h5 hi4 hf4 hctc hbkc hic
            go_wp2_with ((with_reducible refine wpList_store_row (o := ⟨none, _, _, _, _, _⟩) rfl 24 (.tmp 17) (.tmp 100) rfl bc (sval s' p4 c4) ?sx ?sy 24 (sval sk pc cc) ?sg ?si ?so ?s1 ?_); (case sx => rfl); (case sy => rfl); (case sg => exact HBK4.out); (case si => kernel_rfl); (case so => rfl); (case s1 => kernel_rfl))
            go_roundw
            case rel => exact ⟨k + 1, by omega, by go_num, by rw [← HS'.out]; exact H5.out⟩
            case measure => simp [intOf]; omega
          · obtain ⟨hs', rfl⟩ := hn hxc
            have HS' := Lib.hid hs'
            clear hs' hy hn hxc
            go_wp2_with fail
            refine (add_is HSE.out pc cc _ hic (by omega)).mono ?_
            rintro e w4 ⟨v, rfl, p4, c4, rfl, -, hb4, -⟩
            have hbA := balloc w4 (.cells #[.int .i64 s'.c, .int .i64 s'.m, .slice p4 s'.l.length c4, .bool s'.al] 24)
            have H5 := Lib.hid ((H3'.out.step hb4).step hbA)
            clear hb4 hbA hctc hbkc hic
            go_wp2_with fail
            go_roundw
            case rel => exact ⟨k + 1, by omega, by go_num, by rw [HS'.out]; exact H5.out⟩
            case measure => simp [intOf]; omega
        · have hkl : k = l.length := by omega
          subst hkl
          rw [hla, HSC.out] at H3'
          obtain ⟨pa, ca, hbka, hia, -⟩ := H3'.out.a
          obtain ⟨pb, cb, hbkb, hib, -⟩ := H3'.out.b
          obtain ⟨pc, cc, hbkc, hic, -⟩ := H3'.out.c
          have hcta : ∀ o, wr.cell? ⟨ba, o, none⟩ = (sval sl pa ca)[o]? := fun o => blk_cell hbka o
          have hctb : ∀ o, wr.cell? ⟨bb, o, none⟩ = (sval sl pb cb)[o]? := fun o => blk_cell hbkb o
          go_wp2_with fail
          refine (refSame_yes sl pa pb ca cb _ (by omega) hia hib).mono ?_
          rintro e w5 ⟨rfl, hb5⟩
          have H5 := Lib.hid (H3'.out.step hb5)
          have hia5 := hia.step hb5
          have hic5 := hic.step hb5
          have hcta5 : ∀ o, w5.cell? ⟨ba, o, none⟩ = (sval sl pa ca)[o]? := fun o => (hb5.cell (p := ⟨ba, o, none⟩) (lt_of_block hbka)).trans (hcta o)
          have hctc5 : ∀ o, w5.cell? ⟨bc, o, none⟩ = (sval sl pc cc)[o]? := fun o => (hb5.cell (p := ⟨bc, o, none⟩) (lt_of_block hbkc)).trans (blk_cell hbkc o)
          clear hcta hctb hbka hbkb hbkc hia hib hic hb5
          go_wp2_with fail
          refine (refSame_yes sl pa pc ca cc _ (by omega) hia5 hic5).mono ?_
          rintro e w6 ⟨rfl, hb6⟩
          go_wp2_with fail
          go_ret
          exact ⟨rfl, bstep H5.out.below hb6⟩

theorem sharerOrder_any (cores ptrs : Int) (p : Option Addr) (cap : Nat) (l : List Int) (by_ : Int) (w : World) (hin : NumsIn w p l) (hm : l.length ≤ 9223372036854775807) (hr : -9223372036854775808 ≤ by_ ∧ by_ ≤ 9223372036854775807) :
    Calls Try.prog 6 #[.int .i64 cores, .int .i64 ptrs, .slice p l.length cap, .int .i64 by_] w (Holds w) := by
  by_cases h : l.length ≤ 100 ∧ 0 ≤ by_ ∧ by_ ≤ l.length
  · obtain ⟨hl, h0, hb⟩ := h
    rcases Bool.eq_false_or_eq_true (mayB cores ptrs [] false) with h | h
    · obtain ⟨h1, h2, h3, h4⟩ := may_new.1 h
      obtain ⟨c, rfl⟩ : ∃ c : Nat, cores = c := ⟨cores.toNat, by omega⟩
      obtain ⟨b, rfl⟩ : ∃ b : Nat, by_ = b := ⟨by_.toNat, by omega⟩
      exact order_fine c ptrs p cap l b w hin hl (by omega) (by omega) (by omega) h3 h4
    · exact order_bad cores ptrs p cap l by_ w hl h0 hb (by unfold newS; rw [if_neg (by rw [h]; simp)]; rfl)
  · exact order_long cores ptrs p cap l by_ w hm (by omega)

end Go.Proofs.Ytlkeecghofldeaa
