/-
  What the document's own answers of layer 3 are, one contract each: Parse, Same.
-/
import Derived.Test.YtobpeaigapnpdaaDoorPgU
import Derived.Deep.RegionLaw
namespace Go.Proofs.YtobpeaigapnpdaaDoor
open Go Go.RowKit
attribute [local go_sem ↓] Go.wp_at_zero Go.wp_at_succ

/-- What holds at each round's head. -/
def ParRel (w : World) (s : ByteArray) (t f i : Value) (wr : World) : Prop :=
  ∃ (a k : Nat) (l : List Op), f = .int .i64 a ∧ i = .int .i64 k ∧ a ≤ k ∧ k ≤ s.size + 1 ∧ l.length ≤ k ∧ wr.ownsRow w.heap.size 33 3 t l.length (opCells l) ∧ Below w.heap.size w wr ∧
    ((k ≤ s.size ∧ Cut s.data.toList l a ∧ Plain s.data.toList a k) ∨ (k = s.size + 1 ∧ readM s.data.toList = some l))

theorem plain_more {s : ByteArray} {a k : Nat} (h : Plain s.data.toList a k) (hk : k < s.size) (hc : ((s[k].toNat : Int) != 32) = true) : Plain s.data.toList a (k + 1) := fun j h1 h2 => by
  by_cases e : j = k
  · subst e
    rw [getD_byte s j hk]
    intro e'
    rw [e'] at hc
    exact absurd hc (by decide)
  · exact h j h1 (by omega)
theorem blank_at {s : ByteArray} {k : Nat} (hk : k < s.size) (hc : ((s[k].toNat : Int) != 32) = false) : s.data.toList.getD k 0 = 32 := by
  rw [getD_byte s k hk]
  have : s[k].toNat = 32 := by simp at hc; omega
  exact u8_ext this
theorem word_data (s : ByteArray) (a k : Nat) : (s.extract a k).data.toList = (s.data.toList.take k).drop a := by
  simp [List.drop_take]
theorem word_size (s : ByteArray) (a k : Nat) (h : a ≤ k) (hk : k ≤ s.size) : (s.extract a k).size = k - a := by
  simp; omega

theorem box_step {w w' : World} {H : Nat} {x : Op} (h : Box w H x) (hb : Below w.heap.size w w') : Box w' H x := (hb.block H h.lt).trans h
theorem bboxd {w w1 : World} {o : Obj} (h : Below (w.alloc o).drew.heap.size (w.alloc o).drew w1) : Below w.heap.size w w1 := (((Below.refl _ _).alloc (Nat.le_refl _) _).drew).trans (h.mono (by show w.heap.size ≤ (w.alloc o).heap.size; simp))
theorem prs_none {s : ByteArray} (hs : s.size ≤ 4000) (h : readM s.data.toList = none) : prs s.data.toList = ([], 2) := by
  unfold prs
  rw [if_neg (by rw [size_list]; omega), h]

set_option maxRecDepth 100000 in
set_option maxHeartbeats 8000000 in
theorem refParse_word (s : ByteArray) (w : World) (hs : s.size ≤ 4000) (h0 : 0 < s.size) :
    Calls Tryd.prog 9 #[.string s] w (RetE w (prs s.data.toList).1 (prs s.data.toList).2) := by
  obtain ⟨i0, hi0, hz0, hz1, hz2⟩ := info_parts Tryd.infoOp
  have hemp := some_text h0
  go_enter Tryd.func9, Tryd.ntmps9
  go_wp2
  go_loopw [4, 5, 6] (fun t f i wr => ParRel w s t f i wr) (fun _ _ i _ => s.size + 1 - (intOf i).toNat)
  case atStart =>
    refine ⟨0, 0, [], rfl, rfl, Nat.le_refl _, by omega, Nat.le_refl _, ?_, (Below.refl _ _).alloc (Nat.le_refl _) _, .inl ⟨by omega, cut0 _, fun j h1 h2 => by omega⟩⟩
    have := World.ownsRow_made (base := w.heap.size) (e := 33) (size := 3) w #[] 0 (by simp) (by decide) (by simp)
    simpa [opCells] using this
  case round =>
    obtain ⟨a, k, l, rfl, rfl, hak, hk, hl, hown, hb, hcase⟩ := hrel
    rcases hcase with ⟨hk2, hcut, hpl⟩ | ⟨rfl, hr⟩
    · have HC := Lib.hid hcut
      have HP := Lib.hid hpl
      have HO := Lib.hid hown
      clear hcut hpl hown
      by_cases hword : k < s.size
      · rcases Bool.eq_false_or_eq_true ((s[k].toNat : Int) != 32) with hc | hc
        · have HP2 := Lib.hid (plain_more HP.out hword hc)
          go_wp2
          go_roundw
          case rel => exact ⟨a, k + 1, l, rfl, by go_num, by omega, by omega, by omega, HO.out, hb, .inl ⟨by omega, HC.out, HP2.out⟩⟩
          case measure => simp [intOf]; omega
        · have hsz := word_size s a k hak hk2
          obtain ⟨x, hx⟩ : ∃ x, x = guessOp ((s.data.toList.take k).drop a) := ⟨_, rfl⟩
          have HG : Hid (∀ w, Calls Tryd.prog 18 #[.string (s.extract a k)] w fun e w' => e = .returned (ov x) ∧ Below w.heap.size w w') := Lib.hid (fun w => by
            have := guess_any (s.extract a k) w (by omega)
            rwa [word_data, ← hx] at this)
          have HX := Lib.hid hx
          clear hx
          have HN : Hid (¬ (mayB x = true ∧ txt x = (s.data.toList.take k).drop a) → prs s.data.toList = ([], 2)) := Lib.hid (fun h => prs_none hs (cut_none HC.out HP.out hak (list_ne h0) (.inr ⟨hword, blank_at hword hc⟩) (by rw [← HX.out]; exact h)))
          have HY : Hid (mayB x = true → txt x = (s.data.toList.take k).drop a → (k + 1 ≤ s.size ∧ Cut s.data.toList (l ++ [x]) (k + 1) ∧ Plain s.data.toList (k + 1) (k + 1)) ∨ (k + 1 = s.size + 1 ∧ readM s.data.toList = some (l ++ [x]))) := Lib.hid (fun h1 h2 => .inl ⟨by omega, cut_blank HC.out HP.out hak hword (blank_at hword hc) h1 h2, fun j h1 h2 => by omega⟩)
          clear HC HP HX
          go_wp2_with (go_at_call 18; refine (HG.out _).mono ?_; rintro e w1 ⟨rfl, hb1⟩; refine Hid.out ?_)
          refine Lib.hid ?_
          go_wp2
          have B1 := Lib.hid (Box.new w1 x)
          have d0 := B1.out.c0
          have d1 := B1.out.c1
          have d2 := B1.out.c2
          rcases Bool.eq_false_or_eq_true (mayB x) with hm | hm
          · have HM := Lib.hid hm
            clear hm
            go_region_held3 (fun w' => w'.cell? ⟨w1.heap.size, 0, none⟩ = some (.int .i64 x.k) ∧ w'.cell? ⟨w1.heap.size, 1, none⟩ = some (.int .i64 x.a) ∧ w'.cell? ⟨w1.heap.size, 2, none⟩ = some (.int .i64 x.v))
              (first | exact ⟨B3.out.c0, B3.out.c1, B3.out.c2⟩ | exact ⟨B2.out.c0, B2.out.c1, B2.out.c2⟩ | go_keep)
              (first
                | (go_at_call 14; refine (refMay_any x _).mono ?_; rintro e w2 ⟨rfl, hb2⟩; have B2 := Lib.hid (box_step B1.out.drew hb2); rw [HM.out])
                | (go_at_call 19; refine (refText_any x _ HM.out).mono ?_; rintro e w3 ⟨rfl, hb3⟩; have B3 := Lib.hid (box_step B2.out hb3)))
            have hbt : Below wr.heap.size wr w3 := bstep (bstep hb1 (bboxd hb2)) hb3
            have e0 := B3.out.c0
            have e1 := B3.out.c1
            have e2 := B3.out.c2
            clear hb1 hb2 hb3 d0 d1 d2 B1 B2 HG
            have HO3 := Lib.hid (own_below HO.out hbt)
            have hz3 : w.heap.size ≤ w3.heap.size := Nat.le_trans hb.size hbt.size
            go_wp2_with (at_builtin; refine wpList_append_own _ rfl _ _ 23 rfl w.heap.size 33 i0 _ 3 24 Tryd.underlying23 hi0 hz0 hz1 hz2 rfl (by decide) _ _ _ rfl (HO3.out.alloc _) ⟨w3.heap.size, 0, none⟩ 1 1 [.int .i64 x.k, .int .i64 x.a, .int .i64 x.v] rfl rfl (World.news_of_block (cs := #[.int .i64 x.k, .int .i64 x.a, .int .i64 x.v]) (t := 33) (fr := (0, 0)) (heap_alloc_new w3 _)) (by simp [Value.oneCell']) (by unfold maxLen; omega) (by omega) (by simp; omega) ?_)
            · have ht : (!(txt x == (s.extract a k).toList)) = true := by assumption
              have HT := Lib.hid (HN.out (fun h => by
                rw [h.2, ByteArray.toList_eq, word_data] at ht
                simp at ht))
              go_ret2
              exact ⟨_, by rw [HT.out]; rfl, by rw [HT.out]; exact OpsAt.nil_ _, bstep hb hbt⟩
            · have ht : (!(txt x == (s.extract a k).toList)) = false := by assumption
              have HT : Hid (txt x = (s.data.toList.take k).drop a) := Lib.hid (by rw [ByteArray.toList_eq, word_data] at ht; simpa using ht)
              clear ht
              intro v4 w4 hown4 hg4 _
              have hown5 : Hid (w4.ownsRow w.heap.size 33 3 v4 (l ++ [x]).length (opCells (l ++ [x]))) := Lib.hid (by rw [opCells_snoc, List.length_append]; exact hown4)
              have hb4 : Below w.heap.size w w4 := ((bstep hb hbt).alloc hz3 _).grown hg4 (by simp; omega) (fun j hj => (HO3.out.lt j hj).1)
              clear hown4 hg4 hbt e0 e1 e2
              go_wp2
              go_roundw
              case rel => exact ⟨k + 1, k + 1, l ++ [x], by go_num, by go_num, by omega, by omega, by simp; omega, hown5.out, hb4, HY.out HM.out HT.out⟩
              case measure => simp [intOf]; omega
          · have HM := Lib.hid hm
            have HT := Lib.hid (HN.out (fun h => by rw [hm] at h; exact absurd h.1 (by decide)))
            clear hm
            refine wp_region_noPanic ?_
            refine wp_region_held_drew (S := fun w' => w'.cell? ⟨w1.heap.size, 0, none⟩ = some (.int .i64 x.k) ∧ w'.cell? ⟨w1.heap.size, 1, none⟩ = some (.int .i64 x.a) ∧ w'.cell? ⟨w1.heap.size, 2, none⟩ = some (.int .i64 x.v)) (by kernel_rfl) ⟨d0, d1, d2⟩ (fun hh => ?_)
            refine wpAnyH_take (fuel := 11) (i := 0) (oi := ⟨some 37, _, _, _, _, _⟩) (v := ov x) rfl (by kernel_rfl) (by kernel_rfl) (by kernel_rfl) (fun _ _ _ h => h) (Or.inl ⟨by rfl, ?_⟩) hh ?_
            · rintro w' ⟨c0, c1, c2⟩
              go_simp
            simp only [Act.put, List.setIfInBounds_toArray]
            refine wpAnyH_ready (fuel := 10) (rs := [1]) (by kernel_rfl) (by simp) ?_
            refine AllReadyH.cons (o := ⟨some 38, _, _, _, _, _⟩) rfl (fun K hK => ?_) AllReadyH.nil
            go_simp
            refine (refMay_any x _).mono ?_
            rintro e w2 ⟨rfl, hb2⟩
            rw [HM.out]
            have B2 := box_step B1.out.drew hb2
            show K _ _
            refine hK.out _ _ ⟨B2.c0, B2.c1, B2.c2⟩ (fun hh2 => ?_)
            clear hK K hh
            refine wpAnyH_take (fuel := 9) (i := 2) (oi := ⟨some 39, _, _, _, _, _⟩) (v := .bool true) rfl (by kernel_rfl) (by kernel_rfl) (by kernel_rfl) (fun _ _ _ h => h) (Or.inl ⟨by rfl, ?_⟩) hh2 ?_
            · intro w' _
              go_simp
            simp only [Act.put, List.setIfInBounds_toArray]
            refine wpAnyH_take (fuel := 8) (i := 3) (oi := ⟨some 40, _, _, _, _, _⟩) (v := .bool true) rfl (by kernel_rfl) (by kernel_rfl) (by kernel_rfl) (fun _ _ _ h => h) (Or.inl ⟨by rfl, ?_⟩) hh2 ?_
            · intro w' _
              go_simp
            simp only [Act.put, List.setIfInBounds_toArray]
            refine wpAnyH_take (fuel := 7) (i := 4) (oi := ⟨some 41, _, _, _, _, _⟩) (v := undef) rfl (by kernel_rfl) (by kernel_rfl) (by kernel_rfl) (fun _ _ _ h => h) (Or.inr ⟨by rfl, rfl⟩) hh2 ?_
            simp only [Act.put, List.setIfInBounds_toArray]
            refine wpAnyH_take (fuel := 6) (i := 5) (oi := ⟨some 42, _, _, _, _, _⟩) (v := undef) rfl (by kernel_rfl) (by kernel_rfl) (by kernel_rfl) (fun _ _ _ h => h) (Or.inr ⟨by rfl, rfl⟩) hh2 ?_
            simp only [Act.put, List.setIfInBounds_toArray]
            refine wpAnyH_take (fuel := 5) (i := 6) (oi := ⟨some 43, _, _, _, _, _⟩) (v := undef) rfl (by kernel_rfl) (by kernel_rfl) (by kernel_rfl) (fun _ _ _ h => h) (Or.inr ⟨by rfl, rfl⟩) hh2 ?_
            simp only [Act.put, List.setIfInBounds_toArray]
            refine wpAnyH_take (fuel := 4) (i := 7) (oi := ⟨some 44, _, _, _, _, _⟩) (v := undef) rfl (by kernel_rfl) (by kernel_rfl) (by kernel_rfl) (fun _ _ _ h => h) (Or.inr ⟨by rfl, rfl⟩) hh2 ?_
            simp only [Act.put, List.setIfInBounds_toArray]
            refine wpAnyH_take (fuel := 3) (i := 8) (oi := ⟨some 45, _, _, _, _, _⟩) (v := undef) rfl (by kernel_rfl) (by kernel_rfl) (by kernel_rfl) (fun _ _ _ h => h) (Or.inr ⟨by rfl, rfl⟩) hh2 ?_
            simp only [Act.put, List.setIfInBounds_toArray]
            refine wpAnyH_take (fuel := 2) (i := 9) (oi := ⟨some 46, _, _, _, _, _⟩) (v := undef) rfl (by kernel_rfl) (by kernel_rfl) (by kernel_rfl) (fun _ _ _ h => h) (Or.inr ⟨by rfl, rfl⟩) hh2 ?_
            simp only [Act.put, List.setIfInBounds_toArray]
            refine wpAnyH_take (fuel := 1) (i := 10) (oi := ⟨some 47, _, _, _, _, _⟩) (v := undef) rfl (by kernel_rfl) (by kernel_rfl) (by kernel_rfl) (fun _ _ _ h => h) (Or.inr ⟨by rfl, rfl⟩) hh2 ?_
            simp only [Act.put, List.setIfInBounds_toArray]
            refine wpAnyH_take (fuel := 0) (i := 11) (oi := ⟨some 48, _, _, _, _, _⟩) (v := .bool true) rfl (by kernel_rfl) (by kernel_rfl) (by kernel_rfl) (fun _ _ _ h => h) (Or.inl ⟨by rfl, ?_⟩) hh2 ?_
            · intro w' _
              go_simp
            simp only [Act.put, List.setIfInBounds_toArray]
            refine wpAnyH_done (by kernel_rfl) ?_ _
            refine NoPanic.normal ?_
            have hbt : Below wr.heap.size wr w2 := bstep hb1 (bboxd hb2)
            go_wp2
            go_ret2
            exact ⟨_, by rw [HT.out]; rfl, by rw [HT.out]; exact OpsAt.nil_ _, bstep hb hbt⟩
      · have hkk : k = s.size := by omega
        have hsz := word_size s a k hak hk2
        obtain ⟨x, hx⟩ : ∃ x, x = guessOp ((s.data.toList.take k).drop a) := ⟨_, rfl⟩
        have HG : Hid (∀ w, Calls Tryd.prog 18 #[.string (s.extract a k)] w fun e w' => e = .returned (ov x) ∧ Below w.heap.size w w') := Lib.hid (fun w => by
          have := guess_any (s.extract a k) w (by omega)
          rwa [word_data, ← hx] at this)
        have HX := Lib.hid hx
        clear hx
        have HN : Hid (¬ (mayB x = true ∧ txt x = (s.data.toList.take k).drop a) → prs s.data.toList = ([], 2)) := Lib.hid (fun h => prs_none hs (cut_none HC.out HP.out hak (list_ne h0) (.inl hkk) (by rw [← HX.out]; exact h)))
        have HY : Hid (mayB x = true → txt x = (s.data.toList.take k).drop a → (k + 1 ≤ s.size ∧ Cut s.data.toList (l ++ [x]) (k + 1) ∧ Plain s.data.toList (k + 1) (k + 1)) ∨ (k + 1 = s.size + 1 ∧ readM s.data.toList = some (l ++ [x]))) := Lib.hid (fun h1 h2 => .inr ⟨by omega, cut_end HC.out h1 (by rw [h2, hkk]; rfl)⟩)
        have hge : s.size ≤ k := by omega
        clear hkk
        clear HC HP HX
        go_wp2_with (go_at_call 18; refine (HG.out _).mono ?_; rintro e w1 ⟨rfl, hb1⟩; refine Hid.out ?_)
        refine Lib.hid ?_
        go_wp2
        have B1 := Lib.hid (Box.new w1 x)
        have d0 := B1.out.c0
        have d1 := B1.out.c1
        have d2 := B1.out.c2
        rcases Bool.eq_false_or_eq_true (mayB x) with hm | hm
        · have HM := Lib.hid hm
          clear hm
          go_region_held3 (fun w' => w'.cell? ⟨w1.heap.size, 0, none⟩ = some (.int .i64 x.k) ∧ w'.cell? ⟨w1.heap.size, 1, none⟩ = some (.int .i64 x.a) ∧ w'.cell? ⟨w1.heap.size, 2, none⟩ = some (.int .i64 x.v))
            (first | exact ⟨B3.out.c0, B3.out.c1, B3.out.c2⟩ | exact ⟨B2.out.c0, B2.out.c1, B2.out.c2⟩ | go_keep)
            (first
              | (go_at_call 14; refine (refMay_any x _).mono ?_; rintro e w2 ⟨rfl, hb2⟩; have B2 := Lib.hid (box_step B1.out.drew hb2); rw [HM.out])
              | (go_at_call 19; refine (refText_any x _ HM.out).mono ?_; rintro e w3 ⟨rfl, hb3⟩; have B3 := Lib.hid (box_step B2.out hb3)))
          have hbt : Below wr.heap.size wr w3 := bstep (bstep hb1 (bboxd hb2)) hb3
          have e0 := B3.out.c0
          have e1 := B3.out.c1
          have e2 := B3.out.c2
          clear hb1 hb2 hb3 d0 d1 d2 B1 B2 HG
          have HO3 := Lib.hid (own_below HO.out hbt)
          have hz3 : w.heap.size ≤ w3.heap.size := Nat.le_trans hb.size hbt.size
          go_wp2_with (at_builtin; refine wpList_append_own _ rfl _ _ 23 rfl w.heap.size 33 i0 _ 3 24 Tryd.underlying23 hi0 hz0 hz1 hz2 rfl (by decide) _ _ _ rfl (HO3.out.alloc _) ⟨w3.heap.size, 0, none⟩ 1 1 [.int .i64 x.k, .int .i64 x.a, .int .i64 x.v] rfl rfl (World.news_of_block (cs := #[.int .i64 x.k, .int .i64 x.a, .int .i64 x.v]) (t := 33) (fr := (0, 0)) (heap_alloc_new w3 _)) (by simp [Value.oneCell']) (by unfold maxLen; omega) (by omega) (by simp; omega) ?_)
          · have ht : (!(txt x == (s.extract a k).toList)) = true := by assumption
            have HT := Lib.hid (HN.out (fun h => by
              rw [h.2, ByteArray.toList_eq, word_data] at ht
              simp at ht))
            go_ret2
            exact ⟨_, by rw [HT.out]; rfl, by rw [HT.out]; exact OpsAt.nil_ _, bstep hb hbt⟩
          · have ht : (!(txt x == (s.extract a k).toList)) = false := by assumption
            have HT : Hid (txt x = (s.data.toList.take k).drop a) := Lib.hid (by rw [ByteArray.toList_eq, word_data] at ht; simpa using ht)
            clear ht
            intro v4 w4 hown4 hg4 _
            have hown5 : Hid (w4.ownsRow w.heap.size 33 3 v4 (l ++ [x]).length (opCells (l ++ [x]))) := Lib.hid (by rw [opCells_snoc, List.length_append]; exact hown4)
            have hb4 : Below w.heap.size w w4 := ((bstep hb hbt).alloc hz3 _).grown hg4 (by simp; omega) (fun j hj => (HO3.out.lt j hj).1)
            clear hown4 hg4 hbt e0 e1 e2
            go_wp2
            go_roundw
            case rel => exact ⟨k + 1, k + 1, l ++ [x], by go_num, by go_num, by omega, by omega, by simp; omega, hown5.out, hb4, HY.out HM.out HT.out⟩
            case measure => simp [intOf]; omega
        · have HM := Lib.hid hm
          have HT := Lib.hid (HN.out (fun h => by rw [hm] at h; exact absurd h.1 (by decide)))
          clear hm
          refine wp_region_noPanic ?_
          refine wp_region_held_drew (S := fun w' => w'.cell? ⟨w1.heap.size, 0, none⟩ = some (.int .i64 x.k) ∧ w'.cell? ⟨w1.heap.size, 1, none⟩ = some (.int .i64 x.a) ∧ w'.cell? ⟨w1.heap.size, 2, none⟩ = some (.int .i64 x.v)) (by kernel_rfl) ⟨d0, d1, d2⟩ (fun hh => ?_)
          refine wpAnyH_take (fuel := 11) (i := 0) (oi := ⟨some 37, _, _, _, _, _⟩) (v := ov x) rfl (by kernel_rfl) (by kernel_rfl) (by kernel_rfl) (fun _ _ _ h => h) (Or.inl ⟨by rfl, ?_⟩) hh ?_
          · rintro w' ⟨c0, c1, c2⟩
            go_simp
          simp only [Act.put, List.setIfInBounds_toArray]
          refine wpAnyH_ready (fuel := 10) (rs := [1]) (by kernel_rfl) (by simp) ?_
          refine AllReadyH.cons (o := ⟨some 38, _, _, _, _, _⟩) rfl (fun K hK => ?_) AllReadyH.nil
          go_simp
          refine (refMay_any x _).mono ?_
          rintro e w2 ⟨rfl, hb2⟩
          rw [HM.out]
          have B2 := box_step B1.out.drew hb2
          show K _ _
          refine hK.out _ _ ⟨B2.c0, B2.c1, B2.c2⟩ (fun hh2 => ?_)
          clear hK K hh
          refine wpAnyH_take (fuel := 9) (i := 2) (oi := ⟨some 39, _, _, _, _, _⟩) (v := .bool true) rfl (by kernel_rfl) (by kernel_rfl) (by kernel_rfl) (fun _ _ _ h => h) (Or.inl ⟨by rfl, ?_⟩) hh2 ?_
          · intro w' _
            go_simp
          simp only [Act.put, List.setIfInBounds_toArray]
          refine wpAnyH_take (fuel := 8) (i := 3) (oi := ⟨some 40, _, _, _, _, _⟩) (v := .bool true) rfl (by kernel_rfl) (by kernel_rfl) (by kernel_rfl) (fun _ _ _ h => h) (Or.inl ⟨by rfl, ?_⟩) hh2 ?_
          · intro w' _
            go_simp
          simp only [Act.put, List.setIfInBounds_toArray]
          refine wpAnyH_take (fuel := 7) (i := 4) (oi := ⟨some 41, _, _, _, _, _⟩) (v := undef) rfl (by kernel_rfl) (by kernel_rfl) (by kernel_rfl) (fun _ _ _ h => h) (Or.inr ⟨by rfl, rfl⟩) hh2 ?_
          simp only [Act.put, List.setIfInBounds_toArray]
          refine wpAnyH_take (fuel := 6) (i := 5) (oi := ⟨some 42, _, _, _, _, _⟩) (v := undef) rfl (by kernel_rfl) (by kernel_rfl) (by kernel_rfl) (fun _ _ _ h => h) (Or.inr ⟨by rfl, rfl⟩) hh2 ?_
          simp only [Act.put, List.setIfInBounds_toArray]
          refine wpAnyH_take (fuel := 5) (i := 6) (oi := ⟨some 43, _, _, _, _, _⟩) (v := undef) rfl (by kernel_rfl) (by kernel_rfl) (by kernel_rfl) (fun _ _ _ h => h) (Or.inr ⟨by rfl, rfl⟩) hh2 ?_
          simp only [Act.put, List.setIfInBounds_toArray]
          refine wpAnyH_take (fuel := 4) (i := 7) (oi := ⟨some 44, _, _, _, _, _⟩) (v := undef) rfl (by kernel_rfl) (by kernel_rfl) (by kernel_rfl) (fun _ _ _ h => h) (Or.inr ⟨by rfl, rfl⟩) hh2 ?_
          simp only [Act.put, List.setIfInBounds_toArray]
          refine wpAnyH_take (fuel := 3) (i := 8) (oi := ⟨some 45, _, _, _, _, _⟩) (v := undef) rfl (by kernel_rfl) (by kernel_rfl) (by kernel_rfl) (fun _ _ _ h => h) (Or.inr ⟨by rfl, rfl⟩) hh2 ?_
          simp only [Act.put, List.setIfInBounds_toArray]
          refine wpAnyH_take (fuel := 2) (i := 9) (oi := ⟨some 46, _, _, _, _, _⟩) (v := undef) rfl (by kernel_rfl) (by kernel_rfl) (by kernel_rfl) (fun _ _ _ h => h) (Or.inr ⟨by rfl, rfl⟩) hh2 ?_
          simp only [Act.put, List.setIfInBounds_toArray]
          refine wpAnyH_take (fuel := 1) (i := 10) (oi := ⟨some 47, _, _, _, _, _⟩) (v := undef) rfl (by kernel_rfl) (by kernel_rfl) (by kernel_rfl) (fun _ _ _ h => h) (Or.inr ⟨by rfl, rfl⟩) hh2 ?_
          simp only [Act.put, List.setIfInBounds_toArray]
          refine wpAnyH_take (fuel := 0) (i := 11) (oi := ⟨some 48, _, _, _, _, _⟩) (v := .bool true) rfl (by kernel_rfl) (by kernel_rfl) (by kernel_rfl) (fun _ _ _ h => h) (Or.inl ⟨by rfl, ?_⟩) hh2 ?_
          · intro w' _
            go_simp
          simp only [Act.put, List.setIfInBounds_toArray]
          refine wpAnyH_done (by kernel_rfl) ?_ _
          refine NoPanic.normal ?_
          have hbt : Below wr.heap.size wr w2 := bstep hb1 (bboxd hb2)
          go_wp2
          go_ret2
          exact ⟨_, by rw [HT.out]; rfl, by rw [HT.out]; exact OpsAt.nil_ _, bstep hb hbt⟩
    · have HO := Lib.hid hown
      have HR := Lib.hid hr
      obtain ⟨p, cap, rfl, -⟩ := (ops_of_own hown).in_
      clear hown hr
      by_cases h64 : 64 < l.length
      · have HE : Hid (prs s.data.toList = ([], 4)) := Lib.hid (by unfold prs; rw [if_neg (by rw [size_list]; omega), HR.out]; simp [h64])
        go_wp2
        go_ret2
        exact ⟨_, by rw [HE.out]; rfl, by rw [HE.out]; exact OpsAt.nil_ _, hb⟩
      · have HE : Hid (prs s.data.toList = (l, 0)) := Lib.hid (by unfold prs; rw [if_neg (by rw [size_list]; omega), HR.out]; simp [h64])
        go_wp2
        go_ret2
        exact ⟨_, by rw [HE.out]; rfl, by rw [HE.out]; exact ops_of_own HO.out, hb⟩

theorem refParse_nothing (s : ByteArray) (w : World) (h0 : s.size = 0) :
    Calls Tryd.prog 9 #[.string s] w (RetE w (prs s.data.toList).1 (prs s.data.toList).2) := by
  have hemp : s.toList.isEmpty = true := by rw [ByteArray.toList_eq, no_text h0]; rfl
  have HE : Hid (prs s.data.toList = ([], 0)) := Lib.hid (by rw [no_text h0]; rfl)
  have h1 : s.size ≤ 0 := by omega
  clear h0
  go_enter Tryd.func9, Tryd.ntmps9
  go_wp2
  refine wp_loop_rounds 1 ?_
  rw [rounds_succ]
  go_wp2
  go_ret2
  refine ⟨_, by rw [HE.out]; rfl, ?_, (Below.refl _ _).alloc (Nat.le_refl _) _⟩
  rw [HE.out]
  exact .inr ⟨w.heap.size, 0, 0, rfl, by simp, fun i u hu => by simp [opCells] at hu⟩

/-- Parse, the document's. -/
theorem refParse_any (s : ByteArray) (w : World) (hm : s.size ≤ 9223372036854775807) :
    Calls Tryd.prog 9 #[.string s] w (RetE w (prs s.data.toList).1 (prs s.data.toList).2) := by
  by_cases h4 : 4000 < s.size
  · have HE : Hid (prs s.data.toList = ([], 4)) := Lib.hid (by unfold prs; rw [if_pos (by rw [size_list]; omega)])
    go_enter Tryd.func9, Tryd.ntmps9
    go_wp2
    go_ret2
    exact ⟨_, by rw [HE.out]; rfl, by rw [HE.out]; exact OpsAt.nil_ _, Below.refl _ _⟩
  · rcases Nat.eq_zero_or_pos s.size with h | h
    · exact refParse_nothing s w h
    · exact refParse_word s w (by omega) h

end Go.Proofs.YtobpeaigapnpdaaDoor
