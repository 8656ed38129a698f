/-
  awake of layer 7 is true.
-/
import Derived.Test.YtdggjbaapnkcgaaNtF
import Derived.Test.YtdggjbaapnkcgaaNtH
import Derived.Test.YtdggjbaapnkcgaaNtI
import Derived.Test.YtdggjbaapnkcgaaMsEq
import Derived.Lib.QuietBelow
namespace Go.Proofs.Ytdggjbaapnkcgaa
open Go Go.RowKit Go.Sort

theorem own_form {w : World} {base e sz n : Nat} {v : Value} {xs : List Value} (h : w.ownsRow base e sz v n xs) : ∃ p cap, v = .slice p n cap := by
  rcases h.2 with ⟨e, h0⟩ | ⟨g, cap, cur, e, _⟩
  · exact ⟨none, 0, by rw [e, h0]⟩
  · exact ⟨_, cap, e⟩

abbrev cS : Cfg := ⟨2, 1, 1, 1, 1, 2, 0, 1, 1, 1, 1, 1, 1⟩
abbrev cZ : Cfg := ⟨0, 0, 0, 0, 0, 0, 0, 0, 0, 0, 0, 0, 0⟩
abbrev mS1 : Msg := ⟨1, 1, 1, 0, 0, 0, 0, 0, 0, 0, 0, 0, 0, 0, 0⟩
abbrev mS2 : Msg := ⟨2, 0, 0, 0, 0, 0, 0, 0, 0, 0, 0, 0, 0, 0, 0⟩
abbrev mS3 : Msg := ⟨6, 1, 0, 1, 0, 0, 0, 0, 0, 0, 0, 0, 0, 0, 0⟩
abbrev mS4 : Msg := ⟨12, 0, 0, 0, 0, 0, 0, 0, 0, 0, 0, 0, 0, 0, 0⟩
theorem ok_S : okC cS = true := by decide +kernel
theorem ok_Z : okC cZ = false := by decide +kernel
theorem may_S1 : mayM cS mS1 = true := by decide +kernel
theorem may_S2 : mayM cS mS2 = true := by decide +kernel
theorem may_S3 : mayM cS mS3 = true := by decide +kernel
theorem may_S4 : mayM cS mS4 = false := by decide +kernel

theorem NetP.congr {w : World} {B n : Nat} {c : Cfg} {b : Nat → Nat} {l l' : Nat → List Msg} {v : Nat → Value} (h : NetP w B n c b l v) (he : ∀ k, k < 3 → l k = l' k) : NetP w B n c b l' v :=
  ⟨h.blk, fun k hk => he k hk ▸ h.bag k hk, fun k hk => he k hk ▸ h.len k hk, h.nb, h.nv, h.bb, h.vb, h.vv, h.big, h.ok⟩
theorem NetGave.congr {w w' : World} {B n : Nat} {c : Cfg} {b : Nat → Nat} {l l' : Nat → List Msg} {v : Nat → Value} (h : NetGave w B n c b l v w') (he : ∀ k, k < 3 → l k = l' k) : NetGave w B n c b l' v w' := by
  obtain ⟨u, h1, ht, hf⟩ := h
  exact ⟨u, h1.congr he, ht, hf⟩
theorem NetGave.below {w w' : World} {B n : Nat} {c : Cfg} {b : Nat → Nat} {l l' : Nat → List Msg} {v : Nat → Value} (hN : NetP w B n c b l v) (h : NetGave w B n c b l' v w') (hB : B ≤ w.heap.size) : Below B w w' := by
  obtain ⟨u, h1, ht, hf⟩ := h
  exact ht.below (fun k hk => (hN.foot k hk).1) hB
abbrev two (l0 l1 : List Msg) : Nat → List Msg := fun k => if k = 0 then l0 else if k = 1 then l1 else []
variable {w : World} {B n : Nat} {b : Nat → Nat} {v : Nat → Value}
theorem aw_send1 (h : NetP w B n cS b (fun _ => []) v) (hB : B ≤ w.heap.size) :
    Calls Try.prog 12 #[.pointer (some ⟨n, 0, none⟩), mv mS1] w fun e w' => e = .returned (.int .i64 0) ∧ NetGave w B n cS b (two [mS1] []) v w' :=
  (nsend_ok h hB mS1 0 (by omega) may_S1 rfl (by decide)).mono fun _ _ ⟨he, hg⟩ => ⟨he, hg.congr fun k hk => by unfold upd two; split <;> simp_all⟩
theorem aw_send2 (h : NetP w B n cS b (two [mS1] []) v) :
    Calls Try.prog 12 #[.pointer (some ⟨n, 0, none⟩), mv mS2] w fun e w' => e = .returned (.int .i64 4) ∧ Below w.heap.size w w' :=
  nsend_full h mS2 0 (by omega) may_S2 rfl (by decide)
theorem aw_send3 (h : NetP w B n cS b (two [mS1] []) v) (hB : B ≤ w.heap.size) :
    Calls Try.prog 12 #[.pointer (some ⟨n, 0, none⟩), mv mS3] w fun e w' => e = .returned (.int .i64 0) ∧ NetGave w B n cS b (two [mS1] [mS3]) v w' :=
  (nsend_ok h hB mS3 1 (by omega) may_S3 rfl (by decide)).mono fun _ _ ⟨he, hg⟩ => ⟨he, hg.congr fun k hk => by unfold upd two; split <;> simp_all⟩
theorem aw_send4 (h : NetP w B n cS b (two [mS1] [mS3]) v) :
    Calls Try.prog 12 #[.pointer (some ⟨n, 0, none⟩), mv mS4] w fun e w' => e = .returned (.int .i64 1) ∧ Below w.heap.size w w' :=
  nsend_bad h mS4 may_S4
theorem aw_at (h : NetP w B n cS b (two [mS1] [mS3]) v) :
    Calls Try.prog 8 #[.pointer (some ⟨n, 0, none⟩), .int .i64 0, .int .i64 0] w (RetM w mS1 (.bool true)) :=
  nat_yes h 0 0 0 mS1 rfl (by omega) rfl
theorem aw_of (h : NetP w B n cS b (two [mS1] [mS3]) v) :
    Calls Try.prog 20 #[.pointer (some ⟨n, 0, none⟩), .int .i64 1] w fun e w' => (∃ p cap, e = .returned (.slice p 2 cap)) ∧ Below w.heap.size w w' :=
  (nof_any h 1).mono fun e w' ⟨u, he, ho, hb⟩ => by
    obtain ⟨p, cap, rfl⟩ := own_form ho
    exact ⟨⟨p, cap, he⟩, hb⟩
theorem aw_take (h : NetP w B n cS b (two [mS1] [mS3]) v) :
    Calls Try.prog 14 #[.pointer (some ⟨n, 0, none⟩), .int .i64 0, .int .i64 0] w (TakM mS1 0 (NetGave w B n cS b (two [] [mS3]) v)) :=
  (ntake_yes h 0 0 0 mS1 rfl (by omega) rfl).mono fun _ _ ⟨he, hg⟩ => ⟨he, hg.congr fun k hk => by unfold upd two; split <;> simp_all⟩
theorem aw_left (h : NetP w B n cS b (two [] [mS3]) v) (j : Nat) (k r : Int) (hkj : k = j) (hj : j < 3) (hr : room cS j - ((two [] [mS3]) j).length = r) :
    Calls Try.prog 10 #[.pointer (some ⟨n, 0, none⟩), .int .i64 k] w fun e w' => e = .returned (.int .i64 r) ∧ Below w.heap.size w w' := by
  subst hr
  exact nleft_yes h j k hkj hj
theorem aw_list (h : NetP w B n cS b (two [] [mS3]) v) :
    Calls Try.prog 17 #[.pointer (some ⟨n, 0, none⟩), .int .i64 1] w fun e w' => (∃ p cap, e = .returned (.slice p 1 cap)) ∧ Below w.heap.size w w' :=
  (nlist_yes h 1 1 rfl (by omega)).mono fun e w' ⟨u, he, ho, hb⟩ => by
    obtain ⟨p, cap, rfl⟩ := own_form ho
    exact ⟨⟨p, cap, he⟩, hb⟩
theorem aw_empty (h : NetP w B n cS b (two [] [mS3]) v) :
    Calls Try.prog 18 #[.pointer (some ⟨n, 0, none⟩)] w fun e w' => e = .returned (.bool false) ∧ Below w.heap.size w w' :=
  nempty_any h

/-- What the last test reads. -/
structure Aw (w : World) (B n : Nat) (b : Nat → Nat) (v : Nat → Value) (g g' : Nat) (wr : World) : Prop where
  net : NetP wr B n cS b (two [] [mS3]) v
  c1 : ∀ o, wr.cell? ⟨g, o, none⟩ = (mcells mS1)[o]?
  c2 : ∀ o, wr.cell? ⟨g', o, none⟩ = (mcells mS1)[o]?
  lt1 : g < wr.heap.size
  lt2 : g' < wr.heap.size
  below : Below w.heap.size w wr
theorem Aw.step {w wr w' : World} {g g' : Nat} (h : Aw w B n b v g g' wr) (hb : Below wr.heap.size wr w') : Aw w B n b v g g' w' :=
  ⟨h.net.below hb, fun o => (hb.cell (p := ⟨g, o, none⟩) h.lt1).trans (h.c1 o), fun o => (hb.cell (p := ⟨g', o, none⟩) h.lt2).trans (h.c2 o), Nat.lt_of_lt_of_le h.lt1 hb.size, Nat.lt_of_lt_of_le h.lt2 hb.size, bstep h.below hb⟩

set_option maxRecDepth 100000 in
set_option maxHeartbeats 8000000 in
/-- awake: the calls whose answers the document fixes. -/
theorem awake7_any (w : World) :
    Calls Try.prog 5 #[] w fun e w' => e = .returned (.bool true) ∧ Below w.heap.size w w' := by
  go_enter Try.func5, Try.ntmps5
  go_wp2_with fail
  refine (nnew_yes cS _ (ok_fits ok_S) ok_S).mono ?_
  rintro e w1 ⟨n, b, v1, rfl, hN1, hb1⟩
  have HN1 := Lib.hid hN1
  have HB1 := Lib.hid (bbox hb1)
  have hs1 := hb1.size
  clear hN1 hb1
  go_wp2_with fail
  refine (nnew_no cZ _ (by simp [Cfg.fits]) ok_Z).mono ?_
  rintro e w2 ⟨rfl, hb2⟩
  have HN2 := Lib.hid (HN1.out.below hb2)
  have HB2 := Lib.hid (bstep HB1.out hb2)
  have hs2 := Nat.le_trans hs1 hb2.size
  clear HN1 HB1 hb2 hs1
  go_wp2_with fail
  refine (aw_send1 HN2.out hs2).mono ?_
  rintro e w3 ⟨rfl, hg3⟩
  have HB3 := Lib.hid (HB2.out.trans ((hg3.below HN2.out hs2).mono (by simp)))
  have hs3 := Nat.le_trans hs2 (hg3.below HN2.out hs2).size
  obtain ⟨v3, hN3, -, -⟩ := hg3
  have HN3 := Lib.hid hN3
  clear HN2 HB2 hs2 hN3
  go_wp2_with fail
  refine (aw_send2 HN3.out).mono ?_
  rintro e w4 ⟨rfl, hb4⟩
  have HN4 := Lib.hid (HN3.out.below hb4)
  have HB4 := Lib.hid (bstep HB3.out hb4)
  have hs4 := Nat.le_trans hs3 hb4.size
  clear HN3 HB3 hb4 hs3
  go_wp2_with fail
  refine (aw_send3 HN4.out hs4).mono ?_
  rintro e w5 ⟨rfl, hg5⟩
  have HB5 := Lib.hid (HB4.out.trans ((hg5.below HN4.out hs4).mono (by simp)))
  have hs5 := Nat.le_trans hs4 (hg5.below HN4.out hs4).size
  obtain ⟨v5, hN5, -, -⟩ := hg5
  have HN5 := Lib.hid hN5
  clear HN4 HB4 hs4 hN5
  go_wp2_with fail
  refine (aw_send4 HN5.out).mono ?_
  rintro e w6 ⟨rfl, hb6⟩
  have HN6 := Lib.hid (HN5.out.below hb6)
  have HB6 := Lib.hid (bstep HB5.out hb6)
  have hs6 := Nat.le_trans hs5 hb6.size
  clear HN5 HB5 hb6 hs5
  go_wp2_with fail
  refine (aw_at HN6.out).mono ?_
  rintro e w7 ⟨rfl, hb7⟩
  have HN7 := Lib.hid (HN6.out.below hb7)
  have HB7 := Lib.hid (bstep HB6.out hb7)
  have hs7 := Nat.le_trans hs6 hb7.size
  clear HN6 HB6 hb7 hs6
  have hb8 : Below w7.heap.size w7 (w7.alloc (.cells (mcells mS1) 37)) := (Below.refl _ w7).alloc (Nat.le_refl _) _
  have HN8 := Lib.hid (HN7.out.below hb8)
  have HA := Lib.hid hb8
  clear hb8
  go_wp2_with fail
  refine (aw_of HN8.out).mono ?_
  rintro e w9 ⟨⟨p9, c9, rfl⟩, hb9⟩
  have hb79 := bstep HA.out hb9
  have hx9 := (hb9.block w7.heap.size (by simp)).trans (heap_alloc_new w7 (.cells (mcells mS1) 37))
  have HN9 := Lib.hid (HN7.out.below hb79)
  have hs9 := Nat.le_trans hs7 hb79.size
  have h79 : w7.heap.size < w9.heap.size := lt_of_block hx9
  have HX9 := Lib.hid hx9
  have HB79 := Lib.hid hb79
  clear HN8 HA hb9 hb79 hx9 hs7
  go_wp2_with fail
  refine (aw_take HN9.out).mono ?_
  rintro e w10 ⟨rfl, hg10⟩
  have hx10 := (hg10.aside HN7.out w7.heap.size (Nat.le_refl _) h79).trans HX9.out
  have hb10 := hg10.below HN9.out hs9
  have HB10 := Lib.hid ((HB7.out.trans (HB79.out.mono HB7.out.size)).trans (hb10.mono (by simp)))
  obtain ⟨v10, hN10, -, -⟩ := hg10
  have HN10 := Lib.hid hN10
  have HX10 := Lib.hid hx10
  clear hx10 hb10 hN10 HN9 HX9 HN7 HB7 HB79 h79 hs9
  go_wp2_with fail
  have hA : Aw w _ n b v10 w7.heap.size w10.heap.size (w10.alloc (.cells (mcells mS1) 37)) :=
    have hb := (Below.refl _ w10).alloc (Nat.le_refl _) (.cells (mcells mS1) 37)
    have hl := lt_of_block HX10.out
    ⟨HN10.out.below hb, fun o => (hb.cell (p := ⟨w7.heap.size, o, none⟩) hl).trans (blk_cell HX10.out o), fun o => blk_cell (heap_alloc_new w10 _) o, Nat.lt_of_lt_of_le hl hb.size, by simp, bstep HB10.out hb⟩
  have HA := Lib.hid hA
  clear hA HN10 HX10 HB10
  refine (ntake_no _ 3 0 _ (by omega)).mono ?_
  rintro e w11 ⟨rfl, hb11⟩
  have HA11 := Lib.hid ((HA.out.step hb11).step ((Below.refl _ w11).alloc (Nat.le_refl _) (.cells (mcells m0) 37)))
  clear HA hb11
  have hc1 := HA11.out.c1
  have hc2 := HA11.out.c2
  have hq := msg_eql mS1
  as_aux_lemma =>
  go_wp2_with fail
  refine (aw_left HA11.out.net 0 0 1 rfl (by omega) rfl).mono ?_
  rintro e w12 ⟨rfl, hb12⟩
  have HA12 := Lib.hid (HA11.out.step hb12)
  clear hb12 HA11 hc1 hc2 hq
  go_wp2_with fail
  refine (aw_left HA12.out.net 1 1 0 rfl (by omega) rfl).mono ?_
  rintro e w13 ⟨rfl, hb13⟩
  have HA13 := Lib.hid (HA12.out.step hb13)
  clear hb13 HA12
  go_wp2_with fail
  refine (aw_list HA13.out.net).mono ?_
  rintro e w14 ⟨⟨p14, c14, rfl⟩, hb14⟩
  have HA14 := Lib.hid (HA13.out.step hb14)
  clear hb14 HA13
  go_wp2_with fail
  refine (aw_empty HA14.out.net).mono ?_
  rintro e w15 ⟨rfl, hb15⟩
  have HA15 := Lib.hid (HA14.out.step hb15)
  clear hb15 HA14
  go_wp2_with fail
  go_ret
  exact ⟨rfl, HA15.out.below⟩

end Go.Proofs.Ytdggjbaapnkcgaa
