/-
  The document's Grant: words came, none with them; and it is granted.
-/
import Derived.Test.YtcfcgejeiihgnaaMhV
namespace Go.Proofs.Ytcfcgejeiihgnaa
open Go Go.RowKit

/-- What isn't known yet has no words. -/
def Blk (l : List Ms) : Prop := ∀ x ∈ l, x.nd = -1 → x.wd = d0
theorem PutGave.trans {T e : TypeId} {w w1 w2 : World} {B b : Nat} {room : Int} {m : List Ms} {v v1 : Value} (ht : Turn b v w w1) (hf : Fresh w v v1) (h : PutGave T e 15 mc w1 B b room m v1 w2) : PutGave T e 15 mc w B b room m v w2 := by
  obtain ⟨v2, h1, h2, h3⟩ := h
  refine ⟨v2, h1, ht.trans h2 hf, fun k hk => ?_⟩
  rcases h3 k hk with e | e
  · exact hf k e
  · exact .inr (Nat.le_trans ht.size e)

set_option maxHeartbeats 1000000 in
theorem refGrant_err {w : World} {B b : Nat} {room k : Int} {l : List Ms} {v : Value} (h : BgD w B b room l v) (gd : Good room k l) (line acks : Int) {n : Int} (hn : (n != 0) = true) (e : chg l line (dataF acks 4 d0) = (n, l)) :
    Calls Try.prog 24 #[.pointer (some ⟨b, 0, none⟩), .int .i64 line, .int .i64 acks] w fun e w' => e = .returned (.int .i64 n) ∧ PutGave 52 39 15 mc w B b room l v w' := by
  have HD := refData_any h gd line acks 4 d0
  rw [e] at HD
  have HD := Lib.hid HD
  clear h gd e
  go_enter Try.func24, Try.ntmps24
  go_wp2_with fail
  refine HD.out.mono ?_
  rintro e w1 ⟨rfl, R⟩
  have R := Lib.hid R
  go_wp2
  go_ret
  exact ⟨rfl, R.out⟩
set_option maxHeartbeats 1000000 in
theorem refGrant_yes {w : World} {B b : Nat} {room k : Int} {l : List Ms} {v : Value} (h : BgD w B b room l v) (gd : Good room k l) (line acks : Int) {i : Nat} {x : Ms} (hp : fnd l line = some i) (hx : l[i]? = some x) (hw0 : x.wd = d0) (ht : tkes x acks 4 = true) :
    Calls Try.prog 24 #[.pointer (some ⟨b, 0, none⟩), .int .i64 line, .int .i64 acks] w fun e w' => e = .returned (.int .i64 0) ∧ PutGave 52 39 15 mc w B b room (l.set i (grantY acks x)) v w' := by
  have HD := refData_any h gd line acks 4 d0
  have hg1 := gd.data line acks 4 d0
  have hch := chg_yes hp hx (dataF_yes d0 ht)
  rw [hch] at HD hg1
  have HD := Lib.hid HD
  have hl1 := hg1.len
  have hr1 := hg1.r2
  have hx1 := set_at hx (dataY acks 4 d0 x)
  have hln : x.ln = line := by
    obtain ⟨y, hy, e, _⟩ := fnd_some hp
    rw [hx] at hy
    cases hy
    exact e
  have hp1 : fnd (l.set i (dataY acks 4 d0 x)) line = some i := by
    have := fnd_at hg1.uq hx1
    rwa [show (dataY acks 4 d0 x).ln = line from hln] at this
  have hl8 : (l.set i (dataY acks 4 d0 x)).length ≤ 5000 := by
    simp only at hl1
    omega
  have hfin : (l.set i (dataY acks 4 d0 x)).set i (grantY acks x) = l.set i (grantY acks x) := List.set_set ..
  have HFN := Lib.hid hfin
  have HX1 := Lib.hid hx1
  have hi1 := (List.getElem?_eq_some_iff.1 hx).1
  have HP := Lib.hid (fun (w1 : World) (v1 : Value) (hb : BgD w1 B b room (l.set i (dataY acks 4 d0 x)) v1) => by
    have := refPlace_any hb line hl8
    rw [hp1] at this
    exact (this.mono fun e w' ⟨h1, h2⟩ => ⟨h1, h2.symm⟩ : Calls Try.prog 31 #[.pointer (some ⟨b, 0, none⟩), .int .i64 line] w1 fun e w' => e = .returned (.int .i64 (i : Int)) ∧ w' = w1))
  have HW0 : Hid (∀ m, m < 15 → m < 13 ∨ 13 + 1 ≤ m → (mc (grantY acks x))[m]? = (mc (dataY acks 4 d0 x))[m]?) := Lib.hid (fun m hm hm2 => by
    obtain ⟨ln, kd, nd, gt, ow, wd, gr, os⟩ := x
    obtain rfl : wd = d0 := hw0
    rcases (show m = 0 ∨ m = 1 ∨ m = 2 ∨ m = 3 ∨ m = 4 ∨ m = 5 ∨ m = 6 ∨ m = 7 ∨ m = 8 ∨ m = 9 ∨ m = 10 ∨ m = 11 ∨ m = 12 ∨ m = 14 by omega) with rfl | rfl | rfl | rfl | rfl | rfl | rfl | rfl | rfl | rfl | rfl | rfl | rfl | rfl
    all_goals rfl)
  clear h gd hp hx hw0 ht hg1 hch hx1 hp1 hl1 hr1 hln hfin
  go_enter Try.func24, Try.ntmps24
  go_wp2_with fail
  refine HD.out.mono ?_
  rintro e w1 ⟨rfl, R⟩
  obtain ⟨v1, hb1, ht1, hf1⟩ := R
  simp only at hb1
  obtain ⟨g, cap, rfl, _, hgl, _, hr, hfz, _, _⟩ := hb1.one HX1.out
  have HB1 := Lib.hid hb1
  have HT := Lib.hid ht1
  have HF := Lib.hid hf1
  have c1 := blk_cell hb1.blk 1
  simp at c1
  have c13 := hr 13 _ rfl
  have f13 := hfz (i * 15 + 13)
  have HE := Lib.hid (PutGave.trans ht1 hf1 (gave_store hb1 (Below.refl _ _).drew HX1.out (grantY acks x) 13 [.bool true] (by simp) (fun m hm => by simp at hm; subst hm; rfl) HW0.out))
  have HPW := Lib.hid (HP.out _ _ hb1.drew1)
  clear hb1 ht1 hf1 hr hfz HP
  go_wp2
  refine wp_region_still_tail 9 (by kernel_rfl) (by kernel_rfl) ?_
  simp only [List.take_succ_cons, List.take_zero, List.drop_succ_cons, List.drop_zero]
  repeat still_step
  still_call HPW.out
  repeat still_step
  refine wpStill_nil ?_
  change wpList _ _ _ _ _ w1.drew
  clear c1
  go_wp2
  go_ret
  rw [← HFN.out]
  exact ⟨rfl, HE.out⟩
theorem refGrant_any {w : World} {B b : Nat} {room k : Int} {l : List Ms} {v : Value} (h : BgD w B b room l v) (gd : Good room k l) (hbk : Blk l) (line acks : Int) :
    Calls Try.prog 24 #[.pointer (some ⟨b, 0, none⟩), .int .i64 line, .int .i64 acks] w (GaveD w B b room v (chg l line (grantF acks))) := by
  rcases hp : fnd l line with _ | i
  · rw [chg_none _ hp]
    exact (refGrant_err h gd line acks (by decide) (chg_none _ hp)).mono fun e w' ⟨h1, h2⟩ => ⟨h1, h2⟩
  · obtain ⟨x, hx, _, hi⟩ := fnd_some hp
    rcases Bool.eq_false_or_eq_true (tkes x acks 4) with ht | ht
    · rw [chg_yes hp hx (grantF_yes ht)]
      have hk := (tkes_iff ht).1
      have hnd : x.nd = -1 := by simpa [knw] using hk
      exact (refGrant_yes h gd line acks hp hx (hbk x (List.mem_of_getElem? hx) hnd) ht).mono fun e w' ⟨h1, h2⟩ => ⟨h1, h2⟩
    · rw [chg_no hp hx (grantF_no ht)]
      exact (refGrant_err h gd line acks (by decide) (chg_no hp hx (dataF_no d0 ht))).mono fun e w' ⟨h1, h2⟩ => ⟨h1, h2⟩

end Go.Proofs.Ytcfcgejeiihgnaa
