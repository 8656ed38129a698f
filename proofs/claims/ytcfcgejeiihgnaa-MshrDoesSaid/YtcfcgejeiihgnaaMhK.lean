/-
  Close.
-/
import Derived.Test.YtcfcgejeiihgnaaMhJ
import Derived.Test.YtcfcgejeiihgnaaMhF
namespace Go.Proofs.Ytcfcgejeiihgnaa
open Go Go.RowKit

theorem nat_neg (k : Nat) : ¬ (k : Int) < 0 := by omega
set_option maxHeartbeats 600000 in
theorem close_none {w : World} {B b : Nat} {room : Int} {l : List Ms} {v : Value} (h : BgP w B b room l v) (line : Int) (hl : l.length ≤ 5000) (hp : fnd l line = none) :
    Calls Try.prog 21 #[.pointer (some ⟨b, 0, none⟩), .int .i64 line] w fun e w' => e = .returned (.int .i64 5) ∧ Below w.heap.size w w' := by
  have hbx := balloc w (.cells #[.int .i64 line] 3)
  have HP := placeL (h.below hbx) ⟨w.heap.size, 0, none⟩ line hl (by simp) (by simp)
  have hp' : l.findIdx? (isL line) = none := hp
  rw [hp'] at HP
  have HP := Lib.hid HP
  clear h hp hp'
  go_enter Try.func21, Try.ntmps21
  go_wp2_with fail
  refine (ofLine_any line _).mono ?_
  rintro e w1 ⟨rfl, rfl⟩
  go_wp2_with fail
  refine HP.out.mono ?_
  rintro e w1 ⟨rfl, hb1⟩
  simp only [oi]
  go_wp2
  go_ret
  exact ⟨rfl, bbox hb1⟩
set_option maxHeartbeats 600000 in
theorem close_no {w : World} {B b : Nat} {room : Int} {l : List Ms} {g cap : Nat} (h : BgP w B b room l (.slice (some ⟨g, 0, none⟩) l.length cap)) (line : Int) (hl : l.length ≤ 5000) {i : Nat} {x : Ms} (hp : fnd l line = some i) (hx : l[i]? = some x) (ht : x.os = false) :
    Calls Try.prog 21 #[.pointer (some ⟨b, 0, none⟩), .int .i64 line] w fun e w' => e = .returned (.int .i64 7) ∧ Below w.heap.size w w' := by
  have hbx := balloc w (.cells #[.int .i64 line] 3)
  have HP := placeL (h.below hbx) ⟨w.heap.size, 0, none⟩ line hl (by simp) (by simp)
  have hp' : l.findIdx? (isL line) = some i := hp
  rw [hp'] at HP
  have HP := Lib.hid HP
  have hi := (List.getElem?_eq_some_iff.1 hx).1
  have hn := nat_neg i
  have HR : Hid (∀ w1, Below w.heap.size w w1 → w1.cell? ⟨b, 1, none⟩ = some (.slice (some ⟨g, 0, none⟩) l.length cap) ∧ w1.cell? ⟨g, i * 15 + 14, none⟩ = some (.bool false)) := Lib.hid (fun w1 hb => by
    refine ⟨blk_cell (h.below hb).blk 1, ?_⟩
    have := ((h.below hb).at1 hx).row 14 _ rfl
    rw [this]
    exact congrArg (fun z => some (Value.bool z)) ht)
  clear h hp hp' hx ht
  go_enter Try.func21, Try.ntmps21
  go_wp2_with fail
  refine (ofLine_any line _).mono ?_
  rintro e w1 ⟨rfl, rfl⟩
  go_wp2_with fail
  refine HP.out.mono ?_
  rintro e w1 ⟨rfl, hb1⟩
  simp only [oi]
  obtain ⟨c1, c14⟩ := HR.out _ (bbox hb1)
  go_wp2
  go_ret
  exact ⟨rfl, bbox hb1⟩

set_option maxRecDepth 100000 in
set_option maxHeartbeats 1000000 in
theorem close_yes {w : World} {B b : Nat} {room : Int} {l : List Ms} {g cap : Nat} (h : BgP w B b room l (.slice (some ⟨g, 0, none⟩) l.length cap)) (line : Int) (hl : l.length ≤ 5000) {i : Nat} {x : Ms} (hp : fnd l line = some i) (hx : l[i]? = some x) (ht : x.os = true) :
    Calls Try.prog 21 #[.pointer (some ⟨b, 0, none⟩), .int .i64 line] w fun e w' => e = .returned (.int .i64 0) ∧ PutGave 60 34 15 mc w B b room (l.eraseIdx i) (.slice (some ⟨g, 0, none⟩) l.length cap) w' := by
  have hbx := balloc w (.cells #[.int .i64 line] 3)
  have HP := placeL (h.below hbx) ⟨w.heap.size, 0, none⟩ line hl (by simp) (by simp)
  have hp' : l.findIdx? (isL line) = some i := hp
  rw [hp'] at HP
  have HP := Lib.hid HP
  have hi := (List.getElem?_eq_some_iff.1 hx).1
  have hn := nat_neg i
  obtain ⟨i0, hi0, hz0, hz1, hz2⟩ := info_parts A34
  have HR : Hid (∀ w1, Below w.heap.size w w1 → w1.cell? ⟨b, 1, none⟩ = some (.slice (some ⟨g, 0, none⟩) l.length cap) ∧ w1.frozen? ⟨b, 1, none⟩ = false ∧ w1.cell? ⟨g, i * 15 + 14, none⟩ = some (.bool true)) := Lib.hid (fun w1 hb => by
    refine ⟨blk_cell (h.below hb).blk 1, blk_free (h.below hb).blk 1, ?_⟩
    have := ((h.below hb).at1 hx).row 14 _ rfl
    rw [this]
    exact congrArg (fun z => some (Value.bool z)) ht)
  have hgb : b ≠ g := fun e => h.off (by rw [e]; rfl)
  have hgl := (h.row.lt g rfl).2
  have hbl := h.lt
  obtain ⟨hlen, hh⟩ := h.row
  obtain ⟨cur, hg, hnc, hcm, hcs, hcv⟩ : ∃ cur : Array Value, w.heap[g]? = some (.cells cur 34 (0, 0)) ∧ l.length ≤ cap ∧ cap ≤ maxLen ∧ cur.size = cap * 15 ∧ cur.toList.take (l.length * 15) = cellsOf mc l := by
    rcases hh with ⟨e0, h0⟩ | ⟨g', cap', cur, e0, hB, hgg, h1, h2, h3, h4⟩
    · cases e0
    · obtain ⟨rfl, rfl⟩ : g = g' ∧ cap = cap' := by simpa using e0
      exact ⟨cur, hgg, h1, h2, h3, h4⟩
  clear hh
  have HE := Lib.hid (fun w1 (hb : Below w.heap.size w w1) => close_own h hb hi hg 1)
  obtain ⟨cs, hcsd⟩ : ∃ cs, cs = (cellsOf mc l).drop ((i + 1) * 15) := ⟨_, rfl⟩
  rw [← hcsd] at HE
  obtain ⟨m, hm⟩ : ∃ m, m = l.length - (i + 1) := ⟨_, rfl⟩
  have hnl : cs.length = m * 15 := by
    rw [hcsd, List.length_drop, hlen, hm, Nat.sub_mul]
  obtain ⟨D, hD, hsrc⟩ : ∃ D : Addr, (if cap = i + 1 then some (⟨g, 0, none⟩ : Addr) else some ⟨g, (i + 1) * 15, none⟩) = some D ∧ Hid (∀ w1, Below w.heap.size w w1 → ∀ t u, cs[t]? = some u → w1.cell? (D.add t) = some u) := by
    by_cases hc : cap = i + 1
    · refine ⟨⟨g, 0, none⟩, by simp [hc], Lib.hid fun w1 _ t u hu => ?_⟩
      have h0 : cs.length = 0 := by rw [hnl]; omega
      rw [List.length_eq_zero_iff.1 h0] at hu
      simp at hu
    · refine ⟨⟨g, (i + 1) * 15, none⟩, by simp [hc], Lib.hid fun w1 hb t u hu => ?_⟩
      have ht' : t < m * 15 := by
        have := (List.getElem?_eq_some_iff.1 hu).1
        omega
      have hmi : (i + 1) * 15 + m * 15 ≤ l.length * 15 := by rw [← Nat.add_mul]; exact Nat.mul_le_mul_right _ (by omega)
      rw [Addr.add_lit]
      refine (hb.cell (p := ⟨g, (i + 1) * 15 + t, none⟩) hgl).trans ?_
      rw [blk_cell hg]
      rw [hcsd, List.getElem?_drop, ← hcv, List.getElem?_take, if_pos (by omega)] at hu
      simpa using hu
  have H1 : Hid (∀ u ∈ cs, u.oneCell' = true) := Lib.hid (by
    intro u hu
    rw [hcsd] at hu
    exact mcs_one l u (List.mem_of_mem_drop hu))
  have HG := Lib.hid (fun w1 (hb : Below w.heap.size w w1) => (hb.block g hgl).trans hg)
  have HF : Hid (i * 15 + cs.length ≤ cur.size) := by
    show i * 15 + cs.length ≤ cur.size
    rw [hnl, hcs, ← Nat.add_mul]
    exact Nat.mul_le_mul_right _ (by omega)
  have HN := Lib.hid hnl
  have HM := Lib.hid (show Nat.min (l.length - (i + 1)) (l.length - i) = m by rw [hm]; exact Nat.min_eq_left (by omega))
  have k1 : IntKind.i64.wrap ((i : Int) + 1) = (i : Int) + 1 := IntWalk.i64_in _ (by omega)
  have k2 : ((i : Int) + 1).toNat = i + 1 := by omega
  have k3 : (0 : Int) ≤ (i : Int) + 1 := by omega
  have k4 : ¬ cap = i := by omega
  have k5 : i ≤ l.length := by omega
  have k6 : i + 1 ≤ l.length := by omega
  have k7 : IntKind.i64.wrap ((i : Int) + (m : Int)) = (i : Int) + (m : Int) := IntWalk.i64_in _ (by omega)
  have k8 : ((i : Int) + (m : Int)).toNat = l.length - 1 := by omega
  have k9 : (0 : Int) ≤ (i : Int) + (m : Int) := by omega
  have k10 : l.length - 1 ≤ cap := by omega
  have k11 : i + 1 ≤ cap := by omega
  have k12 : (i : Int) + 1 ≤ (l.length : Int) := by omega
  have k13 : (i : Int) + (m : Int) ≤ (cap : Int) := by omega
  have hm5 : m ≤ 5000 := by omega
  clear h hp hp' hx ht hg hcsd hlen hcs hcv hnl hm
  go_enter Try.func21, Try.ntmps21
  go_wp2_with fail
  refine (ofLine_any line _).mono ?_
  rintro e w1 ⟨rfl, rfl⟩
  go_wp2_with fail
  refine HP.out.mono ?_
  rintro e w1 ⟨rfl, hb1⟩
  simp only [oi]
  have hb2 := bbox hb1
  obtain ⟨c1, f1, c14⟩ := HR.out _ hb2
  clear hb1
  go_wp2
  go_still_tail 13, (by kernel_rfl)
  change wpList _ _ _ _ _ w1.drew
  have hgd : w1.drew.heap[g]? = some (.cells cur 34 (0, 0)) := by rw [heap_drew]; exact HG.out _ hb2
  have HGD := Lib.hid hgd
  have HC1 : Hid (∀ cs', (w1.drew.setRow g cs').cell? ⟨b, 1, none⟩ = some (.slice (some ⟨g, 0, none⟩) l.length cap) ∧ (w1.drew.setRow g cs').frozen? ⟨b, 1, none⟩ = false) := Lib.hid (fun cs' => ⟨(World.cell?_of_block (a := ⟨b, 1, none⟩) (setRow_other w1.drew g b cs' hgb)).trans c1, (World.frozen?_of_block (a := ⟨b, 1, none⟩) (setRow_other w1.drew g b cs' hgb)).trans f1⟩)
  clear hgd
  refine wpList_copy_rows (o := ⟨some 37, _, _, _, _, _⟩) rfl (.tmp 29) (.tmp 36) 48 48 rfl 34 i0 15 Try.underlying48 hi0 hz1 g (i * 15) (l.length - i) (cap - i) D (l.length - (i + 1)) (cap - (i + 1)) m rfl rfl cur 34 HGD.out cs HM.out HN.out (fun t u hu => hsrc.out _ hb2 t u hu) HF.out H1.out ?_
  obtain ⟨c2, f2⟩ := HC1.out (cur.toList.take (i * 15) ++ cs ++ cur.toList.drop (i * 15 + cs.length)).toArray
  clear c1 f1 c14
  obtain ⟨w5, hw5⟩ : ∃ w5, w5 = w1.drew.setRow g (cur.toList.take (i * 15) ++ cs ++ cur.toList.drop (i * 15 + cs.length)).toArray := ⟨_, rfl⟩
  have R : Hid (PutGave 60 34 15 mc w B b room (l.eraseIdx i) (.slice (some ⟨g, 0, none⟩) l.length cap) (w5.setCell ⟨b, 1, none⟩ (.slice (some ⟨g, 0, none⟩) (l.length - 1) cap))) := by
    rw [hw5]
    exact HE.out _ hb2
  rw [← hw5] at c2 f2 ⊢
  clear hw5 HE HC1 HGD
  go_wp2
  go_ret
  exact ⟨rfl, R.out⟩
/-- Close. -/
theorem close_any {w : World} {B b : Nat} {room : Int} {l : List Ms} {v : Value} (h : BgP w B b room l v) (line : Int) (hl : l.length ≤ 5000) :
    Calls Try.prog 21 #[.pointer (some ⟨b, 0, none⟩), .int .i64 line] w (GaveP w B b room v (closeP l line)) := by
  rcases hp : fnd l line with _ | i
  · rw [closeP_none hp]
    exact (close_none h line hl hp).mono fun e w' ⟨h1, h2⟩ => ⟨h1, gave_same h h2⟩
  · obtain ⟨x, hx, _, hi⟩ := fnd_some hp
    obtain ⟨g, cap, rfl, _⟩ := h.one hx
    rcases Bool.eq_false_or_eq_true x.os with ht | ht
    · rw [closeP_yes hp hx ht]
      exact (close_yes h line hl hp hx ht).mono fun e w' ⟨h1, h2⟩ => ⟨h1, h2⟩
    · rw [closeP_no hp hx ht]
      exact (close_no h line hl hp hx ht).mono fun e w' ⟨h1, h2⟩ => ⟨h1, gave_same h h2⟩
end Go.Proofs.Ytcfcgejeiihgnaa
