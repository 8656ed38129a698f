/-
  The document's array, further: Free.
-/
import Derived.Test.YtldbepaclddgmaaDoorArU
import Derived.Deep.RegionHeld3
namespace Go.Proofs.YtldbepaclddgmaaDoor
open Go Go.RowKit Go.Sort

theorem wrap_nat (n : Nat) (h : n ≤ 512) : wrap64 (n : Int) = n := wrap_small _ (by omega) (by omega)
structure RdS (w : World) (b g n i W : Nat) (c : Cfg) (x : Wy) : Prop where
  h2 : w.cell? ⟨b, 2, none⟩ = some (.int .i64 c.se)
  h3 : w.cell? ⟨b, 3, none⟩ = some (.int .i64 (W : Int))
  h13 : w.cell? ⟨b, 13, none⟩ = some (.slice (some ⟨g, 0, none⟩) n n)
  hr : w.rangeAt g (i * 11) (yc x)
theorem RdS.all {w' : World} {b g n i W : Nat} {c : Cfg} {x : Wy} (h : RdS w' b g n i W c x) : w'.cell? ⟨b, 2, none⟩ = some (.int .i64 c.se) ∧ w'.cell? ⟨b, 3, none⟩ = some (.int .i64 (W : Int)) ∧ w'.cell? ⟨b, 13, none⟩ = some (.slice (some ⟨g, 0, none⟩) n n) ∧ w'.cell? ⟨g, i * 11, none⟩ = some (.int .i64 x.st) ∧ w'.cell? ⟨g, i * 11 + 1, none⟩ = some (.int .i64 x.ln) ∧ w'.cell? ⟨g, i * 11 + 2, none⟩ = some (.int .i64 x.wd.w0) ∧ w'.cell? ⟨g, i * 11 + 3, none⟩ = some (.int .i64 x.wd.w1) ∧ w'.cell? ⟨g, i * 11 + 4, none⟩ = some (.int .i64 x.wd.w2) ∧ w'.cell? ⟨g, i * 11 + 5, none⟩ = some (.int .i64 x.wd.w3) ∧ w'.cell? ⟨g, i * 11 + 6, none⟩ = some (.int .i64 x.wd.w4) ∧ w'.cell? ⟨g, i * 11 + 7, none⟩ = some (.int .i64 x.wd.w5) ∧ w'.cell? ⟨g, i * 11 + 8, none⟩ = some (.int .i64 x.wd.w6) ∧ w'.cell? ⟨g, i * 11 + 9, none⟩ = some (.int .i64 x.wd.w7) ∧ w'.cell? ⟨g, i * 11 + 10, none⟩ = some (.bool x.lk) :=
  ⟨h.h2, h.h3, h.h13, h.hr 0 _ rfl, h.hr 1 _ rfl, h.hr 2 _ rfl, h.hr 3 _ rfl, h.hr 4 _ rfl, h.hr 5 _ rfl, h.hr 6 _ rfl, h.hr 7 _ rfl, h.hr 8 _ rfl, h.hr 9 _ rfl, h.hr 10 _ rfl⟩

set_option maxHeartbeats 2000000 in
theorem refFree_any {w : World} {b g : Nat} {c : Cfg} {L : List Wy} (h : Ar w b g c L) (line : Int) :
    Calls Tryd.prog 16 #[.pointer (some ⟨b, 0, none⟩), .int .i64 line] w fun e w' => e = .returned (.int .i64 (oi (fre c L line))) ∧ Below w.heap.size w w' := by
  have hw := ok_ways h.sz.ok
  have hok := h.sz.ok
  rcases Bool.eq_false_or_eq_true (lnOk c line) with hl | hl
  · obtain ⟨-, k1, k2⟩ := ok_of_lnOk hl
    have hf : fre c L line = (pt c L line).findIdx? (fun x => !tk x) := by unfold fre; rw [if_pos hl]
    rw [hf]
    have h5 := h.hd 5
    simp at h5
    have hse : 1 ≤ c.se ∧ c.se ≤ 64 := by omega
    have hln : line ≤ 1024 := by omega
    have hne : (c.se == 0) = false := by simp; omega
    have HW : Hid (∀ (wr : World), Below w.heap.size w wr → ∀ k : Nat, (k : Int) < c.wa → ∃ x, (pt c L line)[k]? = some x ∧ (∀ o, (wr.alloc o).rangeAt g ((soN c line + k) * 11) (yc x)) ∧ wr.rangeAt g ((soN c line + k) * 11) (yc x) ∧ soN c line + k < L.length) := Lib.hid (fun wr hb k hk => by
      obtain ⟨x, hx⟩ := h.sz.at_some (line := line) (j := k) (by omega)
      have hp := h.sz.pt_at line k (by omega)
      refine ⟨x, by rw [hp, hx], fun o => ?_, ?_, (List.getElem?_eq_some_iff.1 hx).1⟩
      · have := (h.below (hb.alloc hb.size o)).ways _ x hx
        rwa [Nat.zero_add] at this
      · have := (h.below hb).ways _ x hx
        rwa [Nat.zero_add] at this)
    have HH : Hid (∀ (wr : World), Below w.heap.size w wr → wr.cell? ⟨b, 2, none⟩ = some (.int .i64 c.se) ∧ wr.cell? ⟨b, 3, none⟩ = some (.int .i64 c.wa) ∧ wr.cell? ⟨b, 13, none⟩ = some (.slice (some ⟨g, 0, none⟩) L.length L.length)) := Lib.hid (fun wr hb => by
      have h2 := (h.below hb).hd 2
      have h3 := (h.below hb).hd 3
      have h13 := (h.below hb).hd 13
      simp at h2 h3 h13
      exact ⟨h2, h3, h13⟩)
    have HM : Hid (∀ m : Nat, (m : Int) < c.wa → line % c.se * c.wa = (soN c line : Int) ∧ wrap64 (wrap64 (soN c line : Int) + m) = (soN c line + m : Nat)) := Lib.hid (fun m hm => lay_math hok line hm)
    have hlen := h.sz.pt_len line
    have hn512 : L.length ≤ 512 := by
      have := Nat.mul_le_mul (show c.se.toNat ≤ 64 by omega) (show c.wa.toNat ≤ 8 by omega)
      rw [h.sz.len]
      omega
    generalize soN c line = so at *
    generalize pt c L line = l at *
    generalize L.length = n at *
    obtain ⟨W, hW⟩ : ∃ W : Nat, c.wa = W := ⟨c.wa.toNat, by omega⟩
    have hWl : l.length = W := by omega
    have HWW := Lib.hid hW
    have hW8 : W ≤ 8 := by omega
    have hbl := h.bl
    have hgl := h.gl
    clear h hl hf hw hok hlen hW
    go_enter Tryd.func16, Tryd.ntmps16
    go_wp2
    go_loopw [5] (fun i wr => ∃ k : Nat, k ≤ W ∧ i = .int .i64 k ∧ Hid (∀ (j : Nat) (x : Wy), j < k → l[j]? = some x → (!tk x) = false) ∧ Below w.heap.size w wr) (fun i _ => W - (intOf i).toNat)
    case atStart => exact ⟨0, by omega, rfl, Lib.hid (fun j x hj => by omega), Below.refl _ _⟩
    case round =>
      obtain ⟨k, hk, rfl, HJ, hb⟩ := hrel
      obtain ⟨h2, h3, h13⟩ := HH.out wr hb
      rw [HWW.out] at h3
      by_cases hlt : k < W
      · obtain ⟨x, hx, hr', hr, hi⟩ := HW.out wr hb k (by have := HWW.out; omega)
        obtain ⟨e1, e2⟩ := HM.out k (by have := HWW.out; omega)
        rw [HWW.out] at e1
        have ew1 : wrap64 (so : Int) = so := wrap_nat so (Nat.le_trans (Nat.le_add_right so k) (Nat.le_trans (Nat.le_of_lt hi) hn512))
        rw [ew1] at e2
        obtain ⟨i, hii⟩ : ∃ i, so + k = i := ⟨_, rfl⟩
        rw [hii] at e2 hr' hr hi
        clear hii
        have h2' := fun o => Lib.cell?_alloc_some o h2
        have h3' := fun o => Lib.cell?_alloc_some o h3
        have h13' := fun o => Lib.cell?_alloc_some o h13
        have HS1 : Hid (RdS wr b g n i W c x) := Lib.hid ⟨h2, h3, h13, hr⟩
        have HS2 : Hid (∀ o, RdS (wr.alloc o) b g n i W c x) := Lib.hid (fun o => ⟨h2' o, h3' o, h13' o, hr' o⟩)
        have HX := Lib.hid hx
        clear hr hr' hx h2 h3 h13 h2' h3' h13'
        obtain ⟨h2, h3, h13, hr⟩ := HS1.out
        have q0 := hr 0 _ rfl
        rw [Nat.add_zero] at q0
        have q1 := hr 1 _ rfl
        have q2 := hr 2 _ rfl
        have q3 := hr 3 _ rfl
        have q4 := hr 4 _ rfl
        have q5 := hr 5 _ rfl
        have q6 := hr 6 _ rfl
        have q7 := hr 7 _ rfl
        have q8 := hr 8 _ rfl
        have q9 := hr 9 _ rfl
        have q10 := hr 10 _ rfl
        clear hr
        go_wp2
        have p0 := fun o => (HS2.out o).hr 0 _ rfl
        simp only [Nat.add_zero] at p0
        have p1 := fun o => (HS2.out o).hr 1 _ rfl
        have p2 := fun o => (HS2.out o).hr 2 _ rfl
        have p3 := fun o => (HS2.out o).hr 3 _ rfl
        have p4 := fun o => (HS2.out o).hr 4 _ rfl
        have p5 := fun o => (HS2.out o).hr 5 _ rfl
        have p6 := fun o => (HS2.out o).hr 6 _ rfl
        have p7 := fun o => (HS2.out o).hr 7 _ rfl
        have p8 := fun o => (HS2.out o).hr 8 _ rfl
        have p9 := fun o => (HS2.out o).hr 9 _ rfl
        have p10 := fun o => (HS2.out o).hr 10 _ rfl
        have h2' := fun o => (HS2.out o).h2
        have h3' := fun o => (HS2.out o).h3
        have h13' := fun o => (HS2.out o).h13
        go_region
        clear p0 p1 p2 p3 p4 p5 p6 p7 p8 p9 p10 q0 q1 q2 q3 q4 q5 q6 q7 q8 q9 q10 h2' h3' h13' h2 h3 h13 HS1 HS2 e1 ew1 e2
        have HB : Hid (Below w.heap.size w (wr.alloc (.cells (ycells x) 46)).drew) := Lib.hid (below_drewN (hb.alloc hb.size _) 1)
        have hcb : ∀ o, ((wr.alloc (.cells (ycells x) 46)).drew).cell? ⟨wr.heap.size, o, none⟩ = (ycells x)[o]? := fun o => World.cell?_alloc_mark wr _ 46 (0, 0) o
        generalize (wr.alloc (.cells (ycells x) 46)).drew = w2 at *
        rcases Bool.eq_false_or_eq_true (tk x) with ht | ht
        · have HK : Hid (∀ (j : Nat) (y : Wy), j < k + 1 → l[j]? = some y → (!tk y) = false) := Lib.hid (fun j y hj hy => by
            by_cases e : j = k
            · subst e
              obtain rfl : x = y := Option.some.inj (HX.out.symm.trans hy)
              rw [ht]
              rfl
            · exact HJ.out j y (by omega) hy)
          have hs : (x.st == 0) = false ∨ (x.st == 0) = true ∧ x.lk = true := by
            unfold tk at ht
            rcases Bool.eq_false_or_eq_true (x.st == 0) with hs | hs
            · refine .inr ⟨hs, ?_⟩
              simp at hs
              simpa [hs] using ht
            · exact .inl hs
          clear ht hi
          rcases hs with hs | ⟨hs, hs2⟩
          all_goals
            go_wp2
            go_roundw
            case rel => exact ⟨k + 1, by omega, by go_num, HK, HB.out⟩
            case measure => simp [intOf]; omega
        · have HF : Hid (oi (l.findIdx? (fun x => !tk x)) = k) := Lib.hid (by rw [find_some HX.out (by rw [ht]; rfl) HJ.out]; rfl)
          have hs : (x.st == 0) = true ∧ x.lk = false := by
            unfold tk at ht
            simp at ht
            simpa using ht
          obtain ⟨hs, hs2⟩ := hs
          clear ht hi
          go_wp2
          go_ret
          exact ⟨ret_int HF.out.symm, HB.out⟩
      · have HK : Hid (oi (l.findIdx? (fun x => !tk x)) = -1) := Lib.hid (by rw [find_none (fun j x hx => HJ.out j x (by have := (List.getElem?_eq_some_iff.1 hx).1; omega) hx)]; rfl)
        go_wp2
        go_ret
        exact ⟨ret_int HK.out.symm, hb⟩
  · have hf : fre c L line = none := by unfold fre; rw [if_neg (by rw [hl]; decide)]
    rw [hf]
    have hcase : line < 0 ∨ (¬ line < 0 ∧ c.li ≤ line) := by
      unfold lnOk inR at hl
      simp [hok] at hl
      omega
    have h5 := h.hd 5
    simp at h5
    clear h hok hl hf hw
    rcases hcase with k1 | ⟨k1, k2⟩
    all_goals
      go_enter Tryd.func16, Tryd.ntmps16
      go_wp2
      go_ret
      exact ⟨rfl, Below.refl _ _⟩

end Go.Proofs.YtldbepaclddgmaaDoor
