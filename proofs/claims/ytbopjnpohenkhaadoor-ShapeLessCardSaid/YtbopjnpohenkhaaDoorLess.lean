/-
  The walk of ShapeLess: whatever sizes it is given, it returns true, and writes nothing that was there.
-/
import Derived.Test.YtbopjnpohenkhaaDoorRef
import Derived.Deep.RegionHeld3
namespace Go.Proofs.YtbopjnpohenkhaaDoor
open Go Go.RowKit

/-- The sizes with less. -/
def less (c : Cfg) : Cfg := ⟨1, c.ho, c.se, 1, c.wo, c.li, 0, 1, 1, 1, 1, 1, 1⟩
theorem less_fits (c : Cfg) (h : c.fits) : (less c).fits := by
  unfold Cfg.fits at *; simp [less]; omega
theorem less_ok (c : Cfg) (h : okC c = true) : okC (less c) = true := by
  rw [okC_eq] at h ⊢
  simp at h
  simp [less, h, inB, room]
theorem less_sz (c : Cfg) (h : okC c = true) : sz (less c) = sz c := by
  unfold sz; rw [less_ok c h, h]; simp [less]

set_option maxHeartbeats 1000000 in
theorem less_no (c : Cfg) (w : World) (hT : Tab w) (h1 : 1 < w.heap.size) (hc : c.fits) (h : okC c = false) :
    Calls Tryd.prog 5 #[cv c] w fun e w' => e = .returned (.bool true) ∧ Below w.heap.size w w' := by
  have HT := Lib.hid hT
  have HC := Lib.hid hc
  have h0 := chk_no c h
  have hs : sz c = 0 := by simp [sz, h]
  clear hT hc h
  go_enter Tryd.func5, Tryd.ntmps5
  go_wp2_with (fail)
  refine (awake_any _ (HT.out.keeps h1 ((Below.refl _ _).alloc (Nat.le_refl _) _)) (by simp; omega)).mono ?_
  rintro e w1 ⟨rfl, hb1⟩
  have hcl := fun o => hb1.cell (p := ⟨w.heap.size, o, none⟩) (by simp)
  have hz1 : w.heap.size < w1.heap.size := by have := hb1.size; simp at this; omega
  go_wp2_with (fail)
  refine (check_any c _ HC.out).mono ?_
  rintro e w2 ⟨rfl, hb2⟩
  have hcl2 := fun o => hb2.cell (p := ⟨w.heap.size, o, none⟩) hz1
  have hz2 : w.heap.size < w2.heap.size := by have := hb2.size; omega
  go_wp2_with (fail)
  refine (size_any c _ HC.out).mono ?_
  rintro e w3 ⟨rfl, hb3⟩
  go_wp2
  go_ret
  exact ⟨ret_bool (by simp), ((Below.refl _ _).alloc (Nat.le_refl _) _).trans ((hb1.mono (by simp)).trans ((hb2.mono (by omega)).trans (hb3.mono (by omega))))⟩

set_option maxHeartbeats 1000000 in
theorem less_yes (c : Cfg) (w : World) (hT : Tab w) (h1 : 1 < w.heap.size) (hc : c.fits) (h : okC c = true) :
    Calls Tryd.prog 5 #[cv c] w fun e w' => e = .returned (.bool true) ∧ Below w.heap.size w w' := by
  have HT := Lib.hid hT
  have HC := Lib.hid hc
  have HD := Lib.hid (less_fits c hc)
  have h0 := chk_ok c h
  have hd0 := chk_ok _ (less_ok c h)
  have hsz := less_sz c h
  have hb := sz_bound c h
  have hm := mul_bound _ _ hb.1 hb.2
  have hs1 : 1 ≤ sz c := by simp [sz, h]; exact hm.1
  clear hT hc h hb hm
  go_enter Tryd.func5, Tryd.ntmps5
  go_wp2_with (fail)
  refine (awake_any _ (HT.out.keeps h1 ((Below.refl _ _).alloc (Nat.le_refl _) _)) (by simp; omega)).mono ?_
  rintro e w1 ⟨rfl, hb1⟩
  have hcl := fun o => hb1.cell (p := ⟨w.heap.size, o, none⟩) (by simp)
  have hz1 : w.heap.size < w1.heap.size := by have := hb1.size; simp at this; omega
  go_wp2_with (fail)
  refine (check_any c _ HC.out).mono ?_
  rintro e w2 ⟨rfl, hb2⟩
  have hcl2 := fun o => hb2.cell (p := ⟨w.heap.size, o, none⟩) hz1
  have hz2 : w.heap.size < w2.heap.size := by have := hb2.size; omega
  go_wp2_with (fail)
  have hbw : Below w.heap.size w (w2.alloc (.cells #[Value.int .i64 1, .int .i64 c.ho, .int .i64 c.se, .int .i64 1, .int .i64 c.wo, .int .i64 c.li, .int .i64 0, .int .i64 1, .int .i64 1, .int .i64 1, .int .i64 1, .int .i64 1, .int .i64 1] 24)) := ((((Below.refl _ _).alloc (Nat.le_refl _) _).trans (hb1.mono (by simp))).trans (hb2.mono (by omega))).alloc (by omega) _
  have k1 : ∀ o, (w2.alloc (.cells #[Value.int .i64 1, .int .i64 c.ho, .int .i64 c.se, .int .i64 1, .int .i64 c.wo, .int .i64 c.li, .int .i64 0, .int .i64 1, .int .i64 1, .int .i64 1, .int .i64 1, .int .i64 1, .int .i64 1] 24)).cell? ⟨w.heap.size, o, none⟩ = (#[Value.int .i64 c.co, .int .i64 c.ho, .int .i64 c.se, .int .i64 c.wa, .int .i64 c.wo, .int .i64 c.li, .int .i64 c.po, .int .i64 c.ms, .int .i64 c.bu, .int .i64 c.wb, .int .i64 c.r0, .int .i64 c.r1, .int .i64 c.r2] : Array Value)[o]? := fun o => by
    rw [Below.cell ((Below.refl w2.heap.size w2).alloc (Nat.le_refl _) _) (p := ⟨w.heap.size, o, none⟩) hz2, hcl2, hcl]
    exact World.cell?_alloc_mark w _ 24 (0, 0) o
  have k3 : ∀ o, (w2.alloc (.cells #[Value.int .i64 1, .int .i64 c.ho, .int .i64 c.se, .int .i64 1, .int .i64 c.wo, .int .i64 c.li, .int .i64 0, .int .i64 1, .int .i64 1, .int .i64 1, .int .i64 1, .int .i64 1, .int .i64 1] 24)).cell? ⟨w2.heap.size, o, none⟩ = (#[Value.int .i64 1, .int .i64 c.ho, .int .i64 c.se, .int .i64 1, .int .i64 c.wo, .int .i64 c.li, .int .i64 0, .int .i64 1, .int .i64 1, .int .i64 1, .int .i64 1, .int .i64 1, .int .i64 1] : Array Value)[o]? := fun o => World.cell?_alloc_mark w2 _ 24 (0, 0) o
  have z1 : w.heap.size < (w2.alloc (.cells #[Value.int .i64 1, .int .i64 c.ho, .int .i64 c.se, .int .i64 1, .int .i64 c.wo, .int .i64 c.li, .int .i64 0, .int .i64 1, .int .i64 1, .int .i64 1, .int .i64 1, .int .i64 1, .int .i64 1] 24)).heap.size := by simp; omega
  have z3 : w2.heap.size < (w2.alloc (.cells #[Value.int .i64 1, .int .i64 c.ho, .int .i64 c.se, .int .i64 1, .int .i64 c.wo, .int .i64 c.li, .int .i64 0, .int .i64 1, .int .i64 1, .int .i64 1, .int .i64 1, .int .i64 1, .int .i64 1] 24)).heap.size := by simp
  generalize w2.alloc (.cells #[Value.int .i64 1, .int .i64 c.ho, .int .i64 c.se, .int .i64 1, .int .i64 c.wo, .int .i64 c.li, .int .i64 0, .int .i64 1, .int .i64 1, .int .i64 1, .int .i64 1, .int .i64 1, .int .i64 1] 24) = w3 at *
  generalize w2.heap.size = B3 at *
  clear hcl hcl2 hb1 hb2 hz1 hz2
  go_region_held3 (fun w' => (∀ o, w'.cell? ⟨w.heap.size, o, none⟩ = (#[Value.int .i64 c.co, .int .i64 c.ho, .int .i64 c.se, .int .i64 c.wa, .int .i64 c.wo, .int .i64 c.li, .int .i64 c.po, .int .i64 c.ms, .int .i64 c.bu, .int .i64 c.wb, .int .i64 c.r0, .int .i64 c.r1, .int .i64 c.r2] : Array Value)[o]?) ∧ (∀ o, w'.cell? ⟨B3, o, none⟩ = (#[Value.int .i64 1, .int .i64 c.ho, .int .i64 c.se, .int .i64 1, .int .i64 c.wo, .int .i64 c.li, .int .i64 0, .int .i64 1, .int .i64 1, .int .i64 1, .int .i64 1, .int .i64 1, .int .i64 1] : Array Value)[o]?) ∧ w.heap.size < w'.heap.size ∧ B3 < w'.heap.size ∧ Below w.heap.size w w') (first | exact ⟨k1, k3, z1, z3, hbw⟩ | exact ⟨k1, k3, z1, z3, hbw.drew⟩)
    (first
      | (go_at_call 9; refine (check_any (less c) _ HD.out).mono ?_; rintro e w' ⟨rfl, hb⟩; replace hbw : Below w.heap.size w w' := (by first | exact Below.trans hbw (hb.mono (Nat.le_of_lt z1)) | exact Below.trans hbw.drew (hb.mono (Nat.le_of_lt z1))); replace k1 : ∀ o, w'.cell? ⟨w.heap.size, o, none⟩ = (#[Value.int .i64 c.co, .int .i64 c.ho, .int .i64 c.se, .int .i64 c.wa, .int .i64 c.wo, .int .i64 c.li, .int .i64 c.po, .int .i64 c.ms, .int .i64 c.bu, .int .i64 c.wb, .int .i64 c.r0, .int .i64 c.r1, .int .i64 c.r2] : Array Value)[o]? := fun o => (hb.cell (p := ⟨w.heap.size, o, none⟩) z1).trans (k1 o); replace k3 : ∀ o, w'.cell? ⟨B3, o, none⟩ = (#[Value.int .i64 1, .int .i64 c.ho, .int .i64 c.se, .int .i64 1, .int .i64 c.wo, .int .i64 c.li, .int .i64 0, .int .i64 1, .int .i64 1, .int .i64 1, .int .i64 1, .int .i64 1, .int .i64 1] : Array Value)[o]? := fun o => (hb.cell (p := ⟨B3, o, none⟩) z3).trans (k3 o); replace z1 : w.heap.size < w'.heap.size := Nat.lt_of_lt_of_le z1 hb.size; replace z3 : B3 < w'.heap.size := Nat.lt_of_lt_of_le z3 hb.size; clear hb)
      | (go_at_call_of 13 (Value.agg #[Value.int .i64 1, .int .i64 c.ho, .int .i64 c.se, .int .i64 1, .int .i64 c.wo, .int .i64 c.li, .int .i64 0, .int .i64 1, .int .i64 1, .int .i64 1, .int .i64 1, .int .i64 1, .int .i64 1]); refine (size_any (less c) _ HD.out).mono ?_; rintro e w' ⟨rfl, hb⟩; replace hbw : Below w.heap.size w w' := (by first | exact Below.trans hbw (hb.mono (Nat.le_of_lt z1)) | exact Below.trans hbw.drew (hb.mono (Nat.le_of_lt z1))); replace k1 : ∀ o, w'.cell? ⟨w.heap.size, o, none⟩ = (#[Value.int .i64 c.co, .int .i64 c.ho, .int .i64 c.se, .int .i64 c.wa, .int .i64 c.wo, .int .i64 c.li, .int .i64 c.po, .int .i64 c.ms, .int .i64 c.bu, .int .i64 c.wb, .int .i64 c.r0, .int .i64 c.r1, .int .i64 c.r2] : Array Value)[o]? := fun o => (hb.cell (p := ⟨w.heap.size, o, none⟩) z1).trans (k1 o); replace k3 : ∀ o, w'.cell? ⟨B3, o, none⟩ = (#[Value.int .i64 1, .int .i64 c.ho, .int .i64 c.se, .int .i64 1, .int .i64 c.wo, .int .i64 c.li, .int .i64 0, .int .i64 1, .int .i64 1, .int .i64 1, .int .i64 1, .int .i64 1, .int .i64 1] : Array Value)[o]? := fun o => (hb.cell (p := ⟨B3, o, none⟩) z3).trans (k3 o); replace z1 : w.heap.size < w'.heap.size := Nat.lt_of_lt_of_le z1 hb.size; replace z3 : B3 < w'.heap.size := Nat.lt_of_lt_of_le z3 hb.size; clear hb)
      | (go_at_call_of 13 (Value.agg #[Value.int .i64 c.co, .int .i64 c.ho, .int .i64 c.se, .int .i64 c.wa, .int .i64 c.wo, .int .i64 c.li, .int .i64 c.po, .int .i64 c.ms, .int .i64 c.bu, .int .i64 c.wb, .int .i64 c.r0, .int .i64 c.r1, .int .i64 c.r2]); refine (size_any c _ HC.out).mono ?_; rintro e w' ⟨rfl, hb⟩; replace hbw : Below w.heap.size w w' := (by first | exact Below.trans hbw (hb.mono (Nat.le_of_lt z1)) | exact Below.trans hbw.drew (hb.mono (Nat.le_of_lt z1))); replace k1 : ∀ o, w'.cell? ⟨w.heap.size, o, none⟩ = (#[Value.int .i64 c.co, .int .i64 c.ho, .int .i64 c.se, .int .i64 c.wa, .int .i64 c.wo, .int .i64 c.li, .int .i64 c.po, .int .i64 c.ms, .int .i64 c.bu, .int .i64 c.wb, .int .i64 c.r0, .int .i64 c.r1, .int .i64 c.r2] : Array Value)[o]? := fun o => (hb.cell (p := ⟨w.heap.size, o, none⟩) z1).trans (k1 o); replace k3 : ∀ o, w'.cell? ⟨B3, o, none⟩ = (#[Value.int .i64 1, .int .i64 c.ho, .int .i64 c.se, .int .i64 1, .int .i64 c.wo, .int .i64 c.li, .int .i64 0, .int .i64 1, .int .i64 1, .int .i64 1, .int .i64 1, .int .i64 1, .int .i64 1] : Array Value)[o]? := fun o => (hb.cell (p := ⟨B3, o, none⟩) z3).trans (k3 o); replace z1 : w.heap.size < w'.heap.size := Nat.lt_of_lt_of_le z1 hb.size; replace z3 : B3 < w'.heap.size := Nat.lt_of_lt_of_le z3 hb.size; clear hb))
  go_wp2
  go_ret
  exact ⟨rfl, hbw⟩

theorem less_any (c : Cfg) (w : World) (hT : Tab w) (h1 : 1 < w.heap.size) (hc : c.fits) :
    Calls Tryd.prog 5 #[cv c] w fun e w' => e = .returned (.bool true) ∧ Below w.heap.size w w' := by
  rcases Bool.eq_false_or_eq_true (okC c) with h | h
  · exact less_yes c w hT h1 hc h
  · exact less_no c w hT h1 hc h

end Go.Proofs.YtbopjnpohenkhaaDoor
