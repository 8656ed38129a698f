/-
  The walk of ShapeTells: whatever sizes and number it is given, it returns true, and writes nothing that was there.
-/
import Derived.Test.YtbopjnpohenkhaaDoorRef
import Derived.Deep.RegionHeld3
namespace Go.Proofs.YtbopjnpohenkhaaDoor
open Go Go.RowKit

set_option maxHeartbeats 2000000 in
theorem tells_any (c : Cfg) (n : Int) (w : World) (hT : Tab w) (h1 : 1 < w.heap.size) (hc : c.fits) (hn : -9223372036854775808 ≤ n ∧ n ≤ 9223372036854775807) :
    Calls Tryd.prog 3 #[cv c, .int .i64 n] w fun e w' => e = .returned (.bool true) ∧ Below w.heap.size w w' := by
  have HT := Lib.hid hT
  have HC := Lib.hid hc
  clear hT hc
  obtain ⟨hn0, hn1⟩ := hn
  go_enter Tryd.func3, Tryd.ntmps3
  go_wp2_with (fail)
  refine (awake_any _ (HT.out.keeps h1 ((Below.refl _ _).alloc (Nat.le_refl _) _)) (by simp; omega)).mono ?_
  rintro e w1 ⟨rfl, hb1⟩
  have hz1 : w.heap.size < w1.heap.size := by have := hb1.size; simp at this; omega
  have hbw : Below w.heap.size w w1 := ((Below.refl _ _).alloc (Nat.le_refl _) _).trans (hb1.mono (by simp))
  have HT1 := Lib.hid (HT.out.keeps h1 hbw)
  go_wp2_with (first
    | (go_at_call 7; refine (power_any _ _ hn1 HT1.out).mono ?_; rintro e w' ⟨rfl, rfl⟩)
    | (go_at_call 8; refine (refPower_any _ _).mono ?_; rintro e w' ⟨rfl, rfl⟩))
  have k1 : ∀ o, w1.cell? ⟨w.heap.size, o, none⟩ = (#[Value.int .i64 c.co, .int .i64 c.ho, .int .i64 c.se, .int .i64 c.wa, .int .i64 c.wo, .int .i64 c.li, .int .i64 c.po, .int .i64 c.ms, .int .i64 c.bu, .int .i64 c.wb, .int .i64 c.r0, .int .i64 c.r1, .int .i64 c.r2] : Array Value)[o]? := fun o => by
    rw [hb1.cell (p := ⟨w.heap.size, o, none⟩) (by simp)]
    exact World.cell?_alloc_mark w _ 24 (0, 0) o
  have z1 := hz1
  clear hb1 hz1
  go_region_held3 (fun w' => (∀ o, w'.cell? ⟨w.heap.size, o, none⟩ = (#[Value.int .i64 c.co, .int .i64 c.ho, .int .i64 c.se, .int .i64 c.wa, .int .i64 c.wo, .int .i64 c.li, .int .i64 c.po, .int .i64 c.ms, .int .i64 c.bu, .int .i64 c.wb, .int .i64 c.r0, .int .i64 c.r1, .int .i64 c.r2] : Array Value)[o]?) ∧ w.heap.size < w'.heap.size ∧ Below w.heap.size w w') (first | exact ⟨k1, z1, hbw⟩ | exact ⟨k1, z1, hbw.drew⟩)
    (first
      | (go_at_call 9; refine (check_any c _ HC.out).mono ?_; rintro e w' ⟨rfl, hb⟩; replace hbw : Below w.heap.size w w' := (by first | exact Below.trans hbw (hb.mono (Nat.le_of_lt z1)) | exact Below.trans hbw.drew (hb.mono (Nat.le_of_lt z1))); replace k1 : ∀ o, w'.cell? ⟨w.heap.size, o, none⟩ = (#[Value.int .i64 c.co, .int .i64 c.ho, .int .i64 c.se, .int .i64 c.wa, .int .i64 c.wo, .int .i64 c.li, .int .i64 c.po, .int .i64 c.ms, .int .i64 c.bu, .int .i64 c.wb, .int .i64 c.r0, .int .i64 c.r1, .int .i64 c.r2] : Array Value)[o]? := fun o => (hb.cell (p := ⟨w.heap.size, o, none⟩) z1).trans (k1 o); replace z1 : w.heap.size < w'.heap.size := Nat.lt_of_lt_of_le z1 hb.size; clear hb)
      | (go_at_call 10; refine (refCheck_any c _).mono ?_; rintro e w' ⟨rfl, hb⟩; replace hbw : Below w.heap.size w w' := (by first | exact Below.trans hbw (hb.mono (Nat.le_of_lt z1)) | exact Below.trans hbw.drew (hb.mono (Nat.le_of_lt z1))); replace k1 : ∀ o, w'.cell? ⟨w.heap.size, o, none⟩ = (#[Value.int .i64 c.co, .int .i64 c.ho, .int .i64 c.se, .int .i64 c.wa, .int .i64 c.wo, .int .i64 c.li, .int .i64 c.po, .int .i64 c.ms, .int .i64 c.bu, .int .i64 c.wb, .int .i64 c.r0, .int .i64 c.r1, .int .i64 c.r2] : Array Value)[o]? := fun o => (hb.cell (p := ⟨w.heap.size, o, none⟩) z1).trans (k1 o); replace z1 : w.heap.size < w'.heap.size := Nat.lt_of_lt_of_le z1 hb.size; clear hb)
      | (go_at_call 11; refine (least_any n _ hn0 hn1).mono ?_; rintro e w' ⟨rfl, rfl⟩)
      | (go_at_call 12; refine (refLeast_any n _ hn0 hn1).mono ?_; rintro e w' ⟨rfl, rfl⟩)
      | (go_at_call 13; refine (size_any c _ HC.out).mono ?_; rintro e w' ⟨rfl, hb⟩; replace hbw : Below w.heap.size w w' := (by first | exact Below.trans hbw (hb.mono (Nat.le_of_lt z1)) | exact Below.trans hbw.drew (hb.mono (Nat.le_of_lt z1))); replace k1 : ∀ o, w'.cell? ⟨w.heap.size, o, none⟩ = (#[Value.int .i64 c.co, .int .i64 c.ho, .int .i64 c.se, .int .i64 c.wa, .int .i64 c.wo, .int .i64 c.li, .int .i64 c.po, .int .i64 c.ms, .int .i64 c.bu, .int .i64 c.wb, .int .i64 c.r0, .int .i64 c.r1, .int .i64 c.r2] : Array Value)[o]? := fun o => (hb.cell (p := ⟨w.heap.size, o, none⟩) z1).trans (k1 o); replace z1 : w.heap.size < w'.heap.size := Nat.lt_of_lt_of_le z1 hb.size; clear hb)
      | (go_at_call 14; refine (refSize_any c _).mono ?_; rintro e w' ⟨rfl, hb⟩; replace hbw : Below w.heap.size w w' := (by first | exact Below.trans hbw (hb.mono (Nat.le_of_lt z1)) | exact Below.trans hbw.drew (hb.mono (Nat.le_of_lt z1))); replace k1 : ∀ o, w'.cell? ⟨w.heap.size, o, none⟩ = (#[Value.int .i64 c.co, .int .i64 c.ho, .int .i64 c.se, .int .i64 c.wa, .int .i64 c.wo, .int .i64 c.li, .int .i64 c.po, .int .i64 c.ms, .int .i64 c.bu, .int .i64 c.wb, .int .i64 c.r0, .int .i64 c.r1, .int .i64 c.r2] : Array Value)[o]? := fun o => (hb.cell (p := ⟨w.heap.size, o, none⟩) z1).trans (k1 o); replace z1 : w.heap.size < w'.heap.size := Nat.lt_of_lt_of_le z1 hb.size; clear hb))
  go_wp2
  go_ret
  exact ⟨rfl, hbw⟩

end Go.Proofs.YtbopjnpohenkhaaDoor
