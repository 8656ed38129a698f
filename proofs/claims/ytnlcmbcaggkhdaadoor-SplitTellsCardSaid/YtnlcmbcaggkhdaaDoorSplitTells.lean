/-
  The walk of SplitTells: whatever sizes and numbers it is given, it returns true, and writes nothing that was there.
-/
import Derived.Test.YtnlcmbcaggkhdaaDoorSplitW
import Derived.Deep.RegionHeld3
namespace Go.Proofs.YtnlcmbcaggkhdaaDoor
open Go Go.RowKit

theorem Row.drew {w : World} {B : Nat} {v : Value} {xs : List Int} (h : Row w B v xs) : Row w.drew B v xs := h
theorem Tb.drew {w : World} (h : Tb w) : Tb w.drew := h

set_option maxRecDepth 100000 in
set_option maxHeartbeats 4000000 in
theorem splitTells_any (c : Cfg) (a b : Int) (w : World) (hT : Tb w) (hc : c.fits) :
    Calls Tryd.prog 3 #[cv c, .int .i64 a, .int .i64 b] w fun e w' => e = .returned (.bool true) ∧ Below w.heap.size w w' := by
  have HT := Lib.hid hT
  have HC := Lib.hid hc
  clear hT hc
  have K0 := Kp.box w #[Value.int .i64 c.co, .int .i64 c.ho, .int .i64 c.se, .int .i64 c.wa, .int .i64 c.wo, .int .i64 c.li, .int .i64 c.po, .int .i64 c.ms, .int .i64 c.bu, .int .i64 c.wb, .int .i64 c.r0, .int .i64 c.r1, .int .i64 c.r2] 24
  go_enter Tryd.func3, Tryd.ntmps3
  go_wp2_with (fail)
  refine (awake2_any _ (HT.out.keeps K0.2.2)).mono ?_
  rintro e w1 ⟨rfl, hb1⟩
  have K1 := K0.step hb1
  have hc1 := K1.1
  clear hb1 K0
  go_wp2_with (fail)
  refine (addr_any c _ _ HC.out (HT.out.keeps K1.2.2)).mono ?_
  rintro e w2 ⟨rfl, hb2⟩
  have K2 := K1.step hb2
  have hc2 := K2.1
  clear hb2 hc1
  go_wp2_with (fail)
  refine (refAddr_any c _ _).mono ?_
  rintro e w3 ⟨rfl, hb3⟩
  have K3 := K2.step hb3
  have hc3 := K3.1
  clear hb3 hc2
  go_wp2_with (fail)
  refine (line_any c _ _ HC.out (HT.out.keeps K3.2.2)).mono ?_
  rintro e w4 ⟨rfl, hb4⟩
  have K4 := K3.step hb4
  have hc4 := K4.1
  clear hb4 hc3
  go_wp2_with (fail)
  refine (refLine_any c _ _).mono ?_
  rintro e w5 ⟨rfl, hb5⟩
  have K5 := K4.step hb5
  have hc5 := K5.1
  clear hb5 hc4
  go_wp2_with (fail)
  refine (joinS_any c _ _ _ HC.out (HT.out.keeps K5.2.2)).mono ?_
  rintro e w6 ⟨rfl, hb6⟩
  have K6 := K5.step hb6
  have hc6 := K6.1
  clear hb6 hc5
  go_wp2_with (fail)
  refine (refJoin_any c _ _ _).mono ?_
  rintro e w7 ⟨rfl, hb7⟩
  have K7 := K6.step hb7
  have hc7 := K7.1
  clear hb7 hc6
  go_wp2_with (fail)
  refine (tagged_any c _ _ _ HC.out (HT.out.keeps K7.2.2)).mono ?_
  rintro e w8 ⟨rfl, hb8⟩
  have K8 := K7.step hb8
  have hc8 := K8.1
  clear hb8 hc7
  go_wp2_with (fail)
  refine (refTagged_any c _ _ _).mono ?_
  rintro e w9 ⟨rfl, hb9⟩
  have K9 := K8.step hb9
  have hc9 := K9.1
  clear hb9 hc8
  go_wp2_with (fail)
  have k1 := hc9
  have z1 := K9.2.1
  have hbw := K9.2.2
  clear hc9 K1 K2 K3 K4 K5 K6 K7 K8 K9
  go_region_held3 (fun w' => (∀ o, w'.cell? ⟨w.heap.size, o, none⟩ = (#[Value.int .i64 c.co, .int .i64 c.ho, .int .i64 c.se, .int .i64 c.wa, .int .i64 c.wo, .int .i64 c.li, .int .i64 c.po, .int .i64 c.ms, .int .i64 c.bu, .int .i64 c.wb, .int .i64 c.r0, .int .i64 c.r1, .int .i64 c.r2] : Array Value)[o]?) ∧ w.heap.size < w'.heap.size ∧ Below w.heap.size w w') (first | exact ⟨k1, z1, hbw⟩ | exact ⟨k1, z1, hbw.drew⟩)
    (first
      | (go_at_call 16; refine (lines_any c a _ HC.out (by first | exact HT.out.keeps hbw | exact (HT.out.keeps hbw).drew)).mono ?_; rintro e w' ⟨vA, rfl, hrA, hb⟩; replace hbw : Below w.heap.size w w' := (by first | exact Below.trans hbw (hb.mono (Nat.le_of_lt z1)) | exact Below.trans hbw.drew (hb.mono (Nat.le_of_lt z1))); replace k1 : ∀ o, w'.cell? ⟨w.heap.size, o, none⟩ = (#[Value.int .i64 c.co, .int .i64 c.ho, .int .i64 c.se, .int .i64 c.wa, .int .i64 c.wo, .int .i64 c.li, .int .i64 c.po, .int .i64 c.ms, .int .i64 c.bu, .int .i64 c.wb, .int .i64 c.r0, .int .i64 c.r1, .int .i64 c.r2] : Array Value)[o]? := fun o => (hb.cell (p := ⟨w.heap.size, o, none⟩) z1).trans (k1 o); replace z1 : w.heap.size < w'.heap.size := Nat.lt_of_lt_of_le z1 hb.size; (try replace hrB := hrB.step hb); (try replace hrB := hrB.drew.step hb); clear hb)
      | (go_at_call 17; refine (refLines_any c a _).mono ?_; rintro e w' ⟨vB, rfl, hrB, hb⟩; replace hbw : Below w.heap.size w w' := (by first | exact Below.trans hbw (hb.mono (Nat.le_of_lt z1)) | exact Below.trans hbw.drew (hb.mono (Nat.le_of_lt z1))); replace k1 : ∀ o, w'.cell? ⟨w.heap.size, o, none⟩ = (#[Value.int .i64 c.co, .int .i64 c.ho, .int .i64 c.se, .int .i64 c.wa, .int .i64 c.wo, .int .i64 c.li, .int .i64 c.po, .int .i64 c.ms, .int .i64 c.bu, .int .i64 c.wb, .int .i64 c.r0, .int .i64 c.r1, .int .i64 c.r2] : Array Value)[o]? := fun o => (hb.cell (p := ⟨w.heap.size, o, none⟩) z1).trans (k1 o); replace z1 : w.heap.size < w'.heap.size := Nat.lt_of_lt_of_le z1 hb.size; (try replace hrA := hrA.step hb); (try replace hrA := hrA.drew.step hb); clear hb)
      | (go_at_call 15; refine (same_any (lns c a) _ _ _ (lns_le c a) (by first | exact hrA | exact hrA.drew) (by first | exact hrB | exact hrB.drew)).mono ?_; rintro e w' ⟨rfl, hb⟩; replace hbw : Below w.heap.size w w' := (by first | exact Below.trans hbw (hb.mono (Nat.le_of_lt z1)) | exact Below.trans hbw.drew (hb.mono (Nat.le_of_lt z1))); replace k1 : ∀ o, w'.cell? ⟨w.heap.size, o, none⟩ = (#[Value.int .i64 c.co, .int .i64 c.ho, .int .i64 c.se, .int .i64 c.wa, .int .i64 c.wo, .int .i64 c.li, .int .i64 c.po, .int .i64 c.ms, .int .i64 c.bu, .int .i64 c.wb, .int .i64 c.r0, .int .i64 c.r1, .int .i64 c.r2] : Array Value)[o]? := fun o => (hb.cell (p := ⟨w.heap.size, o, none⟩) z1).trans (k1 o); replace z1 : w.heap.size < w'.heap.size := Nat.lt_of_lt_of_le z1 hb.size; clear hb))
  all_goals (try go_wp2)
  all_goals go_ret
  all_goals exact ⟨rfl, hbw⟩

end Go.Proofs.YtnlcmbcaggkhdaaDoor
