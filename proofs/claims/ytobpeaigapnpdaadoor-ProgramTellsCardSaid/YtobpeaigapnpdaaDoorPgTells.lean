/-
  The walk of ProgramTells: whatever sizes, program and operation it is given, it returns true, and writes nothing that was there.
-/
import Derived.Test.YtobpeaigapnpdaaDoorPgZ
namespace Go.Proofs.YtobpeaigapnpdaaDoor
open Go Go.RowKit
attribute [local go_sem ↓] Go.wp_at_zero Go.wp_at_succ

theorem Cl.drew {w : World} {H : Nat} {L : Array Value} (h : Cl w H L) : Cl w.drew H L := h
theorem OpsAt.drew {w : World} {v : Value} {l : List Op} (h : OpsAt w v l) : OpsAt w.drew v l := h

/-- What stands through the law's last statement. -/
structure Tl (w : World) (c : Cfg) (x : Op) (v : Value) (l : List Op) (w' : World) : Prop where
  conf : Cl w' w.heap.size #[Value.int .i64 c.co, .int .i64 c.ho, .int .i64 c.se, .int .i64 c.wa, .int .i64 c.wo, .int .i64 c.li, .int .i64 c.po, .int .i64 c.ms, .int .i64 c.bu, .int .i64 c.wb, .int .i64 c.r0, .int .i64 c.r1, .int .i64 c.r2]
  op : Cl w' (w.heap.size + 1) #[Value.int .i64 x.k, .int .i64 x.a, .int .i64 x.v]
  ops : OpsAt w' v l
  below : Below w.heap.size w w'
theorem Tl.step {w : World} {c : Cfg} {x : Op} {v : Value} {l : List Op} {w1 w2 : World} (h : Tl w c x v l w1) (hb : Below w1.heap.size w1 w2) : Tl w c x v l w2 := ⟨h.conf.step hb, h.op.step hb, h.ops.step hb, bstep h.below hb⟩
theorem Tl.drew {w : World} {c : Cfg} {x : Op} {v : Value} {l : List Op} {w1 : World} (h : Tl w c x v l w1) : Tl w c x v l w1.drew := ⟨h.conf.drew, h.op.drew, h.ops.drew, h.below.drew⟩

set_option maxRecDepth 100000 in
set_option maxHeartbeats 8000000 in
theorem tells_some (c : Cfg) (l : List Op) (v : Value) (x : Op) (w : World) (hT : Pow w.heap.size w) (hc : c.fits) (hv : OpsAt w v l) (hl : l.length ≤ 200) :
    Calls Tryd.prog 4 #[cv c, v, ov x] w fun e w' => e = .returned (.bool true) ∧ Below w.heap.size w w' := by
  have HT := Lib.hid hT
  have HC := Lib.hid hc
  have L0 : Hid (Tl w c x v l ((w.alloc (.cells #[Value.int .i64 c.co, .int .i64 c.ho, .int .i64 c.se, .int .i64 c.wa, .int .i64 c.wo, .int .i64 c.li, .int .i64 c.po, .int .i64 c.ms, .int .i64 c.bu, .int .i64 c.wb, .int .i64 c.r0, .int .i64 c.r1, .int .i64 c.r2] 31)).alloc (.cells #[Value.int .i64 x.k, .int .i64 x.a, .int .i64 x.v] 33))) := Lib.hid ⟨(Cl.new w _ _).alloc _, by have := Cl.new (w.alloc (.cells #[Value.int .i64 c.co, .int .i64 c.ho, .int .i64 c.se, .int .i64 c.wa, .int .i64 c.wo, .int .i64 c.li, .int .i64 c.po, .int .i64 c.ms, .int .i64 c.bu, .int .i64 c.wb, .int .i64 c.r0, .int .i64 c.r1, .int .i64 c.r2] 31)) #[Value.int .i64 x.k, .int .i64 x.a, .int .i64 x.v] 33; simpa using this, (hv.alloc _).alloc _, ((Below.refl _ _).alloc (Nat.le_refl _) _).alloc (by simp) _⟩
  obtain ⟨p, cap, rfl, -⟩ := hv.in_
  clear hT hc hv
  go_enter Tryd.func4, Tryd.ntmps4
  go_wp2_with fail
  refine (awake3_any _ (pow_at HT.out L0.out.below)).mono ?_
  rintro e w1 ⟨rfl, hb1⟩
  have L1 := Lib.hid (L0.out.step hb1)
  clear hb1
  go_wp2_with fail
  refine (print_any l _ _ L1.out.ops (by omega) (pow_at HT.out L1.out.below)).mono ?_
  rintro e w2 ⟨rfl, hb2⟩
  have L2 := Lib.hid (L1.out.step hb2)
  clear hb2
  go_wp2_with fail
  refine (refPrint_any l _ _ L2.out.ops (by omega)).mono ?_
  rintro e w3 ⟨rfl, hb3⟩
  have L := L2.out.step hb3
  clear hb3 L0 L1 L2
  have k1 := L.conf.1
  have k2 := L.op.1
  generalize prt l = r at *
  go_wp2_with fail
  go_region_held3 (fun w' => (∀ o, w'.cell? ⟨w.heap.size, o, none⟩ = (#[Value.int .i64 c.co, .int .i64 c.ho, .int .i64 c.se, .int .i64 c.wa, .int .i64 c.wo, .int .i64 c.li, .int .i64 c.po, .int .i64 c.ms, .int .i64 c.bu, .int .i64 c.wb, .int .i64 c.r0, .int .i64 c.r1, .int .i64 c.r2] : Array Value)[o]?) ∧ (∀ o, w'.cell? ⟨w.heap.size + 1, o, none⟩ = (#[Value.int .i64 x.k, .int .i64 x.a, .int .i64 x.v] : Array Value)[o]?))
    (first | exact ⟨k1, k2⟩)
    (first
      | (go_at_call 13; refine (may_any x _).mono ?_; rintro e w' ⟨rfl, hb⟩; replace L := (by first | exact L.step hb | exact L.drew.step hb); replace k1 := L.conf.1; replace k2 := L.op.1)
      | (go_at_call 14; refine (refMay_any x _).mono ?_; rintro e w' ⟨rfl, hb⟩; replace L := (by first | exact L.step hb | exact L.drew.step hb); replace k1 := L.conf.1; replace k2 := L.op.1)
      | (go_at_call 15; refine (fits_any c l _ _ HC.out (by first | exact L.ops | exact L.ops.drew) (by omega)).mono ?_; rintro e w' ⟨rfl, hb⟩; replace L := (by first | exact L.step hb | exact L.drew.step hb); replace k1 := L.conf.1; replace k2 := L.op.1)
      | (go_at_call 16; refine (refFits_any c l _ _ (by first | exact L.ops | exact L.ops.drew) (by omega)).mono ?_; rintro e w' ⟨rfl, hb⟩; replace L := (by first | exact L.step hb | exact L.drew.step hb); replace k1 := L.conf.1; replace k2 := L.op.1))
  all_goals (try go_wp2)
  all_goals go_ret
  all_goals exact ⟨by simp, L.below⟩

theorem tells_any (c : Cfg) (l : List Op) (v : Value) (x : Op) (w : World) (hT : Pow w.heap.size w) (hc : c.fits) (hv : OpsAt w v l) (hl : l.length ≤ 9223372036854775807) :
    Calls Tryd.prog 4 #[cv c, v, ov x] w fun e w' => e = .returned (.bool true) ∧ Below w.heap.size w w' := by
  by_cases h : 200 < l.length
  · have HT := Lib.hid (pow_at hT (((Below.refl _ _).alloc (Nat.le_refl _) (.cells #[Value.int .i64 c.co, .int .i64 c.ho, .int .i64 c.se, .int .i64 c.wa, .int .i64 c.wo, .int .i64 c.li, .int .i64 c.po, .int .i64 c.ms, .int .i64 c.bu, .int .i64 c.wb, .int .i64 c.r0, .int .i64 c.r1, .int .i64 c.r2] 31)).alloc (by simp) (.cells #[Value.int .i64 x.k, .int .i64 x.a, .int .i64 x.v] 33)))
    obtain ⟨p, cap, rfl, -⟩ := hv.in_
    clear hT hv
    go_enter Tryd.func4, Tryd.ntmps4
    go_wp2_with (go_at_call 7; refine (awake3_any _ HT.out).mono ?_; rintro e w1 ⟨rfl, b1⟩)
    go_ret
    exact ⟨rfl, bbox (bbox b1)⟩
  · exact tells_some c l v x w hT hc hv (by omega)

end Go.Proofs.YtobpeaigapnpdaaDoor
