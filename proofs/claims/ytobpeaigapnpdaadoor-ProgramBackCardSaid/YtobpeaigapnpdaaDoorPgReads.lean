/-
  The walk of ProgramReads: whatever text it is given, it returns true, and writes nothing that was there.
-/
import Derived.Test.YtobpeaigapnpdaaDoorPgZ
namespace Go.Proofs.YtobpeaigapnpdaaDoor
open Go Go.RowKit

theorem prs_len (s : List UInt8) : (prs s).1.length ≤ 64 := by
  unfold prs
  split
  · simp
  · split
    · simp
    · split
      · simp
      · rename_i h
        simpa using h

set_option maxHeartbeats 2000000 in
theorem reads_any (s : ByteArray) (w : World) (hT : Pow w.heap.size w) (hs : s.size ≤ 9223372036854775807) :
    Calls Tryd.prog 3 #[.string s] w fun e w' => e = .returned (.bool true) ∧ Below w.heap.size w w' := by
  have HT := Lib.hid hT
  clear hT
  by_cases h5 : 5000 < s.size
  · go_enter Tryd.func3, Tryd.ntmps3
    go_wp2_with (go_at_call 7; refine (awake3_any _ HT.out).mono ?_; rintro e w1 ⟨rfl, b1⟩)
    go_ret
    exact ⟨rfl, b1⟩
  · have hl := prs_len s.data.toList
    go_enter Tryd.func3, Tryd.ntmps3
    go_wp2_with fail
    refine (awake3_any _ HT.out).mono ?_
    rintro e w1 ⟨rfl, b1⟩
    go_wp2_with fail
    refine (parse_any s _ hs).mono ?_
    rintro e w2 ⟨v2, rfl, o2, hb2⟩
    have b2 := bstep b1 hb2
    clear hb2 b1
    go_wp2_with fail
    refine (refParse_any s _ hs).mono ?_
    rintro e w3 ⟨v3, rfl, o3, hb3⟩
    have b3 := bstep b2 hb3
    have o2' := o2.step hb3
    clear hb3 b2 o2
    generalize prs s.data.toList = r at *
    go_wp2_with fail
    refine (sameOps_any r.1 _ _ _ o2' o3 (by omega)).mono ?_
    rintro e w4 ⟨rfl, hb4⟩
    have b4 := bstep b3 hb4
    clear hb4 b3 o2' o3
    go_wp2
    go_ret
    exact ⟨by simp, b4⟩

end Go.Proofs.YtobpeaigapnpdaaDoor
