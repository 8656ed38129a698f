/-
  New boxes, beside a cache.
-/
import Derived.Test.YtlfhkjjjocmpbaaGreatDoorCcT
namespace Go.Proofs.YtlfhkjjjocmpbaaGreatDoor.Cc
open Go Go.RowKit

variable {w0 w w' : World} {bx : Bx} {K : Kb} {c : Cfg} {core n : Int} {s : St}
/-- What has come since, in blocks of its own, may stand among the boxes. -/
theorem Own.gain {ty : Tys} (h : Own ty w0 K c core n s bx w) (hb : Below w.heap.size w w') {ns : Bx} (hn : ∀ p ∈ ns, w'.heap[p.1]? = some p.2 ∧ w.heap.size ≤ p.1) (nd : (ns.map Prod.fst).Nodup) : Own ty w0 K c core n s (ns ++ bx) w' := by
  refine h.boxed fun ys hs => ?_
  have hs' := hs.step hb
  suffices q : Sp w0 (ns ++ (ys ++ bx)) w' from q.perm mid_perm
  refine ⟨fun p hp => ?_, ?_, hs'.bl⟩
  · rcases List.mem_append.1 hp with hp | hp
    · exact ⟨(hn p hp).1, Nat.le_trans hs.bl.size (hn p hp).2⟩
    · exact hs'.ok p hp
  · rw [List.map_append, List.nodup_append]
    refine ⟨nd, hs.nd, fun a ha b hb e => ?_⟩
    obtain ⟨p, hp, rfl⟩ := List.mem_map.1 ha
    obtain ⟨q, hq, rfl⟩ := List.mem_map.1 hb
    have := (hn p hp).2
    have := lt_blk (hs.ok q hq).1
    omega

end Go.Proofs.YtlfhkjjjocmpbaaGreatDoor.Cc
