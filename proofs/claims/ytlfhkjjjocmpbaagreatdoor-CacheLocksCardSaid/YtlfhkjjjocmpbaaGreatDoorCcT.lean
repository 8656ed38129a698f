/-
  A cache beside boxes that stood ahead of it; a slice of steps.
-/
import Derived.Test.YtlfhkjjjocmpbaaGreatDoorCcS
namespace Go.Proofs.YtlfhkjjjocmpbaaGreatDoor.Cc
open Go Go.RowKit

variable {w w1 w' : World} {bx : Bx} {K : Kb} {c : Cfg} {core n : Int} {s : St}
/-- Boxes that stood ahead of a cache stand beside it. -/
theorem Own.rebase {ty : Tys} (h : Own ty w1 K c core n s [] w') (hs : Sp w bx w1) (tb : Tb w) : Own ty w K c core n s bx w' := by
  obtain ⟨xa, xf, xb, h1, ⟨⟨v, e2, h2⟩, g2⟩, ⟨⟨u, e3, h3⟩, g3⟩, h4⟩ := h.ex
  have hsz := hs.bl.size
  refine ⟨⟨xa, xf, xb, h1, ⟨⟨v, e2, fun W hW => ?_⟩, g2⟩, ⟨⟨u, e3, fun W hW => ?_⟩, g3⟩, ?_⟩, tb⟩
  · have q := h2 W hW
    exact ⟨q.blk, Mh.own_base q.row fun k hk => Nat.le_trans hsz (q.row.lt k hk).1, q.off, Nat.le_trans hsz q.big⟩
  · have q := h3 W hW
    exact ⟨q.blk, Wb.own_base q.row fun k hk => Nat.le_trans hsz (q.row.lt k hk).1, q.off, Nat.le_trans hsz q.big⟩
  · have e : xa ++ (xf ++ (xb ++ ((K.k, Obj.cells (kcells c core K) ty.t) :: bx))) = (xa ++ (xf ++ (xb ++ [(K.k, Obj.cells (kcells c core K) ty.t)]))) ++ bx := by simp
    rw [e]
    refine ⟨fun p hp => ?_, ?_, hs.bl.trans (h4.bl.mono hsz)⟩
    · rcases List.mem_append.1 hp with hp | hp
      · exact ⟨(h4.ok p hp).1, Nat.le_trans hsz (h4.ok p hp).2⟩
      · exact ⟨(h4.bl.block p.1 (lt_blk (hs.ok p hp).1)).trans (hs.ok p hp).1, (hs.ok p hp).2⟩
    · rw [List.map_append, List.nodup_append]
      refine ⟨h4.nd, hs.nd, fun a ha b hb e => ?_⟩
      obtain ⟨p, hp, rfl⟩ := List.mem_map.1 ha
      obtain ⟨q, hq, rfl⟩ := List.mem_map.1 hb
      have := (h4.ok p hp).2
      have := lt_blk (hs.ok q hq).1
      omega

def stc (x : Stp) : List Value := (scells x).toList
theorem stc_len (x : Stp) : (stc x).length = 21 := rfl
/-- Where a slice's steps lie. -/
def StpsA (w : World) (p : Option Addr) (l : List Stp) : Prop := ∀ i x, l[i]? = some x → ∃ g off, p = some ⟨g, off, none⟩ ∧ g < w.heap.size ∧ w.rangeAt g (off + i * 21) (stc x)
theorem StpsA.step {p : Option Addr} {l : List Stp} (h : StpsA w p l) (hb : Below w.heap.size w w') : StpsA w' p l := fun i x hx => by
  obtain ⟨g, off, e, hg, hr⟩ := h i x hx
  exact ⟨g, off, e, Nat.lt_of_lt_of_le hg hb.size, fun j v hv => (hb.cell (p := ⟨g, off + i * 21 + j, none⟩) hg).trans (hr j v hv)⟩
theorem split_join (h : OwnP w K c core n s bx w') (line : Int) :
    Calls Tryz.prog 25 #[cv c, .int .i64 line, .int .i64 0] w' fun e w2 => e = .returned (.tuple #[.int .i64 (joA c line 0), .int .i64 (joE c line 0)]) ∧ Below w'.heap.size w' w2 := joinS_any c line 0 w' h.nums.2.1 h.tbs

end Go.Proofs.YtlfhkjjjocmpbaaGreatDoor.Cc
