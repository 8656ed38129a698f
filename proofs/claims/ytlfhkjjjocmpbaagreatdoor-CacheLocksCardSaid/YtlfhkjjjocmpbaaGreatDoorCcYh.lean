/-
  A picture's rows as boxes of the caller; lists are short.
-/
import Derived.Test.YtlfhkjjjocmpbaaGreatDoorCcYe
import Derived.Test.YtlfhkjjjocmpbaaGreatDoorCcYg
namespace Go.Proofs.YtlfhkjjjocmpbaaGreatDoor.Cc
open Go Go.RowKit

variable {w0 w w' : World} {bx : Bx} {K : Kb} {c : Cfg} {core n : Int} {s : St}
theorem own_rows_at {α : Type} {f : α → List Value} {sz : Nat} (hf : ∀ x, (f x).length = sz) {W : World} {B e : Nat} {p : Option Addr} {m cap : Nat} {l : List α} (h : W.ownsRow B e sz (.slice p m cap) l.length (Mh.cellsOf f l)) : RowsIn f sz W p l := by
  obtain ⟨p', c', e1, hr⟩ := own_rows hf h
  obtain ⟨rfl, _, _⟩ : p = p' ∧ m = l.length ∧ cap = c' := by simpa using e1
  exact hr
/-- A picture's rows, where its value says, in boxes of their own. -/
theorem pic_boxes {L : List Ar.Wy} {F : List Mh.Ms} {B : List Wb.En} {e : Ending} (h : RetPic w L F B e w') : ∃ p1 c1 p2 c2 p3 c3, ∃ ns : Bx, e = .returned (.agg #[.slice p1 L.length c1, .slice p2 F.length c2, .slice p3 B.length c3]) ∧ (∀ p ∈ ns, w'.heap[p.1]? = some p.2 ∧ w.heap.size ≤ p.1) ∧ (ns.map Prod.fst).Nodup ∧ (∀ W, Holds ns W → RowsIn Ar.yc 11 W p1 L ∧ RowsIn Mh.mc 15 W p2 F ∧ RowsIn Wb.mc 10 W p3 B) ∧ Below w.heap.size w w' := by
  obtain ⟨v1, v2, v3, rfl, r1, r2, r3, hb, d12, d13, d23⟩ := h
  obtain ⟨n1, a1, b1, u1, k1⟩ := own_box r1
  obtain ⟨n2, a2, b2, u2, k2⟩ := own_box r2
  obtain ⟨n3, a3, b3, u3, k3⟩ := own_box r3
  obtain ⟨p1, c1, rfl, h1⟩ := own_rows (f := Ar.yc) (fun _ => rfl) r1
  obtain ⟨p2, c2, rfl, h2⟩ := own_rows (f := Mh.mc) (fun _ => rfl) r2
  obtain ⟨p3, c3, rfl, h3⟩ := own_rows (f := Wb.mc) (fun _ => rfl) r3
  refine ⟨p1, c1, p2, c2, p3, c3, n1 ++ (n2 ++ n3), rfl, fun p hp => ?_, ?_, fun W hW => ?_, hb⟩
  · rcases List.mem_append.1 hp with hp | hp
    · exact ⟨(a1 p hp).1, by have := (a1 p hp).2; omega⟩
    · rcases List.mem_append.1 hp with hp | hp
      · exact ⟨(a2 p hp).1, by have := (a2 p hp).2; omega⟩
      · exact ⟨(a3 p hp).1, by have := (a3 p hp).2; omega⟩
  · rw [List.map_append, List.map_append, List.nodup_append, List.nodup_append]
    refine ⟨u1, ⟨u2, u3, fun a ha b hb e => ?_⟩, fun a ha b hb e => ?_⟩
    · subst e
      exact d23 _ ((b2 _).1 ha) ((b3 _).1 hb)
    · subst e
      rcases List.mem_append.1 hb with hb | hb
      · exact d12 _ ((b1 _).1 ha) ((b2 _).1 hb)
      · exact d13 _ ((b1 _).1 ha) ((b3 _).1 hb)
  · exact ⟨own_rows_at (f := Ar.yc) (fun _ => rfl) (k1 W fun p hp => hW p (List.mem_append_left _ hp)), own_rows_at (f := Mh.mc) (fun _ => rfl) (k2 W fun p hp => hW p (List.mem_append_right _ (List.mem_append_left _ hp))), own_rows_at (f := Wb.mc) (fun _ => rfl) (k3 W fun p hp => hW p (List.mem_append_right _ (List.mem_append_right _ hp)))⟩
theorem Own.dropN {ty : Tys} {ns : Bx} (h : Own ty w0 K c core n s (ns ++ bx) w) : Own ty w0 K c core n s bx w := by
  induction ns with
  | nil => exact h
  | cons p ns ih => exact ih h.drop
theorem Own.short {ty : Tys} (h : Own ty w0 K c core n s bx w) : s.A.length ≤ 4096 ∧ s.F.length ≤ 4096 ∧ s.B.length ≤ 4096 ∧ (s.F.length : Int) ≤ c.ms ∧ (s.B.length : Int) ≤ c.wb := by
  obtain ⟨ok, _, _, sz, gm, _, gb⟩ := h.nums
  obtain ⟨hwa1, hwa2⟩ := ways_b ok
  obtain ⟨hse1, hse2⟩ := (ok_pows c ok).2.2.1.2
  have h1 := sz.len
  have h2 := gm.len
  have h3 := gm.r2
  have h4 := gb.short
  have h5 := gb.len
  refine ⟨?_, by omega, by omega, by omega, by omega⟩
  rw [h1]
  exact Nat.le_trans (Nat.mul_le_mul (show c.se.toNat ≤ 64 by omega) (show c.wa.toNat ≤ 64 by omega)) (by decide)
theorem cnt_le (A : List Ar.Wy) (k : Nat) : cntL A k ≤ k := by
  unfold cntL
  exact Nat.le_trans (List.length_filter_le ..) (by simp; omega)
theorem b_addRow {b : Nat} {w w' : World} (h : Below b w w') (hb : b ≤ w'.heap.size) (old cs : Array Value) (T : TypeId) : Below b w ((w'.alloc (.cells old T)).setRow w'.heap.size cs) := b_setRow (h.alloc hb _) hb cs

end Go.Proofs.YtlfhkjjjocmpbaaGreatDoor.Cc
