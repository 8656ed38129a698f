/-
  Bags of messages: what Delete of one of them does.
-/
import Derived.Test.YtnimaogdjfenpaaBgC
namespace Go.Proofs.Ytnimaogdjfenpaa
open Go Go.RowKit

/-- A message: fifteen numbers. -/
structure Mg where
  k : Int
  l : Int
  f : Int
  t : Int
  w : Int
  a : Int
  o : Int
  w0 : Int
  w1 : Int
  w2 : Int
  w3 : Int
  w4 : Int
  w5 : Int
  w6 : Int
  w7 : Int
abbrev mga (m : Mg) : Array Value := #[.int .i64 m.k, .int .i64 m.l, .int .i64 m.f, .int .i64 m.t, .int .i64 m.w, .int .i64 m.a, .int .i64 m.o, .int .i64 m.w0, .int .i64 m.w1, .int .i64 m.w2, .int .i64 m.w3, .int .i64 m.w4, .int .i64 m.w5, .int .i64 m.w6, .int .i64 m.w7]
def mg (m : Mg) : List Value := (mga m).toList
abbrev m0 : Mg := ⟨0, 0, 0, 0, 0, 0, 0, 0, 0, 0, 0, 0, 0, 0, 0⟩
theorem mg_len (m : Mg) : (mg m).length = 15 := rfl
theorem mg_cells (l : List Mg) : ∀ u ∈ cellsOf mg l, u.oneCell' = true := by
  intro u hu
  obtain ⟨m, _, hm⟩ := List.mem_flatMap.1 hu
  simp [mg] at hm
  rcases hm with rfl | rfl | rfl | rfl | rfl | rfl | rfl | rfl | rfl | rfl | rfl | rfl | rfl | rfl | rfl <;> rfl
theorem A52 : (Try.prog.info? 52).map (fun i => (i.zero, i.size, i.bytes)) = some (some (.agg (mga m0)), 15, 120) := by kernel_rfl
abbrev BgM := @Bg Mg 69 52 15 mg

set_option maxHeartbeats 2000000 in
/-- Delete of one thing. -/
theorem delM_at {w : World} {B g cap : Nat} {l : List Mg} (h : w.ownsRow B 52 15 (.slice (some ⟨g, 0, none⟩) l.length cap) l.length (cellsOf mg l)) (i j : Nat) (hj : j = i + 1) (hi : i < l.length) :
    Calls Try.prog 29 #[.slice (some ⟨g, 0, none⟩) l.length cap, .int .i64 i, .int .i64 j] w (DelGave 52 15 mg B g l.length cap (l.eraseIdx i) w) := by
  obtain ⟨i0, hi0, hz0, hz1, hz2⟩ := info_parts A52
  obtain ⟨hlen, hh⟩ := h
  obtain ⟨g', cap', cur, hv, hB, hg, hnc, hcm, hcs, ht⟩ : ∃ g' cap' cur, (Value.slice (some ⟨g, 0, none⟩) l.length cap) = .slice (some ⟨g', 0, none⟩) l.length cap' ∧ B ≤ g' ∧ w.heap[g']? = some (.cells cur 52 (0, 0)) ∧ l.length ≤ cap' ∧ cap' ≤ maxLen ∧ cur.size = cap' * 15 ∧ cur.toList.take (l.length * 15) = cellsOf mg l := by
    rcases hh with ⟨_, h0⟩ | h
    · omega
    · exact h
  obtain ⟨rfl, rfl⟩ : g = g' ∧ cap = cap' := by simpa using hv
  clear hv hh
  obtain ⟨news, hnews⟩ : ∃ news, news = (cellsOf mg l).drop ((i + 1) * 15) := ⟨_, rfl⟩
  have hnl : news.length = (l.length - (i + 1)) * 15 := by rw [hnews, List.length_drop, cellsOf_len mg_len]; omega
  obtain ⟨D, hD, hsrc⟩ : ∃ D : Addr, (if cap = j then some (⟨g, 0, none⟩ : Addr) else some ⟨g, j * 15, none⟩) = some D ∧ Hid (∀ t u, news[t]? = some u → w.drew.cell? (D.add t) = some u) := by
    by_cases hc : cap = j
    · refine ⟨⟨g, 0, none⟩, by simp [hc], fun t u hu => ?_⟩
      have h0 : news.length = 0 := by rw [hnl]; omega
      rw [List.length_eq_zero_iff.1 h0] at hu
      simp at hu
    · refine ⟨⟨g, j * 15, none⟩, by simp [hc], fun t u hu => ?_⟩
      have ht' : t < (l.length - (i + 1)) * 15 := by
        have := (List.getElem?_eq_some_iff.1 hu).1
        omega
      rw [Addr.add_lit]
      show w.cell? _ = _
      rw [blk_cell hg]
      rw [hnews, List.getElem?_drop, ← ht, List.getElem?_take, if_pos (by omega)] at hu
      simpa [hj] using hu
  obtain ⟨A, hA⟩ : ∃ A, A = (cur.toList.take (i * 15) ++ news ++ cur.toList.drop (i * 15 + news.length)).toArray := ⟨_, rfl⟩
  obtain ⟨R, hR⟩ : ∃ R, R = (A.toList.take ((i + (l.length - (i + 1))) * 15) ++ (mga m0).toList ++ A.toList.drop ((i + (l.length - (i + 1))) * 15 + (mga m0).size)).toArray := ⟨_, rfl⟩
  have hAs : A.size = cap * 15 := by
    rw [hA]
    simp only [List.size_toArray, List.length_append, List.length_take, List.length_drop, hnl, Array.length_toList, hcs]
    omega
  have s2 : Hid (∀ u ∈ news, u.oneCell' = true) := by
    intro u hu
    rw [hnews] at hu
    exact mg_cells l u (List.mem_of_mem_drop hu)
  have HE := Lib.hid (fun q => del_own mg_len hi hB hg hnc hcm hcs ht (zs := (mga m0)) rfl hnews hA hR q)
  obtain ⟨W1, hW1⟩ : ∃ W1, W1 = w.drew.setRow g A := ⟨_, rfl⟩
  have hg1 : W1.heap[g]? = some (.cells A 52 (0, 0)) := by rw [hW1]; exact setRow_heap w.drew g _ A _ _ hg
  have hv23 : ∀ w : World, (zeroValue 52).run Try.prog w = .ok (.agg (mga m0)) w := fun w => by kernel_rfl
  have hcl : ∀ ty c, (Builtin.clear_ #[57] ty #[.slice (some ⟨g, (i + (l.length - (i + 1))) * 15, none⟩) 1 c]).run Try.prog W1 = .ok (.tuple #[]) (W1.setRow g R) := by
    intro ty c
    have := run_clear_row (P := Try.prog) W1 57 52 ty (.agg (mga m0)) Try.underlying57 hv23 (by intro u hu; exact mg_cells [m0] u (by simpa [cellsOf, mg, Value.cells] using hu)) g ((i + (l.length - (i + 1))) * 15) c A hg1 (by rw [hAs]; simp [Value.cells]; omega)
    rw [this, hR]
    simp [Value.cells]
  have HW := Lib.hid hW1
  have HA := Lib.hid hA
  have hHg := Lib.hid (show w.drew.heap[g]? = some (.cells cur 52 (0, 0)) from hg)
  have s1 := Lib.hid hnl
  have s4 : Hid (i * 15 + news.length ≤ cur.size) := by show i * 15 + news.length ≤ cur.size; rw [hnl, hcs]; omega
  rw [← hj] at hcl s1 HE
  have k1 : i < j := by omega
  have k2 : i ≤ cap := by omega
  have k3 : ¬ cap = i + (l.length - j) := by omega
  have k4 : i + (l.length - j) ≤ l.length := by omega
  have k5 : l.length - (i + (l.length - j)) = 1 := by omega
  have k6 : j ≤ l.length := by omega
  have k7 : j ≤ cap := by omega
  have k8 : i + (l.length - j) ≤ cap := by omega
  have hj' := Lib.hid hj
  clear hj hlen hg ht hnews hA hR hAs hW1 hg1 hcs
  go_enter Try.func29, Try.ntmps29
  go_wp2_with fail
  go_region_law (refine step_append_row rfl (.tmp 22) (.tmp 25) 57 rfl 52 i0 15 Try.underlying57 hi0 hz1 g i cap cur hHg.out (by simp [Act.eval, Act.put]) D (l.length - j) (cap - j) news (by simp [Act.eval, Act.put]) s1.out hsrc.out s2.out (by omega) s4.out ?_; rw [← HA.out, ← HW.out])
  go_wp2
  go_ret
  have := HE.out 1
  rw [HW.out]
  exact this
end Go.Proofs.Ytnimaogdjfenpaa
