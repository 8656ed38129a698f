/-
  Lists of messages that the law keeps: each nothing, or a box; what append and slicing make of them.
-/
import Derived.Test.YtpknfbgnclgpmaaGreatDoorHoO
import Derived.Test.YtpknfbgnclgpmaaGreatDoorQuS
import Derived.Laws.AppendOwn
namespace Go.Proofs.YtpknfbgnclgpmaaGreatDoor.Ho
open Go Go.RowKit

/-- What a slice of messages of the law's own is. -/
def Rw (zs : Bx) (v : Value) (l : List Msg) : Prop :=
  (v = .slice none 0 0 ∧ l = [] ∧ zs = []) ∨ ∃ g o cap cur, v = .slice (some ⟨g, o, none⟩) l.length cap ∧ zs = [(g, .cells cur 38 (0, 0))] ∧ l.length ≤ cap ∧ o + cap * 15 ≤ cur.size ∧ ∀ j u, (Qu.cellsOf Qu.mg l)[j]? = some u → cur[o + j]? = some u
theorem rw_nil : Rw [] (.slice none 0 0) [] := .inl ⟨rfl, rfl, rfl⟩
theorem rw_min {zs : Bx} {v : Value} {l : List Msg} (h : Rw zs v l) : ∃ p cap, v = .slice p l.length cap ∧ l.length ≤ cap ∧ ∀ W, Holds zs W → Qu.MIn W p l := by
  rcases h with ⟨rfl, rfl, rfl⟩ | ⟨g, o, cap, cur, rfl, rfl, hc, hs, hcl⟩
  · exact ⟨none, 0, rfl, Nat.le_refl _, fun W _ => Qu.MIn.nil _ _⟩
  · refine ⟨_, cap, rfl, hc, fun W hW i x hx => ?_⟩
    have hg := hW (g, .cells cur 38 (0, 0)) (List.mem_singleton.2 rfl)
    refine ⟨g, o, rfl, Qu.lt_of_block hg, fun j u hu => ?_⟩
    rw [Qu.blk_cell hg, Nat.add_assoc]
    obtain ⟨hi, rfl⟩ := List.getElem?_eq_some_iff.1 hx
    have hj : j < 15 := by
      have := (List.getElem?_eq_some_iff.1 hu).1
      rwa [Qu.mg_len] at this
    exact hcl _ _ (by rw [Qu.cellsOf_at Qu.mg_len l i j hi hj]; exact hu)

variable {w0 wr : World} {K : Kb} {c : Cfg} {n : Int} {s : Hs} {X : Nat → Obj → Prop} {bx : Bx}
/-- A new row. -/
theorem rw_grown (h : Own w0 K c n s X bx wr) (l : List Msg) (k : Nat) (cap : Nat) (hc : l.length ≤ cap) (hk : l.length + k = cap) :
    ∃ zs, Rw zs (.slice (some ⟨wr.heap.size, 0, none⟩) l.length cap) l ∧ Own w0 K c n s X (zs ++ bx) (wr.drew.alloc (.cells ((Qu.cellsOf Qu.mg l).toArray ++ Builtin.zeroCells (Value.cells (.agg (mcells Qu.z0))) k) 38)) := by
  have hl := Qu.cellsOf_len Qu.mg_len l
  refine ⟨[(wr.heap.size, .cells ((Qu.cellsOf Qu.mg l).toArray ++ Builtin.zeroCells (Value.cells (.agg (mcells Qu.z0))) k) 38 (0, 0))], .inr ⟨wr.heap.size, 0, cap, _, rfl, rfl, hc, ?_, fun j u hj => ?_⟩, h.drew.add _⟩
  · rw [Array.size_append, List.size_toArray, hl, size_zeroCells]
    have e : (Value.cells (.agg (mcells Qu.z0))).size = 15 := rfl
    rw [e]
    omega
  · have hlt := (List.getElem?_eq_some_iff.1 hj).1
    rw [Nat.zero_add, Array.getElem?_append_left (by simpa using hlt)]
    simpa using hj
theorem run_append_off {P : Program} (w : World) (t ty e : TypeId) (i : TypeInfo) (ht : P.underlying t = some (.slice e)) (hi : P.info? e = some i)
    (g o sLen sCap : Nat) (cur : Array Value) (hg : w.heap[g]? = some (.cells cur e (0, 0)))
    (a : Addr) (m c : Nat) (news : List Value) (hl : news.length = m * i.size) (hnews : ∀ j u, news[j]? = some u → w.cell? (a.add j) = some u) (h1 : ∀ u ∈ news, u.oneCell' = true)
    (hroom : sLen + m ≤ sCap) (hfit : o + sLen * i.size + news.length ≤ cur.size) :
    (Builtin.append_ #[t, t] ty #[.slice (some ⟨g, o, none⟩) sLen sCap, .slice (some a) m c]).run P w =
      .ok (.slice (some ⟨g, o, none⟩) (sLen + m) sCap) (w.setRow g (cur.toList.take (o + sLen * i.size) ++ news ++ cur.toList.drop (o + sLen * i.size + news.length)).toArray) := by
  have hf := run_firstCells_some (P := P) w i.size m a m c news hl hnews
  have hst := run_storeCells_at P g (o + sLen * i.size) e news 0 cur w hg (by simpa using hfit) h1
  simp only [Nat.add_zero] at hst
  simp [Builtin.append_, run_underlying ht, sizeOf, typeInfo, hi, Builtin.lenOf, hroom, hf, Addr.add_lit, hst]
set_option maxRecDepth 100000 in
/-- append. -/
theorem Own.append {zs : Bx} {v : Value} {l ms : List Msg} (h : Own w0 K c n s X (zs ++ bx) wr) (hv : Rw zs v l) (ad : Addr) (c' : Nat) (h0 : 0 < ms.length) (hl : l.length + ms.length ≤ 5000)
    (hnews : ∀ j u, (Qu.cellsOf Qu.mg ms)[j]? = some u → wr.cell? (ad.add j) = some u) (ty : TypeId) :
    ∃ v' w' zs', (Builtin.append_ #[78, 78] ty #[v, .slice (some ad) ms.length c']).run Tryz.prog wr = .ok v' w' ∧ Rw zs' v' (l ++ ms) ∧ Own w0 K c n s X (zs' ++ bx) w' := by
  obtain ⟨i0, hi0, hz0, hz1, hz2⟩ := info_parts Qu.A35
  have hln : (Qu.cellsOf Qu.mg ms).length = ms.length * i0.size := by rw [hz1, Qu.cellsOf_len Qu.mg_len]
  have hms : (Qu.cellsOf Qu.mg ms).length = ms.length * 15 := Qu.cellsOf_len Qu.mg_len ms
  have h1 := Qu.mg_cells ms
  have hz3 : i0.zero = some (.agg (mcells Qu.z0)) := hz0
  have hlen : (l ++ ms).length = l.length + ms.length := List.length_append
  rcases hv with ⟨rfl, rfl, rfl⟩ | ⟨g, o, cap, cur, rfl, rfl, hcp, hfit, hcl⟩
  · have hr := run_append_nil (P := Tryz.prog) wr 78 ty 38 i0 _ Tryz.underlying78 hi0 hz3 ad ms.length c' _ hln hnews h0 (by omega) (by rw [hz2]; omega)
    have hge := grownCap_ge wr ms.length 0 38
    obtain ⟨zs', q1, q2⟩ := rw_grown (bx := bx) h ms (grownCap wr ms.length 0 38 - ms.length) (grownCap wr ms.length 0 38) hge (by omega)
    exact ⟨_, _, zs', hr, q1, q2⟩
  · have hg : wr.heap[g]? = some (.cells cur 38 (0, 0)) := h.box (by simp)
    by_cases hroom : l.length + ms.length ≤ cap
    · have hsz : o + l.length * 15 + (Qu.cellsOf Qu.mg ms).length ≤ cur.size := by
        rw [Qu.cellsOf_len Qu.mg_len]
        have : (l.length + ms.length) * 15 ≤ cap * 15 := Nat.mul_le_mul_right _ hroom
        omega
      have hr := run_append_off (P := Tryz.prog) wr 78 ty 38 i0 Tryz.underlying78 hi0 g o l.length cap cur hg ad ms.length c' _ hln hnews h1 hroom (by rw [hz1]; exact hsz)
      rw [hz1] at hr
      refine ⟨_, _, [(g, .cells (cur.toList.take (o + l.length * 15) ++ Qu.cellsOf Qu.mg ms ++ cur.toList.drop (o + l.length * 15 + (Qu.cellsOf Qu.mg ms).length)).toArray 38 (0, 0))], hr, .inr ⟨g, o, cap, _, by rw [hlen], rfl, by rw [hlen]; exact hroom, ?_, fun j u hj => ?_⟩, ?_⟩
      · simp only [List.size_toArray, List.length_append, List.length_take, List.length_drop, Array.length_toList (xs := cur)]
        omega
      · have hlt := (List.getElem?_eq_some_iff.1 hj).1
        rw [Qu.cellsOf_append, List.length_append, Qu.cellsOf_len Qu.mg_len] at hlt
        rw [Qu.cellsOf_append] at hj
        rw [List.getElem?_toArray, List.append_assoc]
        have ht : (cur.toList.take (o + l.length * 15)).length = o + l.length * 15 := by rw [List.length_take, Array.length_toList (xs := cur)]; omega
        by_cases hjl : j < l.length * 15
        · rw [List.getElem?_append_left (by omega), List.getElem?_take_of_lt (by omega), Array.getElem?_toList]
          rw [List.getElem?_append_left (by rw [Qu.cellsOf_len Qu.mg_len]; exact hjl)] at hj
          exact hcl j u hj
        · rw [List.getElem?_append_right (by omega), ht, List.getElem?_append_left (by omega)]
          rw [List.getElem?_append_right (by rw [Qu.cellsOf_len Qu.mg_len]; omega), Qu.cellsOf_len Qu.mg_len] at hj
          rw [← hj]
          congr 1
          omega
      · exact h.setRow
    · have hlo : (Qu.cellsOf Qu.mg l).length = l.length * i0.size := by rw [hz1, Qu.cellsOf_len Qu.mg_len]
      have holds : ∀ j u, (Qu.cellsOf Qu.mg l)[j]? = some u → wr.cell? ((⟨g, o, none⟩ : Addr).add j) = some u := fun j u hj => by
        rw [Addr.add_lit, Qu.blk_cell hg]
        exact hcl j u hj
      have hr := run_append_grow (P := Tryz.prog) wr 78 ty 38 i0 _ Tryz.underlying78 hi0 hz3 ⟨g, o, none⟩ l.length cap _ hlo holds ad ms.length c' _ hln hnews (by omega) (by omega) (growslice_fits (by omega) (by rw [hz2]; omega))
      have hge := grownCap_ge wr (l.length + ms.length) cap 38
      obtain ⟨zs', q1, q2⟩ := rw_grown (bx := bx) h.drop (l ++ ms) (grownCap wr (l.length + ms.length) cap 38 - (l.length + ms.length)) (grownCap wr (l.length + ms.length) cap 38) (by rw [hlen]; exact hge) (by rw [hlen]; omega)
      rw [hlen] at q1
      rw [Qu.cellsOf_append, ← List.append_toArray] at q2
      exact ⟨_, _, zs', hr, q1, q2⟩
/-- What is left of a list without its first. -/
theorem rw_tail {zs : Bx} {v : Value} {m : Msg} {r : List Msg} (h : Rw zs v (m :: r)) : ∃ v', (∀ w, (Instr.slice 78 v (some (.int .i64 1)) none none).run Tryz.prog w = .ok v' w) ∧ Rw zs v' r := by
  rcases h with ⟨-, h, -⟩ | ⟨g, o, cap, cur, rfl, rfl, hc, hs, hcl⟩
  · cases h
  have he : Tryz.prog.elem 78 = 38 := by kernel_rfl
  have hz : ∀ w, (sizeOf 38).run Tryz.prog w = .ok 15 w := fun w => by kernel_rfl
  have hu : Tryz.prog.underlying 78 = some (.slice (Tryz.prog.elem 78)) := by rw [he]; exact Tryz.underlying78
  simp only [List.length_cons] at hc ⊢
  have hr := fun w => run_slice_l (P := Tryz.prog) w 78 (some ⟨g, o, none⟩) (r.length + 1) cap hu .i64 1 (by omega) (by omega)
  have e2 : Qu.cellsOf Qu.mg (m :: r) = Qu.mg m ++ Qu.cellsOf Qu.mg r := rfl
  by_cases h0 : cap = 1
  · subst h0
    obtain rfl : r = [] := List.eq_nil_of_length_eq_zero (by omega)
    refine ⟨.slice (some ⟨g, o, none⟩) 0 0, fun w => ?_, .inr ⟨g, o, 0, cur, rfl, rfl, Nat.le_refl _, by omega, fun j u hj => by cases hj⟩⟩
    rw [hr w, he, hz]
    simp [Result.andThen, sliced]
  · refine ⟨.slice (some ⟨g, o + 15, none⟩) r.length (cap - 1), fun w => ?_, .inr ⟨g, o + 15, cap - 1, cur, rfl, rfl, by omega, by omega, fun j u hj => ?_⟩⟩
    · rw [hr w, he, hz]
      simp [Result.andThen, sliced, h0, Addr.add_lit]
    · have := hcl (15 + j) u (by rw [e2, List.getElem?_append_right (by rw [Qu.mg_len]; omega), Qu.mg_len, Nat.add_sub_cancel_left]; exact hj)
      rwa [← Nat.add_assoc] at this

end Go.Proofs.YtpknfbgnclgpmaaGreatDoor.Ho
