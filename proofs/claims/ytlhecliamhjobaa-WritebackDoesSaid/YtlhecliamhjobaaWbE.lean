/-
  Delete of one entry; Drop.
-/
import Derived.Test.YtlhecliamhjobaaWbD
namespace Go.Proofs.Ytlhecliamhjobaa
open Go Go.RowKit


/-- append in place, at a step of a region that draws its order: the row is known whole. -/
theorem step_append_row {P : Program} {ops : Array Oper} {o : Oper} {a : Act} {w : World} {K : Act → World → Prop} {Q : Exit → Act → World → Prop} {E : Prop}
    (hg : o.guard = none) (s x : Operand) (t : TypeId) (hop : o.op = Op.call { callee := Callee.builtin Builtin.append, args := #[s, x], argTypes := #[t, t] })
    (e : TypeId) (i : TypeInfo) (size : Nat) (h1 : P.underlying t = some (.slice e)) (h2 : P.info? e = some i) (h4 : i.size = size)
    (b n cap : Nat) (cur : Array Value) (hb : w.heap[b]? = some (.cells cur e (0, 0))) (hs : a.eval s = .slice (some ⟨b, 0, none⟩) n cap)
    (ad : Addr) (m c : Nat) (news : List Value) (hx : a.eval x = .slice (some ad) m c) (hn : news.length = m * size) (hc : ∀ j u, news[j]? = some u → w.cell? (ad.add j) = some u) (h1c : ∀ u ∈ news, u.oneCell' = true)
    (hroom : n + m ≤ cap) (hfit : n * size + news.length ≤ cur.size)
    (hK : K (a.put o.dst (.slice (some ⟨b, 0, none⟩) (n + m) cap)) (w.setRow b (cur.toList.take (n * size) ++ news ++ cur.toList.drop (n * size + news.length)).toArray)) :
    if Region.wanted o (yielded ops a.tmps) = true then Oper.wp P o a w K Q else E := by
  have hw : Region.wanted o (yielded ops a.tmps) = true := by simp [Region.wanted, hg]
  rw [if_pos hw]
  subst h4
  have hrun := run_append_room (P := P) w t o.type e i h1 h2 b n cap cur hb ad m c news hn hc h1c hroom hfit
  unfold Oper.wp
  simp [execOp, hop, resolve, invoke, builtin, hs, hx, hrun, Result.andThen]
  rw [List.append_assoc] at hK
  exact hK

/-- 'clear' of one element of a row that is known whole. -/
theorem run_clear_row {P : Program} (w : World) (t e ty : TypeId) (z : Value) (ht : P.underlying t = some (.slice e)) (hv : ∀ w, (zeroValue e).run P w = .ok z w) (hz : ∀ u ∈ z.cells.toList, u.oneCell' = true) (g o c : Nat) (cur : Array Value) (hg : w.heap[g]? = some (.cells cur e (0, 0))) (hfit : o + z.cells.size ≤ cur.size) :
    (Builtin.clear_ #[t] ty #[.slice (some ⟨g, o, none⟩) 1 c]).run P w = .ok (.tuple #[]) (w.setRow g (cur.toList.take o ++ z.cells.toList ++ cur.toList.drop (o + z.cells.size)).toArray) := by
  have hzc : (Builtin.zeroCells z.cells 1).toList = z.cells.toList := by
    unfold Builtin.zeroCells
    apply List.ext_getElem
    · simp
    · intro k h1 h2
      have hk : k < z.cells.size := by simpa using h2
      simp [Nat.mod_eq_of_lt hk, hk]
  have hst := run_storeCells_at P g o e z.cells.toList 0 cur w hg (by simpa using hfit) hz
  simp only [Nat.add_zero] at hst
  simp [Builtin.clear_, run_underlying ht, hv, hzc, hst]

/-- What the two leave. -/
theorem del_list {α : Type} (c xs zs : List α) (a m s : Nat) (hx : c.take (a + m + s) = xs) (hc : a + m + s ≤ c.length) (hz : zs.length = s) :
    let nw := xs.drop (a + s)
    let A := c.take a ++ nw ++ c.drop (a + nw.length)
    let R := A.take (a + m) ++ zs ++ A.drop (a + m + s)
    nw.length = m ∧ A.length = c.length ∧ R.length = c.length ∧ R.take (a + m) = xs.take a ++ nw := by
  intro nw A R
  have hxl : xs.length = a + m + s := by rw [← hx, List.length_take, Nat.min_eq_left hc]
  have hn : nw.length = m := by show (xs.drop (a + s)).length = m; rw [List.length_drop]; omega
  have hA : A.length = c.length := by
    show (c.take a ++ nw ++ c.drop (a + nw.length)).length = _
    simp only [List.length_append, List.length_take, List.length_drop] at hn ⊢; omega
  have hAt : A.take (a + m) = c.take a ++ nw := by
    have hl : (c.take a ++ nw).length = a + m := by rw [List.length_append, List.length_take, hn]; omega
    show (c.take a ++ nw ++ c.drop (a + nw.length)).take (a + m) = _
    rw [← hl, List.take_left']
    rfl
  have hca : c.take a = xs.take a := by rw [← hx, List.take_take, Nat.min_eq_left (by omega)]
  refine ⟨hn, hA, ?_, ?_⟩
  · show (A.take (a + m) ++ zs ++ A.drop (a + m + s)).length = _
    rw [List.length_append, List.length_append, List.length_take, List.length_drop, hz, hA]; omega
  · have hl : (A.take (a + m)).length = a + m := by rw [List.length_take, hA]; omega
    show (A.take (a + m) ++ zs ++ A.drop (a + m + s)).take (a + m) = _
    rw [List.append_assoc, List.take_append_of_le_length (by omega), List.take_take, Nat.min_self, hAt, hca]


/-- What Delete of one thing gives. -/
def DelGave {α : Type} (e : TypeId) (sz : Nat) (f : α → List Value) (B g n cap : Nat) (l : List α) (w : World) (x : Ending) (w' : World) : Prop :=
  x = .returned (.slice (some ⟨g, 0, none⟩) (n - 1) cap) ∧ w'.ownsRow B e sz (.slice (some ⟨g, 0, none⟩) (n - 1) cap) l.length (cellsOf f l) ∧ Only g w w'

/-- What is behind the two, of a row that is owned. -/
theorem del_own {α : Type} {e sz : Nat} {f : α → List Value} (hf : ∀ x, (f x).length = sz) {w : World} {B g cap : Nat} {l : List α} {i : Nat} (hi : i < l.length) {cur zs : Array Value} (hB : B ≤ g) (hg : w.heap[g]? = some (.cells cur e (0, 0))) (hnc : l.length ≤ cap) (hcm : cap ≤ maxLen) (hcs : cur.size = cap * sz) (ht : cur.toList.take (l.length * sz) = cellsOf f l) (hz : zs.size = sz)
    {news : List Value} (hn : news = (cellsOf f l).drop ((i + 1) * sz)) {A R : Array Value} (hA : A = (cur.toList.take (i * sz) ++ news ++ cur.toList.drop (i * sz + news.length)).toArray)
    (hR : R = (A.toList.take ((i + (l.length - (i + 1))) * sz) ++ zs.toList ++ A.toList.drop ((i + (l.length - (i + 1))) * sz + zs.size)).toArray) (q : Nat) :
    DelGave e sz f B g l.length cap (l.eraseIdx i) w (.returned (.slice (some ⟨g, 0, none⟩) (i + (l.length - (i + 1))) cap)) ((((w.drewN q).setRow g A).setRow g R)) := by
  have hm : (i + (l.length - (i + 1))) = l.length - 1 := by omega
  have e1 : (i + (l.length - (i + 1))) * sz = i * sz + (l.length - (i + 1)) * sz := by rw [Nat.add_mul]
  have e2 : (i + 1) * sz = i * sz + sz := by rw [Nat.add_mul, Nat.one_mul]
  have e3 : l.length * sz = i * sz + (l.length - (i + 1)) * sz + sz := by
    have : l.length = i + (l.length - (i + 1)) + 1 := by omega
    conv => lhs; rw [this]
    rw [Nat.add_mul, Nat.add_mul, Nat.one_mul]
  have hcl : l.length * sz ≤ cap * sz := Nat.mul_le_mul_right _ hnc
  obtain ⟨d1, d2, d3, d4⟩ := del_list cur.toList (cellsOf f l) zs.toList (i * sz) ((l.length - (i + 1)) * sz) sz (by rw [← e3, ht]) (by simp; omega) (by simpa using hz)
  rw [← e2, ← hn] at d1 d2 d3 d4
  have hRl : R.toList = (cur.toList.take (i * sz) ++ news ++ cur.toList.drop (i * sz + news.length)).take (i * sz + (l.length - (i + 1)) * sz) ++ zs.toList ++ (cur.toList.take (i * sz) ++ news ++ cur.toList.drop (i * sz + news.length)).drop (i * sz + (l.length - (i + 1)) * sz + sz) := by
    rw [hR, hA, e1, hz]
  have hheap : (((w.drewN q).setRow g A).setRow g R).heap[g]? = some (.cells R e (0, 0)) := setRow_heap _ g _ R e _ (setRow_heap (w.drewN q) g _ A e _ hg)
  have hel : (l.eraseIdx i).length = l.length - 1 := List.length_eraseIdx_of_lt hi
  have hcell : (cellsOf f l).take (i * sz) ++ news = cellsOf f (l.eraseIdx i) := by
    rw [hn, cellsOf_take hf l i (by omega), cellsOf_drop hf l (i + 1) (by omega), ← cellsOf_append, List.eraseIdx_eq_take_drop_succ]
  refine ⟨by rw [hm], ⟨by rw [cellsOf_len hf], .inr ⟨g, cap, R, ?_, hB, hheap, ?_, hcm, ?_, ?_⟩⟩, ⟨rfl, rfl, rfl, by simp, fun c hc => ?_⟩⟩
  · rw [hel]
  · omega
  · rw [← hcs]
    have := congrArg List.length hRl
    rw [d3] at this
    simpa using this
  · rw [hel, ← hm, e1, hRl, d4, hcell]
  · exact (setRow_other _ g c R hc).trans (setRow_other (w.drewN q) g c A hc)


set_option maxRecDepth 100000 in
set_option maxHeartbeats 2000000 in
/-- Delete of one thing. -/
theorem del_at {w : World} {B g cap : Nat} {l : List En} (h : w.ownsRow B 48 10 (.slice (some ⟨g, 0, none⟩) l.length cap) l.length (cellsOf mc l)) (i j : Nat) (hj : j = i + 1) (hi : i < l.length) :
    Calls Try.prog 26 #[.slice (some ⟨g, 0, none⟩) l.length cap, .int .i64 i, .int .i64 j] w (DelGave 48 10 mc B g l.length cap (l.eraseIdx i) w) := by
  obtain ⟨i0, hi0, hz0, hz1, hz2⟩ := info_parts A34
  obtain ⟨hlen, hh⟩ := h
  obtain ⟨g', cap', cur, hv, hB, hg, hnc, hcm, hcs, ht⟩ : ∃ g' cap' cur, (Value.slice (some ⟨g, 0, none⟩) l.length cap) = .slice (some ⟨g', 0, none⟩) l.length cap' ∧ B ≤ g' ∧ w.heap[g']? = some (.cells cur 48 (0, 0)) ∧ l.length ≤ cap' ∧ cap' ≤ maxLen ∧ cur.size = cap' * 10 ∧ cur.toList.take (l.length * 10) = cellsOf mc l := by
    rcases hh with ⟨_, h0⟩ | h
    · omega
    · exact h
  obtain ⟨rfl, rfl⟩ : g = g' ∧ cap = cap' := by simpa using hv
  clear hv hh
  obtain ⟨news, hnews⟩ : ∃ news, news = (cellsOf mc l).drop ((i + 1) * 10) := ⟨_, rfl⟩
  have hnl : news.length = (l.length - (i + 1)) * 10 := by rw [hnews, List.length_drop, cellsOf_len mc_len]; omega
  obtain ⟨D, hD, hsrc⟩ : ∃ D : Addr, (if cap = j then some (⟨g, 0, none⟩ : Addr) else some ⟨g, j * 10, none⟩) = some D ∧ Hid (∀ t u, news[t]? = some u → w.drew.cell? (D.add t) = some u) := by
    by_cases hc : cap = j
    · refine ⟨⟨g, 0, none⟩, by simp [hc], fun t u hu => ?_⟩
      have h0 : news.length = 0 := by rw [hnl]; omega
      rw [List.length_eq_zero_iff.1 h0] at hu
      simp at hu
    · refine ⟨⟨g, j * 10, none⟩, by simp [hc], fun t u hu => ?_⟩
      have ht' : t < (l.length - (i + 1)) * 10 := by
        have := (List.getElem?_eq_some_iff.1 hu).1
        omega
      rw [Addr.add_lit]
      show w.cell? _ = _
      rw [blk_cell hg]
      rw [hnews, List.getElem?_drop, ← ht, List.getElem?_take, if_pos (by omega)] at hu
      simpa [hj] using hu
  obtain ⟨A, hA⟩ : ∃ A, A = (cur.toList.take (i * 10) ++ news ++ cur.toList.drop (i * 10 + news.length)).toArray := ⟨_, rfl⟩
  obtain ⟨R, hR⟩ : ∃ R, R = (A.toList.take ((i + (l.length - (i + 1))) * 10) ++ (mcells m0).toList ++ A.toList.drop ((i + (l.length - (i + 1))) * 10 + (mcells m0).size)).toArray := ⟨_, rfl⟩
  have hAs : A.size = cap * 10 := by
    rw [hA]
    simp only [List.size_toArray, List.length_append, List.length_take, List.length_drop, hnl, Array.length_toList, hcs]
    omega
  have s2 : Hid (∀ u ∈ news, u.oneCell' = true) := by
    intro u hu
    rw [hnews] at hu
    exact mcs_one l u (List.mem_of_mem_drop hu)
  have HE := Lib.hid (fun q => del_own mc_len hi hB hg hnc hcm hcs ht (zs := (mcells m0)) rfl hnews hA hR q)
  obtain ⟨W1, hW1⟩ : ∃ W1, W1 = w.drew.setRow g A := ⟨_, rfl⟩
  have hg1 : W1.heap[g]? = some (.cells A 48 (0, 0)) := by rw [hW1]; exact setRow_heap w.drew g _ A _ _ hg
  have hv23 : ∀ w : World, (zeroValue 48).run Try.prog w = .ok (.agg (mcells m0)) w := fun w => by kernel_rfl
  have hcl : ∀ ty c, (Builtin.clear_ #[40] ty #[.slice (some ⟨g, (i + (l.length - (i + 1))) * 10, none⟩) 1 c]).run Try.prog W1 = .ok (.tuple #[]) (W1.setRow g R) := by
    intro ty c
    have := run_clear_row (P := Try.prog) W1 40 48 ty (.agg (mcells m0)) Try.underlying40 hv23 (by intro u hu; exact mc_one m0 u (by simpa [mc, Value.cells] using hu)) g ((i + (l.length - (i + 1))) * 10) c A hg1 (by rw [hAs]; simp [Value.cells]; omega)
    rw [this, hR]
    simp [Value.cells]
  have HW := Lib.hid hW1
  have HA := Lib.hid hA
  have hHg := Lib.hid (show w.drew.heap[g]? = some (.cells cur 48 (0, 0)) from hg)
  have s1 := Lib.hid hnl
  have s4 : Hid (i * 10 + news.length ≤ cur.size) := by show i * 10 + news.length ≤ cur.size; rw [hnl, hcs]; omega
  rw [← hj] at hcl s1 HE
  have k1 : i < j := by omega
  have k2 : i ≤ cap := by omega
  have k3 : ¬ cap = i + (l.length - j) := by omega
  have k4 : i + (l.length - j) ≤ l.length := by omega
  have k5 : l.length - (i + (l.length - j)) = 1 := by omega
  have k6 : j ≤ l.length := by omega
  have k7 : j ≤ cap := by omega
  have k8 : i + (l.length - j) ≤ cap := by omega
  have hj' := Lib.hid hj
  clear hj hlen hg ht hnews hA hR hAs hW1 hg1 hcs
  go_enter Try.func26, Try.ntmps26
  go_wp2_with fail
  go_region_law (refine step_append_row rfl (.tmp 22) (.tmp 25) 40 rfl 48 i0 10 Try.underlying40 hi0 hz1 g i cap cur hHg.out (by simp [Act.eval, Act.put]) D (l.length - j) (cap - j) news (by simp [Act.eval, Act.put]) s1.out hsrc.out s2.out (by omega) s4.out ?_; rw [← HA.out, ← HW.out])
  go_wp2
  go_ret
  have := HE.out 1
  rw [HW.out]
  exact this



theorem drop_own {T e : TypeId} {w w1 w2 : World} {B b g cap : Nat} {room : Int} {l : List En} {i : Nat} (h : Bg T e 10 mc w B b room l (.slice (some ⟨g, 0, none⟩) l.length cap)) (hb : Below w.heap.size w w1) (hown : w2.ownsRow B e 10 (.slice (some ⟨g, 0, none⟩) (l.length - 1) cap) (l.eraseIdx i).length (cellsOf mc (l.eraseIdx i))) (ho : Only g w1 w2) :
    PutGave T e 10 mc w B b room (l.eraseIdx i) (.slice (some ⟨g, 0, none⟩) l.length cap) (w2.setCell ⟨b, 1, none⟩ (.slice (some ⟨g, 0, none⟩) (l.length - 1) cap)) := by
  have hgb : b ≠ g := fun e => h.off (by rw [e]; rfl)
  have hbl := h.lt
  have hb2 : w2.heap[b]? = some (.cells #[.int .i64 room, .slice (some ⟨g, 0, none⟩) l.length cap] T (0, 0)) := (ho.other b hgb).trans ((hb.block b hbl).trans h.blk)
  refine ⟨.slice (some ⟨g, 0, none⟩) (l.length - 1) cap, ⟨?_, ?_, h.off, h.big⟩, ⟨?_, ?_, ?_, ?_, fun k hk k1 k2 => ?_⟩, fun k hk => .inl hk⟩
  · rw [heap_setCell_same w2 b 1 _ _ _ hb2]
    rfl
  · refine own_block hown fun k hk => ?_
    simp only [Value.ownBlock, Option.some.injEq] at hk
    exact heap_setCell_other _ _ _ _ (by simp only; omega)
  · exact ho.os.trans hb.os
  · exact ho.tape.trans hb.tape
  · exact ho.output.trans hb.output
  · have h3 := hb.size; have h4 := ho.size; simp [World.setCell]; omega
  · exact (heap_setCell_other _ _ _ _ k1).trans ((ho.other k (fun e => k2 (by rw [e]; rfl))).trans (hb.block k hk))

set_option maxHeartbeats 1000000 in
theorem drop_none {w : World} {B b : Nat} {room : Int} {l : List En} {v : Value} (h : BgP w B b room l v) (line : Int) (hl : l.length ≤ 8) (hp : fnd l line = none) :
    Calls Try.prog 20 #[.pointer (some ⟨b, 0, none⟩), .int .i64 line] w fun e w' => e = .returned (.int .i64 5) ∧ Below w.heap.size w w' := by
  have HP := place_any h line (by omega)
  rw [hp] at HP
  have HP := Lib.hid HP
  clear h hp
  go_enter Try.func20, Try.ntmps20
  go_wp2_with fail
  refine HP.out.mono ?_
  rintro e w1 ⟨rfl, hb1⟩
  simp only [oi]
  go_wp2
  go_ret
  exact ⟨rfl, hb1⟩
set_option maxHeartbeats 1000000 in
theorem drop_yes {w : World} {B b : Nat} {room : Int} {l : List En} {g cap : Nat} (h : BgP w B b room l (.slice (some ⟨g, 0, none⟩) l.length cap)) (line : Int) (hl : l.length ≤ 8) {i : Nat} (hp : fnd l line = some i) (hi : i < l.length) :
    Calls Try.prog 20 #[.pointer (some ⟨b, 0, none⟩), .int .i64 line] w fun e w' => e = .returned (.int .i64 0) ∧ PutGave 57 48 10 mc w B b room (l.eraseIdx i) (.slice (some ⟨g, 0, none⟩) l.length cap) w' := by
  have HP := place_any h line (by omega)
  rw [hp] at HP
  have HP := Lib.hid HP
  have hni : ¬ (i : Int) < 0 := by omega
  have hgb : b ≠ g := fun e => h.off (by rw [e]; rfl)
  have HC := Lib.hid (fun w1 (hb : Below w.heap.size w w1) => blk_cell (h.below hb).blk)
  have HD : Hid (∀ w1, Below w.heap.size w w1 → Calls Try.prog 26 #[.slice (some ⟨g, 0, none⟩) l.length cap, .int .i64 i, .int .i64 ((i : Int) + 1)] w1 (DelGave 48 10 mc B g l.length cap (l.eraseIdx i) w1)) := Lib.hid (fun w1 hb => by
    have := del_at (h.below hb).row i (i + 1) rfl hi
    rwa [show ((i + 1 : Nat) : Int) = (i : Int) + 1 by omega] at this)
  have HF : Hid (∀ w1 w2, Below w.heap.size w w1 → Only g w1 w2 → w2.heap[b]? = some (.cells #[.int .i64 room, .slice (some ⟨g, 0, none⟩) l.length cap] 57 (0, 0))) := Lib.hid (fun w1 w2 hb ho => (ho.other b hgb).trans (h.below hb).blk)
  have HE := Lib.hid (fun w1 w2 (hb : Below w.heap.size w w1) hown ho => drop_own (w2 := w2) (i := i) h hb hown ho)
  clear h hp
  go_enter Try.func20, Try.ntmps20
  go_wp2_with fail
  refine HP.out.mono ?_
  rintro e w1 ⟨rfl, hb1⟩
  simp only [oi]
  have c1 := HC.out _ hb1 1
  simp at c1
  go_wp2_with fail
  refine (HD.out _ hb1).mono ?_
  rintro e w2 ⟨rfl, hown, ho⟩
  have hbk := HF.out _ _ hb1 ho
  have R := Lib.hid (HE.out _ _ hb1 hown ho)
  have c2 := blk_cell hbk 1
  have f2 := blk_free hbk 1
  simp at c2
  clear hown ho hbk c1
  go_wp2
  go_ret
  exact ⟨rfl, R.out⟩
/-- Drop. -/
theorem drop_any {w : World} {B b : Nat} {room : Int} {l : List En} {v : Value} (h : BgP w B b room l v) (line : Int) (hl : l.length ≤ 8) :
    Calls Try.prog 20 #[.pointer (some ⟨b, 0, none⟩), .int .i64 line] w (GaveP w B b room v (dropP l line)) := by
  rcases hp : fnd l line with _ | i
  · rw [dropP_none hp]
    exact (drop_none h line hl hp).mono fun e w' ⟨h1, h2⟩ => ⟨h1, gave_same h h2⟩
  · obtain ⟨x, hx, _, hi⟩ := fnd_some hp
    obtain ⟨g, cap, rfl, _⟩ := h.one hx
    rw [dropP_yes hp]
    exact (drop_yes h line hl hp hi).mono fun e w' ⟨h1, h2⟩ => ⟨h1, h2⟩

end Go.Proofs.Ytlhecliamhjobaa
