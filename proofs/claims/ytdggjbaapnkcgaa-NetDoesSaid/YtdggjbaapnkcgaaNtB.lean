/-
  Bags of messages: Delete, New, Left, At, Clone, List, Put and Take, one contract each (as BgK to BgN have it, of the messages of layer 5).
-/
import Derived.Test.YtdggjbaapnkcgaaNtA
namespace Go.Proofs.Ytdggjbaapnkcgaa
open Go Go.RowKit

abbrev Mg := Msg
abbrev mga (m : Mg) : Array Value := mcells m
def mg (m : Mg) : List Value := (mga m).toList
theorem mg_len (m : Mg) : (mg m).length = 15 := rfl
theorem mg_cells (l : List Mg) : ∀ u ∈ cellsOf mg l, u.oneCell' = true := by
  intro u hu
  obtain ⟨m, _, hm⟩ := List.mem_flatMap.1 hu
  simp [mg] at hm
  rcases hm with rfl | rfl | rfl | rfl | rfl | rfl | rfl | rfl | rfl | rfl | rfl | rfl | rfl | rfl | rfl <;> rfl
theorem A52 : (Try.prog.info? 37).map (fun i => (i.zero, i.size, i.bytes)) = some (some (.agg (mga m0)), 15, 120) := by kernel_rfl
abbrev BgM := @Bg Mg 77 37 15 mg

set_option maxRecDepth 100000 in
set_option maxHeartbeats 2000000 in
/-- Delete of one thing. -/
theorem delM_at {w : World} {B g cap : Nat} {l : List Mg} (h : w.ownsRow B 37 15 (.slice (some ⟨g, 0, none⟩) l.length cap) l.length (cellsOf mg l)) (i j : Nat) (hj : j = i + 1) (hi : i < l.length) :
    Calls Try.prog 46 #[.slice (some ⟨g, 0, none⟩) l.length cap, .int .i64 i, .int .i64 j] w (DelGave 37 15 mg B g l.length cap (l.eraseIdx i) w) := by
  obtain ⟨i0, hi0, hz0, hz1, hz2⟩ := info_parts A52
  obtain ⟨hlen, hh⟩ := h
  obtain ⟨g', cap', cur, hv, hB, hg, hnc, hcm, hcs, ht⟩ : ∃ g' cap' cur, (Value.slice (some ⟨g, 0, none⟩) l.length cap) = .slice (some ⟨g', 0, none⟩) l.length cap' ∧ B ≤ g' ∧ w.heap[g']? = some (.cells cur 37 (0, 0)) ∧ l.length ≤ cap' ∧ cap' ≤ maxLen ∧ cur.size = cap' * 15 ∧ cur.toList.take (l.length * 15) = cellsOf mg l := by
    rcases hh with ⟨_, h0⟩ | h
    · omega
    · exact h
  obtain ⟨rfl, rfl⟩ : g = g' ∧ cap = cap' := by simpa using hv
  clear hv hh
  obtain ⟨news, hnews⟩ : ∃ news, news = (cellsOf mg l).drop ((i + 1) * 15) := ⟨_, rfl⟩
  have hnl : news.length = (l.length - (i + 1)) * 15 := by rw [hnews, List.length_drop, cellsOf_len mg_len]; omega
  obtain ⟨D, hD, hsrc⟩ : ∃ D : Addr, (if cap = j then some (⟨g, 0, none⟩ : Addr) else some ⟨g, j * 15, none⟩) = some D ∧ Hid (∀ t u, news[t]? = some u → w.drew.cell? (D.add t) = some u) := by
    by_cases hc : cap = j
    · refine ⟨⟨g, 0, none⟩, by simp [hc], fun t u hu => ?_⟩
      have h0 : news.length = 0 := by rw [hnl]; omega
      rw [List.length_eq_zero_iff.1 h0] at hu
      simp at hu
    · refine ⟨⟨g, j * 15, none⟩, by simp [hc], fun t u hu => ?_⟩
      have ht' : t < (l.length - (i + 1)) * 15 := by
        have := (List.getElem?_eq_some_iff.1 hu).1
        omega
      rw [Addr.add_lit]
      show w.cell? _ = _
      rw [blk_cell hg]
      rw [hnews, List.getElem?_drop, ← ht, List.getElem?_take, if_pos (by omega)] at hu
      simpa [hj] using hu
  obtain ⟨A, hA⟩ : ∃ A, A = (cur.toList.take (i * 15) ++ news ++ cur.toList.drop (i * 15 + news.length)).toArray := ⟨_, rfl⟩
  obtain ⟨R, hR⟩ : ∃ R, R = (A.toList.take ((i + (l.length - (i + 1))) * 15) ++ (mga m0).toList ++ A.toList.drop ((i + (l.length - (i + 1))) * 15 + (mga m0).size)).toArray := ⟨_, rfl⟩
  have hAs : A.size = cap * 15 := by
    rw [hA]
    simp only [List.size_toArray, List.length_append, List.length_take, List.length_drop, hnl, Array.length_toList, hcs]
    omega
  have s2 : Hid (∀ u ∈ news, u.oneCell' = true) := by
    intro u hu
    rw [hnews] at hu
    exact mg_cells l u (List.mem_of_mem_drop hu)
  have HE := Lib.hid (fun q => del_own mg_len hi hB hg hnc hcm hcs ht (zs := (mga m0)) rfl hnews hA hR q)
  obtain ⟨W1, hW1⟩ : ∃ W1, W1 = w.drew.setRow g A := ⟨_, rfl⟩
  have hg1 : W1.heap[g]? = some (.cells A 37 (0, 0)) := by rw [hW1]; exact setRow_heap w.drew g _ A _ _ hg
  have hv23 : ∀ w : World, (zeroValue 37).run Try.prog w = .ok (.agg (mga m0)) w := fun w => by kernel_rfl
  have hcl : ∀ ty c, (Builtin.clear_ #[46] ty #[.slice (some ⟨g, (i + (l.length - (i + 1))) * 15, none⟩) 1 c]).run Try.prog W1 = .ok (.tuple #[]) (W1.setRow g R) := by
    intro ty c
    have := run_clear_row (P := Try.prog) W1 46 37 ty (.agg (mga m0)) Try.underlying46 hv23 (by intro u hu; exact mg_cells [m0] u (by simpa [cellsOf, mg, Value.cells] using hu)) g ((i + (l.length - (i + 1))) * 15) c A hg1 (by rw [hAs]; simp [Value.cells]; omega)
    rw [this, hR]
    simp [Value.cells]
  have HW := Lib.hid hW1
  have HA := Lib.hid hA
  have hHg := Lib.hid (show w.drew.heap[g]? = some (.cells cur 37 (0, 0)) from hg)
  have s1 := Lib.hid hnl
  have s4 : Hid (i * 15 + news.length ≤ cur.size) := by show i * 15 + news.length ≤ cur.size; rw [hnl, hcs]; omega
  rw [← hj] at hcl s1 HE
  have k1 : i < j := by omega
  have k2 : i ≤ cap := by omega
  have k3 : ¬ cap = i + (l.length - j) := by omega
  have k4 : i + (l.length - j) ≤ l.length := by omega
  have k5 : l.length - (i + (l.length - j)) = 1 := by omega
  have k6 : j ≤ l.length := by omega
  have k7 : j ≤ cap := by omega
  have k8 : i + (l.length - j) ≤ cap := by omega
  have hj' := Lib.hid hj
  clear hj hlen hg ht hnews hA hR hAs hW1 hg1 hcs
  go_enter Try.func46, Try.ntmps46
  go_wp2_with fail
  go_region_law (refine step_append_row rfl (.tmp 22) (.tmp 25) 46 rfl 37 i0 15 Try.underlying46 hi0 hz1 g i cap cur hHg.out (by simp [Act.eval, Act.put]) D (l.length - j) (cap - j) news (by simp [Act.eval, Act.put]) s1.out hsrc.out s2.out (by omega) s4.out ?_; rw [← HA.out, ← HW.out])
  go_wp2
  go_ret
  have := HE.out 1
  rw [HW.out]
  exact this


theorem results_cell_two {P : Program} {fn : Func} {p q : Tmp} {ty : TypeId} (h : fn.results = #[.cell p ty, .tmp q]) (tmps : Array Value) (w : World) (g : Nat) (t : TypeId) (cs : Array Value) (fr : Nat × Nat) (d : TypeDesc)
    (hp : tmps.getD p undef = .pointer (some ⟨g, 0, none⟩)) (hg : w.heap[g]? = some (.cells cs t fr))
    (hu : P.underlying ty = some d) (hd : (match d with | .struct _ | .array _ _ => true | _ => false) = true) (hi : (P.info? ty).map (·.size) = some cs.size) :
    (results fn tmps).run P w = .ok (.tuple #[.agg cs, tmps.getD q undef]) w := by
  have hp' : tmps[p]?.getD undef = .pointer (some ⟨g, 0, none⟩) := by simpa using hp
  simp [results, h, hp', asAddr, run_loadVar_row w g t ty cs fr d hg hu hd hi]

theorem newM_no (room : Int) (w : World) (h : room < 1 ∨ 4096 < room) :
    Calls Try.prog 25 #[.int .i64 room] w fun e w' => e = .returned (.tuple #[.pointer none, .int .i64 1]) ∧ w = w' := by
  rcases h with h | h
  · go_enter Try.func25, Try.ntmps25
    go_wp2
    go_ret2
    exact ⟨rfl, rfl⟩
  · have h1 : ¬ room < 1 := by omega
    go_enter Try.func25, Try.ntmps25
    go_wp2
    go_ret2
    exact ⟨rfl, rfl⟩
theorem newM_yes (room : Int) (w : World) (h : 1 ≤ room) (h2 : room ≤ 4096) :
    Calls Try.prog 25 #[.int .i64 room] w fun e w' => e = .returned (.tuple #[.pointer (some ⟨w.heap.size, 0, none⟩), .int .i64 0]) ∧ w.alloc (.cells #[.int .i64 room, .slice none 0 0] 77) = w' := by
  go_enter Try.func25, Try.ntmps25
  go_wp2
  go_ret2
  exact ⟨rfl, rfl⟩

theorem leftM_any {w : World} {B b : Nat} {room : Int} {l : List Mg} {v : Value} (h : BgM w B b room l v) (h1 : 0 ≤ room) (h2 : room ≤ 4096) (hl : l.length ≤ 5000) :
    Calls Try.prog 29 #[.pointer (some ⟨b, 0, none⟩)] w fun e w' => e = .returned (.int .i64 (room - l.length)) ∧ ∃ n, w' = w.drewN n := by
  obtain ⟨p, cap, rfl, -⟩ := h.form
  have c0 := blk_cell h.blk 0
  have c1 := blk_cell h.blk 1
  simp at c0 c1
  clear h
  go_enter Try.func29, Try.ntmps29
  go_wp2
  go_quiet (fail)
  go_wp2
  go_ret
  exact ⟨rfl, _, rfl⟩

/-- What a call gives that tells a message, and something beside it. -/
def RetM (w : World) (m : Mg) (q : Value) (e : Ending) (w' : World) : Prop := e = .returned (.tuple #[.agg (mga m), q]) ∧ Below w.heap.size w w'
theorem at_ret {w wr : World} {m : Mg} {q : Value} {a : Act} {g : Nat} (hp : a.tmps.getD 4 undef = .pointer (some ⟨g, 0, none⟩)) (hq : a.tmps.getD 5 undef = q) (hd : a.defers = []) (hg : wr.heap[g]? = some (.cells (mga m) 37 (0, 0))) (hb : Below w.heap.size w wr) :
    bodyPost Try.prog Try.f28 (RetM w m q) Exit.ret a wr :=
  bodyPost_ret (v := .tuple #[.agg (mga m), a.tmps.getD 5 undef]) (results_cell_two Try.results28 _ _ g 37 _ (0, 0) _ hp hg Try.underlying37 rfl (by kernel_rfl)) hd ⟨by rw [hq], hb⟩
theorem new_at2 (w : World) (A B : Obj) : ((w.alloc A).alloc B).heap[w.heap.size + 1]? = some B := by
  have h1 := heap_alloc_new (w.alloc A) B
  have e1 : (w.alloc A).heap.size = w.heap.size + 1 := by simp
  rwa [e1] at h1
theorem new_at1 (w : World) (A B : Obj) : ((w.alloc A).alloc B).heap[w.heap.size]? = some A := by
  rw [Below.heap_alloc _ _ _ (by simp)]
  exact heap_alloc_new w A

set_option maxHeartbeats 1000000 in
theorem atM_no {w : World} {B b : Nat} {room : Int} {l : List Mg} {v : Value} (h : BgM w B b room l v) (at_ : Int) (hl : l.length ≤ 5000) (hn : at_ < 0 ∨ (l.length : Int) ≤ at_) :
    Calls Try.prog 28 #[.pointer (some ⟨b, 0, none⟩), .int .i64 at_] w (RetM w m0 (.bool false)) := by
  obtain ⟨p, cap, rfl, -⟩ := h.form
  have c1 := blk_cell h.blk 1
  simp at c1
  have hbw := h.lt
  have ca : ∀ o, (w.alloc o).cell? ⟨b, 1, none⟩ = some (.slice p l.length cap) := fun o => Lib.cell?_alloc_some o c1
  clear h
  rcases hn with hn | hn
  · go_enter Try.func28, Try.ntmps28
    go_wp2_with ((with_reducible refine wpList_store_row (o := ⟨none, _, _, _, _, _⟩) rfl 37 (.tmp 4) (.tmp 18) rfl w.heap.size (mga m0) ?sx ?sy 37 ?old ?sg ?si ?so ?s1 ?_); (case sx => rfl); (case sy => rfl); (case sg => exact new_at1 w _ _); (case si => kernel_rfl); (case so => rfl); (case s1 => kernel_rfl))
    exact at_ret rfl rfl rfl (setRow_heap _ _ _ _ _ _ (new_at1 w _ _)) (below_setRow (((Below.refl _ _).alloc (Nat.le_refl _) _).alloc (by simp) _) (Nat.le_refl _) _)
  · have hn1 : ¬ at_ < 0 := by omega
    go_enter Try.func28, Try.ntmps28
    go_wp2_with ((with_reducible refine wpList_store_row (o := ⟨none, _, _, _, _, _⟩) rfl 37 (.tmp 4) (.tmp 18) rfl w.heap.size (mga m0) ?sx ?sy 37 ?old ?sg ?si ?so ?s1 ?_); (case sx => rfl); (case sy => rfl); (case sg => exact new_at1 w _ _); (case si => kernel_rfl); (case so => rfl); (case s1 => kernel_rfl))
    exact at_ret rfl rfl rfl (setRow_heap _ _ _ _ _ _ (new_at1 w _ _)) (below_setRow (((Below.refl _ _).alloc (Nat.le_refl _) _).alloc (by simp) _) (Nat.le_refl _) _)

theorem mg_range {w : World} {B : Nat} {l : List Mg} {g cap : Nat} (h : w.ownsRow B 37 15 (.slice (some ⟨g, 0, none⟩) l.length cap) l.length (cellsOf mg l)) {i : Nat} {x : Mg} (hx : l[i]? = some x) : w.rangeAt g (i * 15) (mg x) := by
  obtain ⟨hi, rfl⟩ := List.getElem?_eq_some_iff.1 hx
  intro j v hv
  have hj : j < 15 := by
    have := (List.getElem?_eq_some_iff.1 hv).1
    rwa [mg_len] at this
  rw [h.cellAt (i * 15 + j) (by omega), cellsOf_at mg_len l i j hi hj]
  exact hv

set_option maxHeartbeats 1000000 in
theorem atM_yes {w : World} {B b : Nat} {room : Int} {l : List Mg} {v : Value} (h : BgM w B b room l v) (i : Nat) (x : Mg) (hl : l.length ≤ 5000) (hx : l[i]? = some x) :
    Calls Try.prog 28 #[.pointer (some ⟨b, 0, none⟩), .int .i64 i] w (RetM w x (.bool true)) := by
  have hi : i < l.length := (List.getElem?_eq_some_iff.1 hx).1
  obtain ⟨p, cap, rfl, hp⟩ := h.form
  obtain ⟨g, rfl⟩ := hp (by omega)
  have c1 := blk_cell h.blk 1
  simp at c1
  have ca : ∀ o, (w.alloc o).cell? ⟨b, 1, none⟩ = some (.slice (some ⟨g, 0, none⟩) l.length cap) := fun o => Lib.cell?_alloc_some o c1
  have HR := Lib.hid (mg_range h.row hx)
  clear h hp hx
  go_enter Try.func28, Try.ntmps28
  go_wp2_with (first
    | ((with_reducible refine wpList_load_mid (op := ⟨some 25, _, _, _, _, _⟩) rfl 37 (.tmp 24) rfl g (i * 15) ?lx (mg x) _ ?lc Try.underlying37 ?ld ?li ?_); (case lx => rfl); (case lc => exact World.rangeAt_alloc HR.out _); (case ld => rfl); (case li => kernel_rfl))
    | ((with_reducible refine wpList_store_row (o := ⟨none, _, _, _, _, _⟩) rfl 37 (.tmp 4) (.tmp 25) rfl w.heap.size (mga x) ?sx ?sy 37 ?old ?sg ?si ?so ?s1 ?_); (case sx => rfl); (case sy => rfl); (case sg => exact heap_alloc_new w _); (case si => kernel_rfl); (case so => rfl); (case s1 => kernel_rfl)))
  exact at_ret rfl rfl rfl (setRow_heap _ _ _ _ _ _ (heap_alloc_new w _)) (below_setRow ((Below.refl _ _).alloc (Nat.le_refl _) _) (Nat.le_refl _) _)



/-- Clone. -/
theorem cloneM_any {w : World} {B : Nat} {v : Value} {l : List Mg} (h : w.ownsRow B 37 15 v l.length (cellsOf mg l)) (hl : l.length ≤ 5000) :
    Calls Try.prog 47 #[v] w (RowGave 37 15 mg l w) := by
  obtain ⟨i0, hi0, hz0, hz1, hz2⟩ := info_parts A52
  have hq := fun (w : World) (a : Option Addr) (n c n' c' : Nat) => Lib.run_eql_slice_nil (P := Try.prog) w 46 37 a n c n' c' Try.underlying46
  rcases h.2 with ⟨rfl, h0⟩ | ⟨g, cap, cur, rfl, hb, hg, rest⟩
  · have e : l = [] := List.eq_nil_of_length_eq_zero h0
    subst e
    clear h h0 hl
    go_enter Try.func47, Try.ntmps47
    go_wp2
    go_ret
    exact ⟨_, rfl, World.ownsRow_nil _ _ _ _, Below.refl _ _⟩
  · have hcell := h.cells (g := g) rfl
    have HC := Lib.hid hcell
    have HL := Lib.hid (cellsOf_len mg_len l)
    have H1 : Hid (∀ u ∈ cellsOf mg l, u.oneCell' = true) := Lib.hid (mg_cells l)
    clear h hcell hg rest
    go_enter Try.func47, Try.ntmps47
    go_wp2_with (at_builtin; refine wpList_append_own _ rfl (.tmp 5) (.tmp 6) 46 rfl w.heap.size 37 i0 (.agg (mga m0)) 15 120 Try.underlying46 hi0 hz0 hz1 hz2 rfl (by decide) _ _ _ rfl (World.ownsRow_made w #[] 0 (Nat.le_refl _) (Nat.zero_le _) rfl) ⟨g, 0, none⟩ l.length cap (cellsOf mg l) rfl HL.out ?c1 H1.out ?c3 ?c4 ?c5 ?_)
    case c1 => exact fun j u hj => (Lib.cell?_alloc_some _ (HC.out j u hj))
    case c3 => simp only [maxLen]; omega
    case c4 => omega
    case c5 => simp
    intro v' w1 hown hgrow hnil
    go_wp2
    go_ret
    exact ⟨v', rfl, by simpa using hown, ((Below.refl _ w).alloc (Nat.le_refl _) _).grown hgrow (by simp) (by intro k hk; simp [Value.ownBlock] at hk; omega)⟩

/-- List. -/
theorem listM_any {w : World} {B b : Nat} {room : Int} {l : List Mg} {v : Value} (h : BgM w B b room l v) (hl : l.length ≤ 5000) :
    Calls Try.prog 34 #[.pointer (some ⟨b, 0, none⟩)] w (RowGave 37 15 mg l w) := by
  have HC := Lib.hid (cloneM_any h.row hl)
  have c1 := blk_cell h.blk 1
  simp at c1
  clear h
  go_enter Try.func34, Try.ntmps34
  go_wp2_with (go_at_call 47; refine HC.out.mono ?_; rintro e w1 ⟨v', rfl, hown, hb⟩)
  go_ret
  exact ⟨v', rfl, hown, hb⟩

/-- Put, where the bag is full. -/
theorem putM_full {w : World} {B b : Nat} {room : Int} {l : List Mg} {v : Value} (h : BgM w B b room l v) (x : Mg) (h1 : 0 ≤ room) (h2 : room ≤ 4096) (hl : room = l.length) :
    Calls Try.prog 32 #[.pointer (some ⟨b, 0, none⟩), .agg (mga x)] w fun e w' => e = .returned (.int .i64 4) ∧ Below w.heap.size w w' := by
  have hz : (room - (l.length : Int) == 0) = true := by simp; omega
  have HL := Lib.hid (leftM_any (h.below ((Below.refl _ w).alloc (Nat.le_refl _) (.cells (mga x) 37))) h1 h2 (by omega))
  clear h hl
  go_enter Try.func32, Try.ntmps32
  go_wp2_with (go_at_call 29; refine HL.out.mono ?_; rintro e w' ⟨rfl, n, rfl⟩)
  go_ret
  exact ⟨rfl, below_drewN ((Below.refl _ w).alloc (Nat.le_refl _) _) _⟩

set_option maxRecDepth 100000 in
set_option maxHeartbeats 2000000 in
theorem putM_ok {w : World} {B b : Nat} {room : Int} {l : List Mg} {v : Value} (h : BgM w B b room l v) (x : Mg) (hB : B ≤ w.heap.size) (h1 : 0 ≤ room) (h2 : room ≤ 4096) (hl : (l.length : Int) < room) :
    Calls Try.prog 32 #[.pointer (some ⟨b, 0, none⟩), .agg (mga x)] w fun e w' => e = .returned (.int .i64 0) ∧ PutGave 77 37 15 mg w B b room (l ++ [x]) v w' := by
  obtain ⟨i0, hi, hz0, hz1, hz2⟩ := info_parts A52
  have hz : (room - (l.length : Int) == 0) = false := by simp; omega
  have hal : Below w.heap.size w (w.alloc (.cells (mga x) 37)) := (Below.refl _ w).alloc (Nat.le_refl _) _
  have HL := Lib.hid (leftM_any (h.below hal) h1 h2 (by omega))
  have hlt := h.lt
  have H := Lib.hid h
  have hll : l.length ≤ 4096 := by omega
  have HAL := Lib.hid hal
  clear h hl hal
  go_enter Try.func32, Try.ntmps32
  go_wp2_with (go_at_call 29; refine HL.out.mono ?_; rintro e w' ⟨rfl, n, rfl⟩)
  obtain ⟨w1, hw1⟩ : ∃ w1, w1 = (w.alloc (.cells (mga x) 37)).drewN n := ⟨_, rfl⟩
  have hb1 : Below w.heap.size w w1 := by rw [hw1]; exact below_drewN HAL.out n
  have hx1 : w1.heap[w.heap.size]? = some (.cells (mga x) 37 (0, 0)) := by rw [hw1]; exact heap_alloc_new w _
  rw [← hw1]
  clear hw1 HL
  have H1 := Lib.hid (H.out.below hb1)
  have c1 := blk_cell H1.out.blk 1
  have f1 := blk_free H1.out.blk 1
  have hlt1 := H1.out.lt
  have cx := fun o => blk_cell hx1 o
  have hsz := hb1.size
  have HB1 := Lib.hid hb1
  simp at c1
  clear hb1 hx1
  go_region_law
    ((refine step_append_lies _ (by rfl) _ _ _ (by rfl) B 37 i0 _ 15 120 Try.underlying46 hi hz0 hz1 hz2 rfl (by omega) v l.length (cellsOf mg l) (by rfl) ((H1.out.row.alloc _).drew)
        ⟨w1.heap.size, 0, none⟩ 1 1 (mg x) (by rfl) (by rfl) (World.news_of_block (cs := mga x) (t := 37) (fr := (0, 0)) (heap_alloc_new w1 _)) (by intro u hu; exact mg_cells [x] u (by simpa [cellsOf] using hu))
        (by omega) (by unfold maxLen; omega) (by omega) (by simp; omega) (w1.heap.size + 1) (by simp) ?_; intro gg cap w2 hown hgrow hat hlt2; have hb2 := put_blk H1.out (((Below.refl _ w1).alloc (Nat.le_refl _) _).drew) hgrow; have c2 := blk_cell hb2 1; have f2 := blk_free hb2 1; simp at c2; clear hb2))
  all_goals
    have R := put_gave H.out ((HB1.out.alloc hsz (.cells (mga x) 37)).drew) hown hgrow (hat.imp id fun h => by omega)
    clear hown hgrow hat hlt2
    go_wp2
    go_ret
    exact ⟨rfl, R⟩



/-- What is behind a Take whose answer has a block of its own. -/
theorem take_row {α : Type} {T e : TypeId} {sz : Nat} {f : α → List Value} {w w1 w2 : World} {B b : Nat} {room : Int} {l m : List α} {g n cap : Nat} (h : Bg T e sz f w B b room l (.slice (some ⟨g, 0, none⟩) n cap)) (hw : Below w.heap.size w w1) (hg : g < w.heap.size)
    (hown : w2.ownsRow B e sz (.slice (some ⟨g, 0, none⟩) (n - 1) cap) m.length (cellsOf f m)) (ho : Only g w1 w2) (cs : Array Value) :
    PutGave T e sz f w B b room m (.slice (some ⟨g, 0, none⟩) n cap) ((w2.setCell ⟨b, 1, none⟩ (.slice (some ⟨g, 0, none⟩) (n - 1) cap)).setRow w.heap.size cs) := by
  have hbl := h.lt
  have hgb : b ≠ g := fun e => h.off (by rw [e]; rfl)
  have hb2 : w2.heap[b]? = some (.cells #[.int .i64 room, .slice (some ⟨g, 0, none⟩) n cap] T (0, 0)) := (ho.other b hgb).trans ((hw.block b hbl).trans h.blk)
  have hs : ∀ k, k ≠ w.heap.size → ((w2.setCell ⟨b, 1, none⟩ (.slice (some ⟨g, 0, none⟩) (n - 1) cap)).setRow w.heap.size cs).heap[k]? = (w2.setCell ⟨b, 1, none⟩ (.slice (some ⟨g, 0, none⟩) (n - 1) cap)).heap[k]? := fun k hk => setRow_other _ _ _ _ hk
  refine ⟨.slice (some ⟨g, 0, none⟩) (n - 1) cap, ⟨?_, ?_, ?_, h.big⟩, ?_, fun k hk => .inl hk⟩
  · rw [hs b (by omega), heap_setCell_same w2 b 1 _ _ _ hb2]
    rfl
  · refine own_block hown fun k hk => ?_
    simp only [Value.ownBlock, Option.some.injEq] at hk
    subst hk
    exact (hs _ (by omega)).trans (heap_setCell_other _ _ _ _ (by simp only; omega))
  · simpa [Value.ownBlock] using Ne.symm hgb
  · refine ⟨ho.os.trans hw.os, ho.tape.trans hw.tape, ho.output.trans hw.output, ?_, fun k hk h1 h2 => ?_⟩
    · have h3 := hw.size; have h4 := ho.size; simp [World.setCell]; omega
    · exact (hs k (by omega)).trans ((heap_setCell_other _ _ _ _ h1).trans ((ho.other k (fun e => h2 (by rw [e]; rfl))).trans (hw.block k hk)))

/-- What Take of a message gives. -/
def TakM (m : Mg) (n : Int) (P : World → Prop) (e : Ending) (w' : World) : Prop := e = .returned (.tuple #[.agg (mga m), .int .i64 n]) ∧ P w'
theorem tak_ret {wr : World} {m : Mg} {n : Int} {P : World → Prop} {a : Act} {g : Nat} (hp : a.tmps.getD 4 undef = .pointer (some ⟨g, 0, none⟩)) (hq : a.tmps.getD 5 undef = .int .i64 n) (hd : a.defers = []) (hg : wr.heap[g]? = some (.cells (mga m) 37 (0, 0))) (hb : P wr) :
    bodyPost Try.prog Try.f33 (TakM m n P) Exit.ret a wr :=
  bodyPost_ret (v := .tuple #[.agg (mga m), a.tmps.getD 5 undef]) (results_cell_two Try.results33 _ _ g 37 _ (0, 0) _ hp hg Try.underlying37 rfl (by kernel_rfl)) hd ⟨by rw [hq], hb⟩

set_option maxRecDepth 100000 in
set_option maxHeartbeats 1000000 in
theorem takeM_no {w : World} {B b : Nat} {room : Int} {l : List Mg} {v : Value} (h : BgM w B b room l v) (at_ : Int) (hl : l.length ≤ 5000) (hn : at_ < 0 ∨ (l.length : Int) ≤ at_) :
    Calls Try.prog 33 #[.pointer (some ⟨b, 0, none⟩), .int .i64 at_] w (TakM m0 5 (Below w.heap.size w)) := by
  have hal : Below w.heap.size w (w.alloc (.cells (mga m0) 37)) := (Below.refl _ w).alloc (Nat.le_refl _) _
  have HA := Lib.hid (atM_no (h.below hal) at_ hl hn)
  have HAL := Lib.hid hal
  clear h hn hal
  go_enter Try.func33, Try.ntmps33
  go_wp2_with fail
  refine HA.out.mono ?_
  rintro e w1 ⟨rfl, hb1⟩
  have h1 := (hb1.block w.heap.size (by simp)).trans (heap_alloc_new w _)
  have hbb := bstep HAL.out hb1
  have hz1 : w.heap.size < w1.heap.size := lt_of_block h1
  clear hb1
  go_wp2_with ((with_reducible refine wpList_store_row (o := ⟨none, _, _, _, _, _⟩) rfl 37 (.tmp 4) (.tmp 16) rfl w.heap.size (mga m0) ?sx ?sy 37 (mga m0) ?sg ?si ?so ?s1 ?_); (case sx => rfl); (case sy => rfl); (case sg => exact (Below.heap_alloc _ _ _ hz1).trans h1); (case si => kernel_rfl); (case so => rfl); (case s1 => kernel_rfl))
  exact tak_ret rfl rfl rfl (setRow_heap _ _ _ _ _ _ ((Below.heap_alloc _ _ _ hz1).trans h1)) (below_setRow (hbb.alloc (Nat.le_of_lt hz1) _) (Nat.le_refl _) _)

set_option maxRecDepth 100000 in
set_option maxHeartbeats 2000000 in
theorem takeM_yes {w : World} {B b : Nat} {room : Int} {l : List Mg} {v : Value} (h : BgM w B b room l v) (i : Nat) (x : Mg) (hl : l.length ≤ 5000) (hx : l[i]? = some x) :
    Calls Try.prog 33 #[.pointer (some ⟨b, 0, none⟩), .int .i64 i] w (TakM x 0 (PutGave 77 37 15 mg w B b room (l.eraseIdx i) v)) := by
  have hal : Below w.heap.size w (w.alloc (.cells (mga m0) 37)) := (Below.refl _ w).alloc (Nat.le_refl _) _
  have HA := Lib.hid (atM_yes (h.below hal) i x hl hx)
  have HAL := Lib.hid hal
  have hi : i < l.length := (List.getElem?_eq_some_iff.1 hx).1
  obtain ⟨p, cap, rfl, hp⟩ := h.form
  obtain ⟨g, rfl⟩ := hp (by omega)
  have hgb : b ≠ g := fun e => h.off (by rw [e]; rfl)
  have hbl := h.lt
  have hgl := (h.row.lt g rfl).2
  have H := Lib.hid h
  clear h hp hx hal
  go_enter Try.func33, Try.ntmps33
  go_wp2_with fail
  refine HA.out.mono ?_
  rintro e w1 ⟨rfl, hb1⟩
  have h1 := (hb1.block w.heap.size (by simp)).trans (heap_alloc_new w _)
  have hbb := bstep HAL.out hb1
  have hz1 : w.heap.size < w1.heap.size := lt_of_block h1
  have hbx := hbb.alloc (Nat.le_of_lt hz1) (.cells (mga x) 37)
  have c1 := blk_cell ((hbx.block b hbl).trans H.out.blk) 1
  simp at c1
  have HB1 := Lib.hid hb1
  clear hb1
  go_wp2_with fail
  have HD := Lib.hid (fun (W : World) (hw : W.ownsRow B 37 15 (.slice (some ⟨g, 0, none⟩) l.length cap) l.length (cellsOf mg l)) => delM_at hw i (i + 1) rfl hi)
  refine (HD.out _ (own_block H.out.row fun k hk => hbx.block k (H.out.row.lt k hk).2)).mono ?_
  rintro e w2 ⟨rfl, hown, ho⟩
  have hb2 := (ho.other b hgb).trans ((hbx.block b hbl).trans H.out.blk)
  have c2 := blk_cell hb2 1
  have f2 := blk_free hb2 1
  simp at c2
  have h6 := (ho.other w1.heap.size (by omega)).trans (heap_alloc_new w1 _)
  have h4 := (ho.other w.heap.size (by omega)).trans ((Below.heap_alloc w1 (.cells (mga x) 37) w.heap.size hz1).trans h1)
  have HO := Lib.hid hown
  have HG := Lib.hid ho
  have HX := Lib.hid hbx
  have h6' := fun u => (heap_setCell_other w2 ⟨b, 1, none⟩ w1.heap.size u (by simp only; omega)).trans h6
  have h4' := fun u => (heap_setCell_other w2 ⟨b, 1, none⟩ w.heap.size u (by simp only; omega)).trans h4
  clear hb2 hown ho c1 hbx h6 h4 h1
  go_wp2_with (first
    | ((with_reducible refine wpList_load_row (o := ⟨some 28, _, _, _, _, _⟩) rfl 37 (.tmp 6) rfl w1.heap.size ?lx 37 (mga x) (0, 0) _ ?lg Try.underlying37 ?ld ?li ?_); (case lx => rfl); (case lg => exact h6' _); (case ld => rfl); (case li => kernel_rfl))
    | ((with_reducible refine wpList_store_row (o := ⟨none, _, _, _, _, _⟩) rfl 37 (.tmp 4) (.tmp 28) rfl w.heap.size (mga x) ?sx ?sy 37 (mga m0) ?sg ?si ?so ?s1 ?_); (case sx => rfl); (case sy => rfl); (case sg => exact h4' _); (case si => kernel_rfl); (case so => rfl); (case s1 => kernel_rfl)))
  exact tak_ret rfl rfl rfl (setRow_heap _ _ _ _ _ _ (h4' _)) (take_row H.out HX.out hgl HO.out HG.out _)

end Go.Proofs.Ytdggjbaapnkcgaa
