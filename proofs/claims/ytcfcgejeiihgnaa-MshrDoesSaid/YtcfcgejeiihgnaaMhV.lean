/-
  The document's Ack, Data and Grant.
-/
import Derived.Test.YtcfcgejeiihgnaaMhU
import Derived.Test.YtcfcgejeiihgnaaMhG
namespace Go.Proofs.Ytcfcgejeiihgnaa
open Go Go.RowKit


theorem run_storeVar_any {P : Program} (w : World) (b o : Nat) (ty : TypeId) (v : Value) (ht : w.there b o v.cells.size) (hi : (P.info? ty).map (·.size) = some v.cells.size) (h1 : ∀ u ∈ v.cells.toList, u.oneCell' = true) :
    (storeVar ty ⟨b, o, none⟩ v).run P w = .ok () (w.setCells b o v.cells.toList) := by
  have := run_storeCells_cells (P := P) b o v.cells.toList 0 w (fun j hj => by simpa using (ht j (by simpa using hj)).1) (fun j hj => by simpa using (ht j (by simpa using hj)).2) h1
  cases hq : P.info? ty with
  | none => simp [hq] at hi
  | some i =>
    have hs : v.cells.size = i.size := by simp [hq] at hi; omega
    simp only [Nat.add_zero] at this
    simp [storeVar, sizeOf, typeInfo, hq, hs, this]
/-- A store into a block that is known whole: the world behind it is a variable. -/
theorem wpList_store_own {P : Program} {ops : Array Oper} {rest : List Oper} {op : Oper} {a : Act} {w : World} {Q : Exit → Act → World → Prop} (hgd : op.guard = none) (ty : TypeId) (x y : Operand) (ho : op.op = .store ty x y)
    (b o : Nat) (v : Value) (hx : a.eval x = .pointer (some ⟨b, o, none⟩)) (hy : a.eval y = v) (cur : Array Value) (t : TypeId) (hg : w.heap[b]? = some (.cells cur t (0, 0))) (hi : (P.info? ty).map (·.size) = some v.cells.size) (hfit : o + v.cells.size ≤ cur.size) (h1 : ∀ u ∈ v.cells.toList, u.oneCell' = true)
    (new : Array Value) (hnew : (cur.toList.take o ++ v.cells.toList ++ cur.toList.drop (o + v.cells.toList.length)).toArray = new)
    (h : ∀ w', w'.heap[b]? = some (.cells new t (0, 0)) → w'.os = w.os → w'.tape = w.tape → w'.output = w.output → w'.heap.size = w.heap.size → (∀ k, k ≠ b → w'.heap[k]? = w.heap[k]?) → wpList P ops Q rest (a.put op.dst undef) w') : wpList P ops Q (op :: rest) a w := by
  refine wpList_plain hgd fun K hK => ?_
  have hth : w.there b o v.cells.size := fun j hj => ⟨by rw [blk_cell hg, Array.getElem?_eq_getElem (by omega)]; rfl, blk_free hg _⟩
  have hrun := run_storeVar_any (P := P) w b o ty v hth hi h1
  unfold Oper.wp execOp
  simp only [ho, hx, hy, Instr.storeAt, Instr.sureAddr, Sem.run_bind, Sem.run_pure, Result.andThen_ok, hrun]
  obtain ⟨r1, r2, r3, r4⟩ := setCells_rest b v.cells.toList o w
  refine hK _ _ (h _ ?_ r1 r2 r3 r4 (fun k hk => heap_setCells_other b _ o w k hk))
  rw [heap_setCells_row b t v.cells.toList o cur w hg (by simpa using hfit), hnew]
theorem below_part {B K : Nat} {w w1 w2 : World} (h : Below B w w1) (hK : B ≤ K) (r1 : w2.os = w1.os) (r2 : w2.tape = w1.tape) (r3 : w2.output = w1.output) (r4 : w2.heap.size = w1.heap.size) (r5 : ∀ k, k ≠ K → w2.heap[k]? = w1.heap[k]?) : Below B w w2 :=
  h.trans ⟨r1, r2, r3, by omega, fun k hk => r5 k (by omega)⟩
theorem below_box (wr : World) (o : Obj) (cs : Array Value) : Below wr.heap.size wr ((wr.alloc o).setRow wr.heap.size cs) := below_setRow (balloc wr o) (Nat.le_refl _) _

set_option maxHeartbeats 1000000 in
theorem refAck_any {w : World} {B b : Nat} {room k : Int} {l : List Ms} {v : Value} (h : BgD w B b room l v) (gd : Good room k l) (hk9 : k ≤ 1000) (line : Int) :
    Calls Try.prog 25 #[.pointer (some ⟨b, 0, none⟩), .int .i64 line] w (GaveD w B b room v (chg l line ackF)) := by
  have hl := gd.len
  have hr8 := gd.r2
  have HEl : ∀ n, chg l line ackF = (n, l) → Hid (∀ w', Below w.heap.size w w' → GaveD w B b room v (chg l line ackF) (.returned (.int .i64 n)) w') := fun n e => Lib.hid (fun w' hb => by
    rw [e]
    exact ⟨rfl, gave_same h hb⟩)
  have HP := refPlace_any h line (by omega)
  rcases hp : fnd l line with _ | i
  · have HE := HEl 5 (chg_none _ hp)
    rw [hp] at HP
    have HP := Lib.hid HP
    clear h HEl hp gd
    go_enter Try.func25, Try.ntmps25
    go_wp2_with fail
    refine HP.out.mono ?_
    rintro e w1 ⟨rfl, rfl⟩
    simp only [oi]
    go_wp2
    go_ret
    exact HE.out _ (Below.refl _ _)
  · obtain ⟨x, hx, _, hi⟩ := fnd_some hp
    rw [hp] at HP
    have HP := Lib.hid HP
    have hok := gd.at hx
    have hgk := hok.gk
    have hg0 := hok.g0
    obtain ⟨g, cap, rfl, hbg, hgl, hBg, hr, hfz, _, _⟩ := h.one hx
    have c1 := blk_cell h.blk 1
    simp at c1
    have hni : ¬ (i : Int) < 0 := by omega
    have HA := Lib.hid (fun w1 (hb : Below w.heap.size w w1) => (h.below hb).at1 hx)
    have HR := Lib.hid hr
    have HC := Lib.hid (fun w1 (hb : Below w.heap.size w w1) => blk_cell (h.below hb).blk 1)
    have hcs : ((x.kd == 1) = true ∨ (x.kd == 1) = false ∧ 0 ≤ x.nd ∧ x.nd ≤ x.gt) ∧ ackF x = none ∨ ((x.kd == 1) = false ∧ (x.nd < 0 ∧ decide (0 ≤ x.nd) = false ∨ 0 ≤ x.nd ∧ x.gt < x.nd ∧ decide (x.nd ≤ x.gt) = false)) ∧ ackF x = some (ackY x) := by
      have hgn := hok.gn
      have hnd := hok.nd
      rcases Bool.eq_false_or_eq_true (x.kd == 1) with hk | hk
      · exact .inl ⟨.inl hk, ackF_no (by simp [hk])⟩
      · by_cases h0 : 0 ≤ x.nd
        · by_cases h1 : x.nd ≤ x.gt
          · refine .inl ⟨.inr ⟨hk, h0, h1⟩, ackF_no ?_⟩
            have h2 := hgn (by omega)
            simp [came, knw]
            omega
          · refine .inr ⟨⟨hk, .inr ⟨h0, by omega, by simpa using h1⟩⟩, ackF_yes ?_⟩
            simp [hk, came, knw]
            omega
        · refine .inr ⟨⟨hk, .inl ⟨by omega, by simpa using h0⟩⟩, ackF_yes ?_⟩
          have : x.nd = -1 := by omega
          simp [hk, came, knw, this]
    rcases hcs with ⟨hcc, hf⟩ | ⟨⟨hkd, hcc⟩, hf⟩
    · have HE := HEl 7 (chg_no hp hx hf)
      clear h HEl hp hx hr hfz gd hok hf
      rcases hcc with hkd | ⟨hkd, hn1, hn2⟩
      all_goals
        go_enter Try.func25, Try.ntmps25
        go_wp2_with fail
        refine HP.out.mono ?_
        rintro e w1 ⟨rfl, rfl⟩
        simp only [oi]
        have HB := Lib.hid (below_box w (.cells #[.int .i64 0, .int .i64 0, .int .i64 0, .int .i64 0, .int .i64 0, .int .i64 0, .int .i64 0, .int .i64 0, .int .i64 0, .int .i64 0, .int .i64 0, .int .i64 0, .int .i64 0, .bool false, .bool false] 39) (mcells x))
        have HX := Lib.hid (blk_cell (setRow_heap (w.alloc (.cells #[.int .i64 0, .int .i64 0, .int .i64 0, .int .i64 0, .int .i64 0, .int .i64 0, .int .i64 0, .int .i64 0, .int .i64 0, .int .i64 0, .int .i64 0, .int .i64 0, .int .i64 0, .bool false, .bool false] 39)) w.heap.size _ (mcells x) _ _ (heap_alloc_new w (.cells #[.int .i64 0, .int .i64 0, .int .i64 0, .int .i64 0, .int .i64 0, .int .i64 0, .int .i64 0, .int .i64 0, .int .i64 0, .int .i64 0, .int .i64 0, .int .i64 0, .int .i64 0, .bool false, .bool false] 39))))
        go_wp2_with (first
          | ((with_reducible refine wpList_load_mid (op := ⟨some 18, _, _, _, _, _⟩) rfl 39 (.tmp 17) rfl g (i * 15) ?lx (mc x) _ ?lc Try.underlying39 ?ld ?li ?_); (case lx => rfl); (case lc => exact HR.out); (case ld => rfl); (case li => kernel_rfl))
          | ((with_reducible refine wpList_store_row (o := ⟨none, _, _, _, _, _⟩) rfl 39 (.tmp 6) (.tmp 18) rfl w.heap.size (mcells x) ?sx ?sy 39 ?old ?sg ?si ?so ?s1 ?_); (case sx => rfl); (case sy => rfl); (case old => exact #[.int .i64 0, .int .i64 0, .int .i64 0, .int .i64 0, .int .i64 0, .int .i64 0, .int .i64 0, .int .i64 0, .int .i64 0, .int .i64 0, .int .i64 0, .int .i64 0, .int .i64 0, .bool false, .bool false]); (case sg => exact heap_alloc_new w _); (case si => kernel_rfl); (case so => rfl); (case s1 => kernel_rfl); generalize (w.alloc (.cells #[.int .i64 0, .int .i64 0, .int .i64 0, .int .i64 0, .int .i64 0, .int .i64 0, .int .i64 0, .int .i64 0, .int .i64 0, .int .i64 0, .int .i64 0, .int .i64 0, .int .i64 0, .bool false, .bool false] 39)).setRow w.heap.size (mcells x) = w2 at *; generalize w.heap.size = k6 at *; have hA := HX.out))
        go_ret
        exact HE.out _ HB.out
    · have HE : Hid (∀ w1, Below w.heap.size w w1 → GaveD w B b room (.slice (some ⟨g, 0, none⟩) l.length cap) (chg l line ackF) (.returned (.int .i64 0)) (w1.setCell ⟨g, i * 15 + 3, none⟩ (.int .i64 (x.gt + 1))).drew) := Lib.hid (fun w1 hb => by
        rw [chg_yes hp hx hf]
        refine ⟨rfl, PutGave.drew1 (gave_store h hb hx (ackY x) 3 [.int .i64 (x.gt + 1)] (by simp) (fun m hm => by simp at hm; subst hm; rfl) (fun m hm hm2 => by
          simp at hm2
          rcases (show m = 0 ∨ m = 1 ∨ m = 2 ∨ m = 4 ∨ m = 5 ∨ m = 6 ∨ m = 7 ∨ m = 8 ∨ m = 9 ∨ m = 10 ∨ m = 11 ∨ m = 12 ∨ m = 13 ∨ m = 14 by omega) with rfl | rfl | rfl | rfl | rfl | rfl | rfl | rfl | rfl | rfl | rfl | rfl | rfl | rfl
          all_goals rfl))⟩)
      have hwr : IntKind.i64.wrap (x.gt + 1) = x.gt + 1 := IntWalk.i64_in _ (by omega)
      clear h HEl hp hx hr hfz gd hok hf
      rcases hcc with ⟨hn1, hn2⟩ | ⟨hn1, hn2, hn3⟩
      all_goals
        go_enter Try.func25, Try.ntmps25
        go_wp2_with fail
        refine HP.out.mono ?_
        rintro e w1 ⟨rfl, rfl⟩
        simp only [oi]
        have HB := Lib.hid (below_box w (.cells #[.int .i64 0, .int .i64 0, .int .i64 0, .int .i64 0, .int .i64 0, .int .i64 0, .int .i64 0, .int .i64 0, .int .i64 0, .int .i64 0, .int .i64 0, .int .i64 0, .int .i64 0, .bool false, .bool false] 39) (mcells x))
        have HX := Lib.hid (blk_cell (setRow_heap (w.alloc (.cells #[.int .i64 0, .int .i64 0, .int .i64 0, .int .i64 0, .int .i64 0, .int .i64 0, .int .i64 0, .int .i64 0, .int .i64 0, .int .i64 0, .int .i64 0, .int .i64 0, .int .i64 0, .bool false, .bool false] 39)) w.heap.size _ (mcells x) _ _ (heap_alloc_new w (.cells #[.int .i64 0, .int .i64 0, .int .i64 0, .int .i64 0, .int .i64 0, .int .i64 0, .int .i64 0, .int .i64 0, .int .i64 0, .int .i64 0, .int .i64 0, .int .i64 0, .int .i64 0, .bool false, .bool false] 39))))
        have HT := Lib.hid (HE.out _ HB.out)
        have HA2 := Lib.hid (HA.out _ HB.out)
        have HC2 := Lib.hid (HC.out _ HB.out)
        have hnk : w.heap.size ≠ g := by omega
        clear HE HB HA HC
        go_wp2_with (first
          | ((with_reducible refine wpList_load_mid (op := ⟨some 18, _, _, _, _, _⟩) rfl 39 (.tmp 17) rfl g (i * 15) ?lx (mc x) _ ?lc Try.underlying39 ?ld ?li ?_); (case lx => rfl); (case lc => exact HR.out); (case ld => rfl); (case li => kernel_rfl))
          | ((with_reducible refine wpList_store_row (o := ⟨none, _, _, _, _, _⟩) rfl 39 (.tmp 6) (.tmp 18) rfl w.heap.size (mcells x) ?sx ?sy 39 ?old ?sg ?si ?so ?s1 ?_); (case sx => rfl); (case sy => rfl); (case old => exact #[.int .i64 0, .int .i64 0, .int .i64 0, .int .i64 0, .int .i64 0, .int .i64 0, .int .i64 0, .int .i64 0, .int .i64 0, .int .i64 0, .int .i64 0, .int .i64 0, .int .i64 0, .bool false, .bool false]); (case sg => exact heap_alloc_new w _); (case si => kernel_rfl); (case so => rfl); (case s1 => kernel_rfl); generalize (w.alloc (.cells #[.int .i64 0, .int .i64 0, .int .i64 0, .int .i64 0, .int .i64 0, .int .i64 0, .int .i64 0, .int .i64 0, .int .i64 0, .int .i64 0, .int .i64 0, .int .i64 0, .int .i64 0, .bool false, .bool false] 39)).setRow w.heap.size (mcells x) = w2 at *; generalize w.heap.size = k6 at *; have hA := HX.out; have c2 := HC2.out; have r3 := HA2.out.row 3 _ rfl; have f3 := HA2.out.fz (i * 15 + 3)))
        go_region
        clear hA c2 r3 f3
        go_wp2
        go_ret
        exact HT.out

theorem words_one (d : Wd) : ∀ u ∈ (Value.agg (dcells d)).cells.toList, u.oneCell' = true := by
  intro u hu
  simp [Value.cells] at hu
  rcases hu with rfl | rfl | rfl | rfl | rfl | rfl | rfl | rfl <;> rfl
theorem data_cases {x : Ms} {k acks own : Int} (h : Ok k x) :
    (tkes x acks own = false ∧ (0 ≤ x.nd ∨ (x.nd < 0 ∧ decide (0 ≤ x.nd) = false) ∧ (acks < 0 ∨ (0 ≤ acks ∧ decide (acks < 0) = false) ∧ (acks < x.gt ∨ (x.gt ≤ acks ∧ decide (acks < x.gt) = false) ∧
      (((own != 4) = true ∧ 0 < acks) ∨ ((own != 4) = true ∧ (acks ≤ 0 ∧ decide (0 < acks) = false) ∧ (x.kd == 2) = true) ∨ ((own != 4) = false ∧ (x.kd == 2) = false ∧ (x.kd == 1) = true ∧ (own != 1) = true ∧ (own != 2) = true) ∨ ((own != 4) = true ∧ (acks ≤ 0 ∧ decide (0 < acks) = false) ∧ (x.kd == 2) = false ∧ (x.kd == 1) = true ∧ (own != 1) = true ∧ (own != 2) = true)))))) ∨
    (tkes x acks own = true ∧ (x.nd < 0 ∧ decide (0 ≤ x.nd) = false) ∧ (0 ≤ acks ∧ decide (acks < 0) = false) ∧ (x.gt ≤ acks ∧ decide (acks < x.gt) = false) ∧
      (((own != 4) = false ∧ (x.kd == 2) = true ∧ (x.kd == 1) = false) ∨ ((own != 4) = true ∧ (acks ≤ 0 ∧ decide (0 < acks) = false) ∧ (x.kd == 2) = false ∧ (x.kd == 1) = true ∧ ((own != 1) = false ∨ (own != 1) = true ∧ (own != 2) = false)))) := by
  have hnd := h.nd
  have hg0 := h.g0
  have hkd := h.kd
  by_cases h1 : 0 ≤ x.nd
  · refine .inl ⟨?_, .inl h1⟩
    have : ¬ x.nd = -1 := by omega
    simp [tkes, knw, this]
  · have e1 : x.nd = -1 := by omega
    have n1 : x.nd < 0 ∧ decide (0 ≤ x.nd) = false := ⟨by omega, by simpa using h1⟩
    by_cases h2 : acks < 0
    · refine .inl ⟨?_, .inr ⟨n1, .inl h2⟩⟩
      have : acks < x.gt := by omega
      simp [tkes, this]
    · have n2 : 0 ≤ acks ∧ decide (acks < 0) = false := ⟨by omega, by simpa using h2⟩
      by_cases h3 : acks < x.gt
      · exact .inl ⟨by simp [tkes, h3], .inr ⟨n1, .inr ⟨n2, .inl h3⟩⟩⟩
      · have n3 : x.gt ≤ acks ∧ decide (acks < x.gt) = false := ⟨by omega, by simpa using h3⟩
        have hT : tkes x acks own = if (own == 4) = true then x.kd == 2 else if (own == 1 || own == 2) = true then x.kd == 1 && acks == 0 else false := by
          unfold tkes
          rw [if_neg (by simp [knw, e1]; omega)]
        by_cases h4 : own = 4
        · have m4 : (own != 4) = false := by simp [h4]
          rcases hkd with hk | hk
          · refine .inl ⟨by rw [hT]; simp [h4, hk], .inr ⟨n1, .inr ⟨n2, .inr ⟨n3, .inr (.inr (.inl ⟨m4, by simp [hk], by simp [hk], by simp [h4], by simp [h4]⟩))⟩⟩⟩⟩
          · exact .inr ⟨by rw [hT]; simp [h4, hk], n1, n2, n3, .inl ⟨m4, by simp [hk], by simp [hk]⟩⟩
        · have m4 : (own != 4) = true := by simpa using h4
          by_cases h5 : 0 < acks
          · refine .inl ⟨?_, .inr ⟨n1, .inr ⟨n2, .inr ⟨n3, .inl ⟨m4, h5⟩⟩⟩⟩⟩
            have : ¬ acks = 0 := by omega
            rw [hT]
            simp [h4, this]
          · have n5 : acks ≤ 0 ∧ decide (0 < acks) = false := ⟨by omega, by simpa using h5⟩
            have e5 : acks = 0 := by omega
            rcases hkd with hk | hk
            · by_cases h6 : own = 1
              · exact .inr ⟨by rw [hT]; simp [h6, hk, e5], n1, n2, n3, .inr ⟨m4, n5, by simp [hk], by simp [hk], .inl (by simp [h6])⟩⟩
              · by_cases h7 : own = 2
                · exact .inr ⟨by rw [hT]; simp [h7, hk, e5], n1, n2, n3, .inr ⟨m4, n5, by simp [hk], by simp [hk], .inr ⟨by simpa using h6, by simp [h7]⟩⟩⟩
                · exact .inl ⟨by rw [hT]; simp [h4, h6, h7], .inr ⟨n1, .inr ⟨n2, .inr ⟨n3, .inr (.inr (.inr ⟨m4, n5, by simp [hk], by simp [hk], by simpa using h6, by simpa using h7⟩))⟩⟩⟩⟩
            · refine .inl ⟨?_, .inr ⟨n1, .inr ⟨n2, .inr ⟨n3, .inr (.inl ⟨m4, n5, by simp [hk]⟩)⟩⟩⟩⟩
              rw [hT]
              simp [h4, hk]

set_option maxRecDepth 100000 in
set_option maxHeartbeats 4000000 in
theorem refData_no {w : World} {B b : Nat} {room k : Int} {l : List Ms} {g cap : Nat} (h : BgD w B b room l (.slice (some ⟨g, 0, none⟩) l.length cap)) (line acks own : Int) (d : Wd) (hl8 : l.length ≤ 5000) {i : Nat} {x : Ms} (hp : fnd l line = some i) (hx : l[i]? = some x) (hok : Ok k x) (ht : tkes x acks own = false) :
    Calls Try.prog 23 #[.pointer (some ⟨b, 0, none⟩), .int .i64 line, .int .i64 acks, .int .i64 own, .agg (dcells d)] w fun e w' => e = .returned (.int .i64 7) ∧ Below w.heap.size w w' := by
  have hbx := balloc w (.cells (dcells d) 32)
  have HP := refPlace_any (h.below hbx) line hl8
  rw [hp] at HP
  have HP := Lib.hid HP
  have hi := (List.getElem?_eq_some_iff.1 hx).1
  have hni : ¬ (i : Int) < 0 := by omega
  have c1 := blk_cell (h.below hbx).blk 1
  simp at c1
  have HR := Lib.hid ((h.below hbx).at1 hx).row
  have hbx2 := bstep hbx (below_setRow (balloc (w.alloc (.cells (dcells d) 32)) (.cells #[.int .i64 0, .int .i64 0, .int .i64 0, .int .i64 0, .int .i64 0, .int .i64 0, .int .i64 0, .int .i64 0, .int .i64 0, .int .i64 0, .int .i64 0, .int .i64 0, .int .i64 0, .bool false, .bool false] 39)) (Nat.le_refl _) (mcells x))
  have hrow := setRow_heap ((w.alloc (.cells (dcells d) 32)).alloc (.cells #[.int .i64 0, .int .i64 0, .int .i64 0, .int .i64 0, .int .i64 0, .int .i64 0, .int .i64 0, .int .i64 0, .int .i64 0, .int .i64 0, .int .i64 0, .int .i64 0, .int .i64 0, .bool false, .bool false] 39)) (w.heap.size + 1) _ (mcells x) _ _ (heap_row2 w (.cells (dcells d) 32) #[.int .i64 0, .int .i64 0, .int .i64 0, .int .i64 0, .int .i64 0, .int .i64 0, .int .i64 0, .int .i64 0, .int .i64 0, .int .i64 0, .int .i64 0, .int .i64 0, .int .i64 0, .bool false, .bool false] 39)
  rw [show (w.alloc (.cells (dcells d) 32)).heap.size = w.heap.size + 1 by simp] at hbx2
  have HB := Lib.hid hbx2
  have HX := Lib.hid (blk_cell hrow)
  have hcs := data_cases (acks := acks) (own := own) hok
  rw [ht] at hcs
  rcases hcs with ⟨-, hcs⟩ | ⟨e, _⟩
  · clear h hp hx hok ht hbx hbx2 hrow
    rcases hcs with f1 | ⟨⟨m1, m2⟩, f1 | ⟨⟨m3, m4⟩, f1 | ⟨⟨m5, m6⟩, ⟨f1, f2⟩ | ⟨f1, ⟨f2, f3⟩, f4⟩ | ⟨f1, f2, f3, f4, f5⟩ | ⟨f1, ⟨f2, f3⟩, f4, f5, f6, f7⟩⟩⟩⟩
    all_goals
      go_enter Try.func23, Try.ntmps23
      go_wp2_with fail
      refine HP.out.mono ?_
      rintro e w1 ⟨rfl, rfl⟩
      simp only [oi]
      go_wp2_with (first
        | ((with_reducible refine wpList_load_mid (op := ⟨some 24, _, _, _, _, _⟩) rfl 39 (.tmp 23) rfl g (i * 15) ?lx (mc x) _ ?lc Try.underlying39 ?ld ?li ?_); (case lx => rfl); (case lc => exact HR.out); (case ld => rfl); (case li => kernel_rfl))
        | ((with_reducible refine wpList_store_row (o := ⟨none, _, _, _, _, _⟩) rfl 39 (.tmp 12) (.tmp 24) rfl (w.heap.size + 1) (mcells x) ?sx ?sy 39 ?old ?sg ?si ?so ?s1 ?_); (case sx => rfl); (case sy => rfl); (case old => exact #[.int .i64 0, .int .i64 0, .int .i64 0, .int .i64 0, .int .i64 0, .int .i64 0, .int .i64 0, .int .i64 0, .int .i64 0, .int .i64 0, .int .i64 0, .int .i64 0, .int .i64 0, .bool false, .bool false]); (case sg => exact heap_row2 w _ _ _); (case si => kernel_rfl); (case so => rfl); (case s1 => kernel_rfl); generalize ((w.alloc (.cells (dcells d) 32)).alloc (.cells #[.int .i64 0, .int .i64 0, .int .i64 0, .int .i64 0, .int .i64 0, .int .i64 0, .int .i64 0, .int .i64 0, .int .i64 0, .int .i64 0, .int .i64 0, .int .i64 0, .int .i64 0, .bool false, .bool false] 39)).setRow (w.heap.size + 1) (mcells x) = w2 at *; have hA := HX.out))
      go_ret
      exact ⟨rfl, HB.out⟩
  · cases e

set_option maxRecDepth 100000 in
set_option maxHeartbeats 4000000 in
theorem refData_yes {w : World} {B b : Nat} {room k : Int} {l : List Ms} {g cap : Nat} (h : BgD w B b room l (.slice (some ⟨g, 0, none⟩) l.length cap)) (line acks own : Int) (d : Wd) (hl8 : l.length ≤ 5000) {i : Nat} {x : Ms} (hp : fnd l line = some i) (hx : l[i]? = some x) (hok : Ok k x) (ht : tkes x acks own = true) :
    Calls Try.prog 23 #[.pointer (some ⟨b, 0, none⟩), .int .i64 line, .int .i64 acks, .int .i64 own, .agg (dcells d)] w fun e w' => e = .returned (.int .i64 0) ∧ PutGave 52 39 15 mc w B b room (l.set i (dataY acks own d x)) (.slice (some ⟨g, 0, none⟩) l.length cap) w' := by
  have hbx := balloc w (.cells (dcells d) 32)
  have HP := refPlace_any (h.below hbx) line hl8
  rw [hp] at HP
  have HP := Lib.hid HP
  have hi := (List.getElem?_eq_some_iff.1 hx).1
  have hni : ¬ (i : Int) < 0 := by omega
  have c1 := blk_cell (h.below hbx).blk 1
  simp at c1
  have HR := Lib.hid ((h.below hbx).at1 hx).row
  have hbx2 := bstep hbx (below_setRow (balloc (w.alloc (.cells (dcells d) 32)) (.cells #[.int .i64 0, .int .i64 0, .int .i64 0, .int .i64 0, .int .i64 0, .int .i64 0, .int .i64 0, .int .i64 0, .int .i64 0, .int .i64 0, .int .i64 0, .int .i64 0, .int .i64 0, .bool false, .bool false] 39)) (Nat.le_refl _) (mcells x))
  have hrow := setRow_heap ((w.alloc (.cells (dcells d) 32)).alloc (.cells #[.int .i64 0, .int .i64 0, .int .i64 0, .int .i64 0, .int .i64 0, .int .i64 0, .int .i64 0, .int .i64 0, .int .i64 0, .int .i64 0, .int .i64 0, .int .i64 0, .int .i64 0, .bool false, .bool false] 39)) (w.heap.size + 1) _ (mcells x) _ _ (heap_row2 w (.cells (dcells d) 32) #[.int .i64 0, .int .i64 0, .int .i64 0, .int .i64 0, .int .i64 0, .int .i64 0, .int .i64 0, .int .i64 0, .int .i64 0, .int .i64 0, .int .i64 0, .int .i64 0, .int .i64 0, .bool false, .bool false] 39)
  rw [show (w.alloc (.cells (dcells d) 32)).heap.size = w.heap.size + 1 by simp] at hbx2
  have hwd := (setRow_other ((w.alloc (.cells (dcells d) 32)).alloc (.cells #[.int .i64 0, .int .i64 0, .int .i64 0, .int .i64 0, .int .i64 0, .int .i64 0, .int .i64 0, .int .i64 0, .int .i64 0, .int .i64 0, .int .i64 0, .int .i64 0, .int .i64 0, .bool false, .bool false] 39)) (w.heap.size + 1) w.heap.size (mcells x) (by omega)).trans (new_at1 w (.cells (dcells d) 32) (.cells #[.int .i64 0, .int .i64 0, .int .i64 0, .int .i64 0, .int .i64 0, .int .i64 0, .int .i64 0, .int .i64 0, .int .i64 0, .int .i64 0, .int .i64 0, .int .i64 0, .int .i64 0, .bool false, .bool false] 39))
  have HB := Lib.hid hbx2
  have HX := Lib.hid hrow
  have HWD := Lib.hid hwd
  have hgl := (h.row.lt g rfl).2
  have hk1 : w.heap.size ≠ g := by omega
  have hk2 : w.heap.size + 1 ≠ g := by omega
  have hbl := h.lt
  have hk3 : w.heap.size + 1 ≠ b := by omega
  have HA := Lib.hid ((h.below hbx2).at1 hx)
  have HC := Lib.hid (h.below hbx2).blk
  have hgs : g < w.heap.size + 1 := by omega
  have hcs := data_cases (acks := acks) (own := own) hok
  rw [ht] at hcs
  rcases hcs with ⟨e, _⟩ | ⟨-, ⟨m1, m2⟩, ⟨m3, m4⟩, ⟨m5, m6⟩, hcs⟩
  · cases e
  · have hcs2 : ((own != 4) = false ∧ (x.kd == 2) = true ∧ (x.kd == 1) = false) ∨ ((own != 4) = true ∧ decide (0 < acks) = false ∧ (x.kd == 2) = false ∧ (x.kd == 1) = true ∧ (own != 1) = false) ∨ ((own != 4) = true ∧ decide (0 < acks) = false ∧ (x.kd == 2) = false ∧ (x.kd == 1) = true ∧ (own != 1) = true ∧ (own != 2) = false) := by
      rcases hcs with h1 | ⟨h1, ⟨_, h2⟩, h3, h4, h5 | ⟨h5, h6⟩⟩
      · exact .inl h1
      · exact .inr (.inl ⟨h1, h2, h3, h4, h5⟩)
      · exact .inr (.inr ⟨h1, h2, h3, h4, h5, h6⟩)
    clear hp hok ht hbx hbx2 hrow hwd hcs
    rcases hcs2 with ⟨f1, f2, f3⟩ | ⟨f1, f2, f3, f4, f5⟩ | ⟨f1, f2, f3, f4, f5, f6⟩
    all_goals
      as_aux_lemma =>
      have HH := Lib.hid h
      have HHX := Lib.hid hx
      clear h hx
      go_enter Try.func23, Try.ntmps23
      go_wp2_with fail
      refine HP.out.mono ?_
      rintro e w1 ⟨rfl, rfl⟩
      simp only [oi]
      go_wp2_with (first
        | ((with_reducible refine wpList_load_mid (op := ⟨some 24, _, _, _, _, _⟩) rfl 39 (.tmp 23) rfl g (i * 15) ?lx (mc x) _ ?lc Try.underlying39 ?ld ?li ?_); (case lx => rfl); (case lc => exact HR.out); (case ld => rfl); (case li => kernel_rfl))
        | ((with_reducible refine wpList_store_row (o := ⟨none, _, _, _, _, _⟩) rfl 39 (.tmp 12) (.tmp 24) rfl (w.heap.size + 1) (mcells x) ?sx ?sy 39 ?old ?sg ?si ?so ?s1 ?_); (case sx => rfl); (case sy => rfl); (case old => exact #[.int .i64 0, .int .i64 0, .int .i64 0, .int .i64 0, .int .i64 0, .int .i64 0, .int .i64 0, .int .i64 0, .int .i64 0, .int .i64 0, .int .i64 0, .int .i64 0, .int .i64 0, .bool false, .bool false]); (case sg => exact heap_row2 w _ _ _); (case si => kernel_rfl); (case so => rfl); (case s1 => kernel_rfl); generalize ((w.alloc (.cells (dcells d) 32)).alloc (.cells #[.int .i64 0, .int .i64 0, .int .i64 0, .int .i64 0, .int .i64 0, .int .i64 0, .int .i64 0, .int .i64 0, .int .i64 0, .int .i64 0, .int .i64 0, .int .i64 0, .int .i64 0, .bool false, .bool false] 39)).setRow (w.heap.size + 1) (mcells x) = w2 at *; have hA := blk_cell HX.out)
        | ((with_reducible refine wpList_store_own (op := ⟨none, _, _, _, _, _⟩) rfl 3 (.tmp 67) (.tmp 66) rfl (w.heap.size + 1) 2 (.int .i64 acks) ?sx ?sy (mcells x) 39 ?sg ?si ?sf ?s1 (mcells { x with nd := acks }) ?sn ?_); (case sx => rfl); (case sy => rfl); (case sg => exact HX.out); (case si => kernel_rfl); (case sf => exact Nat.le_of_ble_eq_true rfl); (case s1 => intro u hu; simp [Value.cells] at hu; subst hu; rfl); (case sn => rfl); intro w3 g3 r31 r32 r33 r34 r35; have HX3 := Lib.hid g3; have HB3 := Lib.hid (below_part HB.out (by omega) r31 r32 r33 r34 r35); have HWD3 := Lib.hid ((r35 w.heap.size (by omega)).trans HWD.out); clear g3 r31 r32 r33 r34 r35 hA)
        | ((with_reducible refine wpList_store_own (op := ⟨none, _, _, _, _, _⟩) rfl 3 (.tmp 69) (.tmp 68) rfl (w.heap.size + 1) 4 (.int .i64 own) ?sx ?sy (mcells { x with nd := acks }) 39 ?sg ?si ?sf ?s1 (mcells { x with nd := acks, ow := own }) ?sn ?_); (case sx => rfl); (case sy => rfl); (case sg => exact HX3.out); (case si => kernel_rfl); (case sf => exact Nat.le_of_ble_eq_true rfl); (case s1 => intro u hu; simp [Value.cells] at hu; subst hu; rfl); (case sn => rfl); intro w4 g4 r41 r42 r43 r44 r45; have HX4 := Lib.hid g4; have HB4 := Lib.hid (below_part HB3.out (by omega) r41 r42 r43 r44 r45); have hW := blk_cell ((r45 w.heap.size (by omega)).trans HWD3.out); clear g4 r41 r42 r43 r44 r45)
        | ((with_reducible refine wpList_store_own (op := ⟨none, _, _, _, _, _⟩) rfl 32 (.tmp 71) (.tmp 70) rfl (w.heap.size + 1) 5 (.agg (dcells d)) ?sx ?sy (mcells { x with nd := acks, ow := own }) 39 ?sg ?si ?sf ?s1 (mcells (dataY acks own d x)) ?sn ?_); (case sx => rfl); (case sy => rfl); (case sg => exact HX4.out); (case si => kernel_rfl); (case sf => exact Nat.le_of_ble_eq_true rfl); (case s1 => exact words_one d); (case sn => rfl); intro w5 g5 r51 r52 r53 r54 r55; have HX5 := Lib.hid g5; have HB5 := Lib.hid (below_part HB4.out (by omega) r51 r52 r53 r54 r55); clear g5 r51 r52 r53 r54 r55 hW; have hA := blk_cell HX5.out; have c2 := blk_cell (HH.out.below HB5.out).blk 1; simp at c2))
      have HA5 := Lib.hid ((HH.out.below HB5.out).at1 HHX.out)
      have HE := Lib.hid (gave_store HH.out HB5.out.drew HHX.out (dataY acks own d x) 0 (mc (dataY acks own d x)) (by rw [mc_len]; omega) (fun m _ => by rw [Nat.zero_add]) (fun m h1 h2 => by rw [mc_len] at h2; omega))
      go_still_tail 7, (by kernel_rfl)
      change wpList _ _ _ _ _ w5.drew
      have HTH : Hid (w5.drew.there g (i * 15) (mcells (dataY acks own d x)).size) := Lib.hid (fun m hm => by
        have hm15 : m < 15 := hm
        refine ⟨?_, HA5.out.fz _⟩
        have := HA5.out.row m ((mc x)[m]'(by rw [mc_len]; exact hm15)) (List.getElem?_eq_getElem _)
        show (w5.cell? ⟨g, i * 15 + m, none⟩).isSome = true
        rw [this]
        rfl)
      clear hA c2
      go_wp2_with ((with_reducible refine wpList_store_mid (op := ⟨none, _, _, _, _, _⟩) rfl 39 (.tmp 78) (.tmp 77) rfl g (i * 15) (mcells (dataY acks own d x)) ?sx ?sy ?st ?si ?s1 ?_); (case sx => rfl); (case sy => rfl); (case st => exact HTH.out); (case si => kernel_rfl); (case s1 => kernel_rfl))
      go_ret
      exact ⟨rfl, HE.out⟩

theorem refData_none {w : World} {B b : Nat} {room : Int} {l : List Ms} {v : Value} (h : BgD w B b room l v) (line acks own : Int) (d : Wd) (hl8 : l.length ≤ 5000) (hp : fnd l line = none) :
    Calls Try.prog 23 #[.pointer (some ⟨b, 0, none⟩), .int .i64 line, .int .i64 acks, .int .i64 own, .agg (dcells d)] w fun e w' => e = .returned (.int .i64 5) ∧ Below w.heap.size w w' := by
  have hbx := balloc w (.cells (dcells d) 32)
  have HP := refPlace_any (h.below hbx) line hl8
  rw [hp] at HP
  have HP := Lib.hid HP
  have HB := Lib.hid hbx
  clear h hp hbx
  go_enter Try.func23, Try.ntmps23
  go_wp2_with fail
  refine HP.out.mono ?_
  rintro e w1 ⟨rfl, rfl⟩
  simp only [oi]
  go_wp2
  go_ret
  exact ⟨rfl, HB.out⟩
theorem refData_any {w : World} {B b : Nat} {room k : Int} {l : List Ms} {v : Value} (h : BgD w B b room l v) (gd : Good room k l) (line acks own : Int) (d : Wd) :
    Calls Try.prog 23 #[.pointer (some ⟨b, 0, none⟩), .int .i64 line, .int .i64 acks, .int .i64 own, .agg (dcells d)] w (GaveD w B b room v (chg l line (dataF acks own d))) := by
  have hl := gd.len
  have hr := gd.r2
  rcases hp : fnd l line with _ | i
  · rw [chg_none _ hp]
    exact (refData_none h line acks own d (by omega) hp).mono fun e w' ⟨h1, h2⟩ => ⟨h1, gave_same h h2⟩
  · obtain ⟨x, hx, _, hi⟩ := fnd_some hp
    obtain ⟨g, cap, rfl, _⟩ := h.one hx
    rcases Bool.eq_false_or_eq_true (tkes x acks own) with ht | ht
    · rw [chg_yes hp hx (dataF_yes d ht)]
      exact (refData_yes h line acks own d (by omega) hp hx (gd.at hx) ht).mono fun e w' ⟨h1, h2⟩ => ⟨h1, h2⟩
    · rw [chg_no hp hx (dataF_no d ht)]
      exact (refData_no h line acks own d (by omega) hp hx (gd.at hx) ht).mono fun e w' ⟨h1, h2⟩ => ⟨h1, gave_same h h2⟩

end Go.Proofs.Ytcfcgejeiihgnaa
