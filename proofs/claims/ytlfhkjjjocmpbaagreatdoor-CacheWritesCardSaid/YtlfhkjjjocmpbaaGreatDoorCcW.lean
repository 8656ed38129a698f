/-
  CacheWrites is true: the walk.
-/
import Derived.Test.YtlfhkjjjocmpbaaGreatDoorCcT
import Derived.Test.YtlfhkjjjocmpbaaGreatDoorCcP
import Derived.Test.YtlfhkjjjocmpbaaGreatDoorCcWa
import Derived.Deep.CutBlock
import Derived.Deep.DeepCutAuto
namespace Go.Proofs.YtlfhkjjjocmpbaaGreatDoor.Cc
open Go Go.RowKit

variable {w w1 w' : World} {bx : Bx} {K : Kb} {c : Cfg} {core n : Int} {s : St}
theorem ways_bound (h : okC c = true) : 1 ≤ c.wa ∧ c.wa ≤ 64 := by
  rw [okC_eq] at h
  simp only [Bool.and_eq_true] at h
  obtain ⟨⟨⟨⟨⟨⟨⟨⟨⟨⟨h0, h1⟩, h2⟩, h3⟩, h4⟩, h5⟩, h6⟩, h7⟩, h8⟩, h9⟩, ⟨h10, h11⟩, h12⟩ := h
  have := inB_of h3
  omega
theorem lnOk_adL {a : Int} (h : adOk c a = true) : lnOk c (adL c a) = true := by
  obtain ⟨hok, h0, h1⟩ := ok_of_adOk h
  have hw := (ok_pows c hok).1.2
  have q0 : 0 ≤ a / c.wo := Int.ediv_nonneg h0 (by omega)
  have q1 : a / c.wo < c.li := Int.ediv_lt_of_lt_mul (by omega) (by rw [Int.mul_comm]; exact h1)
  simp [lnOk, hok, inR, adL, h, q0, q1]
/-- A load of some cells of a box, in an operation whose guard says yes. -/
theorem wpList_mid_guarded {P : Program} {ops : Array Oper} {rest : List Oper} {op : Oper} {a : Act} {w : World} {Q : Exit → Act → World → Prop} (hw : Region.wanted op (yielded ops a.tmps) = true) (ty : TypeId) (x : Operand) (ho : op.op = .load ty x)
    (b o : Nat) (hx : a.eval x = .pointer (some ⟨b, o, none⟩)) (cs : List Value) (d : TypeDesc) (hc : w.rangeAt b o cs)
    (hu : P.underlying ty = some d) (hd : d.isRow = true) (hi : (P.info? ty).map (·.size) = some cs.length)
    (h : wpList P ops Q rest (a.put op.dst (.agg cs.toArray)) w) : wpList P ops Q (op :: rest) a w :=
  wpList_step fun K hK => by
    rw [if_pos hw]
    exact wp_load_mid ty x ho b o hx cs d hc hu hd hi (hK _ _ h)
theorem way_mid {w : World} {b : Nat} {y : Ar.Wy} {T : TypeId} (h : w.heap[b]? = some (.cells (Ar.ycells y) T (0, 0))) : w.rangeAt b 2 (dcells y.wd).toList := fun j v hv => by
  rw [c_cell h]
  rcases (show j = 0 ∨ j = 1 ∨ j = 2 ∨ j = 3 ∨ j = 4 ∨ j = 5 ∨ j = 6 ∨ j = 7 ∨ 8 ≤ j by omega) with rfl | rfl | rfl | rfl | rfl | rfl | rfl | rfl | q
  iterate 8 (first | exact hv | skip)
  rw [List.getElem?_eq_none (by simpa using q)] at hv
  cases hv
theorem msg_mid {w : World} {b : Nat} {m : Msg} {T : TypeId} (h : w.heap[b]? = some (.cells (mcells m) T (0, 0))) : w.rangeAt b 7 (dcells (words m)).toList := fun j v hv => by
  rw [c_cell h]
  rcases (show j = 0 ∨ j = 1 ∨ j = 2 ∨ j = 3 ∨ j = 4 ∨ j = 5 ∨ j = 6 ∨ j = 7 ∨ 8 ≤ j by omega) with rfl | rfl | rfl | rfl | rfl | rfl | rfl | rfl | q
  iterate 8 (first | exact hv | skip)
  rw [List.getElem?_eq_none (by simpa using q)] at hv
  cases hv
theorem way_word {w : World} {b : Nat} {y : Ar.Wy} {T : TypeId} (h : w.heap[b]? = some (.cells (Ar.ycells y) T (0, 0))) (m : Nat) (hm : m < 8) : w.cell? ⟨b, 2 + m, none⟩ = some (.int .i64 (y.wd.at m)) := by
  rw [c_cell h]
  rcases (show m = 0 ∨ m = 1 ∨ m = 2 ∨ m = 3 ∨ m = 4 ∨ m = 5 ∨ m = 6 ∨ m = 7 by omega) with rfl | rfl | rfl | rfl | rfl | rfl | rfl | rfl <;> rfl
theorem words_eqlC (x : Wd) (w : World) : (binOp .eql 36 (.agg (dcells x)) (.agg (dcells x))).run Tryz.prog w = .ok (.bool true) w := by
  have ha := fun d => words_same d x.w0 x.w1 x.w2 x.w3 x.w4 x.w5 x.w6 x.w7
  simp [go_sem, ha]
theorem words_neqC (x : Wd) (w : World) : (binOp .neq 36 (.agg (dcells x)) (.agg (dcells x))).run Tryz.prog w = .ok (.bool false) w := by
  have ha := fun d => words_same d x.w0 x.w1 x.w2 x.w3 x.w4 x.w5 x.w6 x.w7
  simp [go_sem, ha]
set_option maxRecDepth 100000 in
set_option maxHeartbeats 8000000 in
theorem writes_long (c : Cfg) (core : Int) (q : Option Addr) (cap : Nat) (l : List Stp) (k a v who : Int) (ev : Bool) (w : World) (hT : Tb w) (h : 60 < l.length) : Calls Tryz.prog 5 #[cv c, .int .i64 core, .slice q l.length cap, .agg #[.int .i64 k, .int .i64 a, .int .i64 v], .int .i64 who, .bool ev] w fun e w' => e = .returned (.bool true) ∧ Below w.heap.size w w' := by
  have HS0 := Lib.hid (sp_two w (.cells (ccells c) 24) (.cells #[.int .i64 k, .int .i64 a, .int .i64 v] 43))
  have HAw := Lib.hid (awake_any ((w.alloc (.cells (ccells c) 24)).alloc (.cells #[.int .i64 k, .int .i64 a, .int .i64 v] 43)) (hT.keeps HS0.out.bl))
  have g1 : (60 : Int) < l.length := by omega
  clear hT h
  go_enter Tryz.func5, Tryz.ntmps5
  go_wp2_with fail
  refine HAw.out.mono ?_
  rintro e w1 ⟨rfl, hb1⟩
  have HS1 := Lib.hid (HS0.out.step hb1)
  clear hb1
  go_wp2
  go_ret
  exact ⟨rfl, HS1.out.bl⟩
set_option maxRecDepth 100000 in
set_option maxHeartbeats 8000000 in
theorem writes_large (c : Cfg) (core : Int) (q : Option Addr) (cap : Nat) (l : List Stp) (k a v who : Int) (ev : Bool) (w : World) (hT : Tb w) (h : l.length ≤ 60) (hl : largeB c = true) : Calls Tryz.prog 5 #[cv c, .int .i64 core, .slice q l.length cap, .agg #[.int .i64 k, .int .i64 a, .int .i64 v], .int .i64 who, .bool ev] w fun e w' => e = .returned (.bool true) ∧ Below w.heap.size w w' := by
  have HS0 := Lib.hid (sp_two w (.cells (ccells c) 24) (.cells #[.int .i64 k, .int .i64 a, .int .i64 v] 43))
  have HAw := Lib.hid (awake_any ((w.alloc (.cells (ccells c) 24)).alloc (.cells #[.int .i64 k, .int .i64 a, .int .i64 v] 43)) (hT.keeps HS0.out.bl))
  have g1 : ¬ (60 : Int) < l.length := by omega
  have HL := Lib.hid (large_any c)
  rw [hl] at HL
  clear hT h hl
  go_enter Tryz.func5, Tryz.ntmps5
  go_wp2_with fail
  refine HAw.out.mono ?_
  rintro e w1 ⟨rfl, hb1⟩
  have HS1 := Lib.hid (HS0.out.step hb1)
  clear hb1
  have hcc := c_cell (HS1.out.ok (w.heap.size, (.cells (ccells c) 24)) (by simp)).1
  go_wp2_with fail
  refine (HL.out _).mono ?_
  rintro e w2 ⟨rfl, hb2⟩
  have HS2 := Lib.hid (HS1.out.step hb2)
  clear hb2 hcc
  go_wp2
  go_ret
  exact ⟨rfl, HS2.out.bl⟩
set_option maxRecDepth 100000 in
set_option maxHeartbeats 8000000 in
theorem writes_none (c : Cfg) (core : Int) (q : Option Addr) (cap : Nat) (l : List Stp) (k a v who : Int) (ev : Bool) (w : World) (hc : c.fits) (hT : Tb w) (h : l.length ≤ 60) (hl : largeB c = false) (hn : okC c = false ∨ core < 0 ∨ c.co ≤ core) : Calls Tryz.prog 5 #[cv c, .int .i64 core, .slice q l.length cap, .agg #[.int .i64 k, .int .i64 a, .int .i64 v], .int .i64 who, .bool ev] w fun e w' => e = .returned (.bool true) ∧ Below w.heap.size w w' := by
  have HS0 := Lib.hid (sp_two w (.cells (ccells c) 24) (.cells #[.int .i64 k, .int .i64 a, .int .i64 v] 43))
  have HAw := Lib.hid (awake_any ((w.alloc (.cells (ccells c) 24)).alloc (.cells #[.int .i64 k, .int .i64 a, .int .i64 v] 43)) (hT.keeps HS0.out.bl))
  have g1 : ¬ (60 : Int) < l.length := by omega
  have HL := Lib.hid (large_any c)
  rw [hl] at HL
  have HN : Hid (∀ w, Calls Tryz.prog 10 #[cv c, .int .i64 core] w (NoC w)) := Lib.hid (fun w => by
    rcases Bool.eq_false_or_eq_true (okC c) with ok | ok
    · exact cnew_core c core w hc ok (hn.resolve_left (by simp [ok]))
    · exact cnew_bad c core w hc ok)
  clear hc hT h hl hn
  go_enter Tryz.func5, Tryz.ntmps5
  go_wp2_with fail
  refine HAw.out.mono ?_
  rintro e w1 ⟨rfl, hb1⟩
  have HS1 := Lib.hid (HS0.out.step hb1)
  clear hb1
  have hcc := c_cell (HS1.out.ok (w.heap.size, (.cells (ccells c) 24)) (by simp)).1
  go_wp2_with fail
  refine (HL.out _).mono ?_
  rintro e w2 ⟨rfl, hb2⟩
  have HS2 := Lib.hid (HS1.out.step hb2)
  clear hb2 hcc
  have hcc2 := c_cell (HS2.out.ok (w.heap.size, (.cells (ccells c) 24)) (by simp)).1
  go_wp2_with fail
  refine (HN.out _).mono ?_
  rintro e w3 ⟨rfl, hb3⟩
  have HS3 := Lib.hid (HS2.out.step hb3)
  clear hb3 hcc2
  go_wp2
  go_ret
  exact ⟨rfl, HS3.out.bl⟩
set_option maxRecDepth 100000 in
set_option maxHeartbeats 8000000 in
theorem writes_walk1 (c : Cfg) (core : Int) (q : Option Addr) (cap : Nat) (l : List Stp) (k a v who : Int) (ev : Bool) (w : World) (hc : c.fits) (hT : Tb w) (hkk : k = 1) (hs : StpsA w q l) (h : l.length ≤ 60) (hl : largeB c = false) (ok : okC c = true) (h1 : 0 ≤ core) (h2 : core < c.co) : Calls Tryz.prog 5 #[cv c, .int .i64 core, .slice q l.length cap, .agg #[.int .i64 k, .int .i64 a, .int .i64 v], .int .i64 who, .bool ev] w fun e w' => e = .returned (.bool true) ∧ Below w.heap.size w w' := by
  have HS0 := Lib.hid (sp_two w (.cells (ccells c) 24) (.cells #[.int .i64 k, .int .i64 a, .int .i64 v] 43))
  have HAw := Lib.hid (awake_any ((w.alloc (.cells (ccells c) 24)).alloc (.cells #[.int .i64 k, .int .i64 a, .int .i64 v] 43)) (hT.keeps HS0.out.bl))
  have g1 : ¬ (60 : Int) < l.length := by omega
  have HL := Lib.hid (large_any c)
  rw [hl] at HL
  have HT := Lib.hid hT
  have HN := Lib.hid (fun (w2 w3 : World) (h : Below w2.heap.size w2 w3) (hb : Below w.heap.size w w2) => cnew_ok c core h (hT.keeps hb) hc ok h1 h2)
  have HKq := Lib.hid hkk
  have HS := Lib.hid hs
  have HI := Lib.hid (Inv.new ok)
  have HCo := Lib.hid (And.intro h1 h2)
  have HO := Lib.hid ok
  clear hc hT hl ok h1 h2 hs hkk
  go_enter Tryz.func5, Tryz.ntmps5
  go_wp2_with fail
  refine HAw.out.mono ?_
  rintro e w1 ⟨rfl, hb1⟩
  have HS1 := Lib.hid (HS0.out.step hb1)
  clear hb1
  have hcc := c_cell (HS1.out.ok (w.heap.size, (.cells (ccells c) 24)) (by simp)).1
  go_wp2_with fail
  refine (HL.out _).mono ?_
  rintro e w2 ⟨rfl, hb2⟩
  have HS2 := Lib.hid (HS1.out.step hb2)
  clear hb2 hcc
  have hcc2 := c_cell (HS2.out.ok (w.heap.size, (.cells (ccells c) 24)) (by simp)).1
  go_wp2_with fail
  refine (HN.out _ _ (Below.refl _ w2) HS2.out.bl).mono ?_
  rintro e w3 ⟨K, rfl, ho, hb3⟩
  have H3 := Lib.hid (ho.rebase HS2.out HT.out)
  clear ho hb3 hcc2
  go_wp2
  go_loopw [59] (fun i wr => ∃ j : Nat, j ≤ l.length ∧ i = .int .i64 j ∧ ∃ s n, OwnP w K c core n s [(w.heap.size + 1, .cells #[.int .i64 k, .int .i64 a, .int .i64 v] 43), (w.heap.size, .cells (ccells c) 24)] wr ∧ Inv c s ∧ n ≤ 2 * (j : Int)) (fun i _ => l.length - (intOf i).toNat)
  case atStart => exact ⟨0, Nat.zero_le _, rfl, _, _, H3.out, HI.out, by omega⟩
  case round =>
    obtain ⟨j, hj, rfl, s, n, ho, hi, hn⟩ := hrel
    have H4 := Lib.hid ho
    have HV := Lib.hid hi
    clear ho hi H3
    by_cases hlt : j < l.length
    · obtain ⟨x, hx⟩ : ∃ x, l[j]? = some x := ⟨_, List.getElem?_eq_getElem hlt⟩
      obtain ⟨gl, off, rfl, hgl, hr⟩ := HS.out.step H4.out.below j x hx
      have HR := Lib.hid hr
      have h5 := H4.out.addRow #[.int .i64 0, .int .i64 0, .int .i64 0, .int .i64 0, .int .i64 0, .int .i64 0, .int .i64 0, .int .i64 0, .int .i64 0, .int .i64 0, .int .i64 0, .int .i64 0, .int .i64 0, .int .i64 0, .int .i64 0, .int .i64 0, .int .i64 0, .int .i64 0, .int .i64 0, .int .i64 0, .int .i64 0] (scells x) 45
      have hb5 := h5.box (List.mem_cons_self ..)
      have H5 := Lib.hid h5
      have HB5 := Lib.hid hb5
      have HNn : Hid (n ≤ 900 ∧ n + 2 ≤ 2 * ((j + 1 : Nat) : Int)) := Lib.hid (by omega)
      clear hr hx h5 hn hb5
      go_wp2_with (first
        | ((with_reducible refine wpList_load_mid (op := ⟨some 62, _, _, _, _, _⟩) rfl 45 (.tmp 61) rfl gl (off + j * 21) ?lx (stc x) _ ?lc Tryz.underlying45 ?ld ?li ?_); (case lx => rfl); (case lc => exact HR.out); (case ld => rfl); (case li => kernel_rfl))
        | ((with_reducible refine wpList_store_row (o := ⟨none, _, _, _, _, _⟩) rfl 45 (.tmp 16) (.tmp 62) rfl wr.heap.size (scells x) ?sx ?sy 45 ?old ?sg ?si ?so ?s1 ?_); (case sx => rfl); (case sy => rfl); (case old => exact #[.int .i64 0, .int .i64 0, .int .i64 0, .int .i64 0, .int .i64 0, .int .i64 0, .int .i64 0, .int .i64 0, .int .i64 0, .int .i64 0, .int .i64 0, .int .i64 0, .int .i64 0, .int .i64 0, .int .i64 0, .int .i64 0, .int .i64 0, .int .i64 0, .int .i64 0, .int .i64 0, .int .i64 0]); (case sg => exact heap_alloc_new wr _); (case si => kernel_rfl); (case so => rfl); (case s1 => kernel_rfl))
        | ((with_reducible refine wpList_load_row (o := ⟨some 64, _, _, _, _, _⟩) rfl 45 (.tmp 16) rfl wr.heap.size ?lx 45 (scells x) (0, 0) _ ?lg Tryz.underlying45 ?ld ?li ?_); (case lx => rfl); (case lg => exact HB5.out); (case ld => rfl); (case li => kernel_rfl))
        | (go_at_call 12; refine (H5.out.stp HNn.out.1 x).mono ?_; rintro e w6 ⟨rfl, ho⟩; have H6 := Lib.hid ho.drop; clear ho))
      go_roundw
      case rel => exact ⟨j + 1, by omega, by go_num, _, _, H6.out, HV.out.stp x, HNn.out.2⟩
      case measure => simp [intOf]; omega
    · clear HS
      have HNn : Hid (n ≤ 120) := Lib.hid (by omega)
      have HAd := Lib.hid (fun (wr : World) n s bx (h : OwnP w K c core n s bx wr) => addr_any c a wr h.nums.2.1 h.tbs)
      have HLo := Lib.hid (fun (wr : World) n s bx (h : OwnP w K c core n s bx wr) => h.look (adL c a))
      have HD := Lib.hid (fun (wr : World) n bx (h : OwnP w K c core n s bx wr) => h.doX ⟨k, a, v⟩)
      have hcc := H4.out.cells (List.mem_cons_of_mem _ (List.mem_cons_self ..))
      have hop := H4.out.cells (List.mem_cons_self ..)
      clear hn hj
      by_cases hbad : adE c a ≠ 0 ∨ (doP c s ⟨k, a, v⟩).1.2 ≠ 0
      · have hn0 := do_bad (x := ⟨k, a, v⟩) hbad
        generalize doP c s ⟨k, a, v⟩ = r at *
        obtain ⟨⟨n1, f1⟩, s1⟩ := r
        dsimp only at hn0 hbad HD
        subst hn0
        generalize adE c a = ea at *
        generalize adL c a = line at *
        generalize adW c a = word at *
        have hbb : (ea != 0) = true ∨ (ea != 0) = false ∧ (f1 != 0) = true := by
          by_cases e0 : ea = 0
          · exact .inr ⟨by simpa using e0, by simpa using hbad.resolve_left (by simpa using e0)⟩
          · exact .inl (by simpa using e0)
        clear hbad
        go_wp2_with fail
        refine (HAd.out _ _ _ _ H4.out).mono ?_
        rintro e w5 ⟨rfl, hb5⟩
        have H5 := Lib.hid (H4.out.step hb5)
        clear hb5 hcc hop H4
        go_wp2_with fail
        refine (HLo.out _ _ _ _ H5.out).mono ?_
        rintro e w6 ⟨rfl, hb6⟩
        have H6 := Lib.hid ((H5.out.step hb6).add (.cells (Ar.ycells (look c s line)) 66))
        have hop := H6.out.cells (List.mem_cons_of_mem _ (List.mem_cons_self ..))
        clear hb6 H5
        go_wp2_with fail
        refine (HD.out _ _ _ H6.out).mono ?_
        rintro e w7 ⟨rfl, ho⟩
        have H7 := Lib.hid ho
        clear ho hop H6
        rcases hbb with e1 | ⟨e1, e2⟩
        · go_wp2
          go_ret
          exact ⟨rfl, H7.out.below⟩
        · go_wp2
          go_ret
          exact ⟨rfl, H7.out.below⟩
      · obtain ⟨he, hf⟩ : adE c a = 0 ∧ (doP c s ⟨k, a, v⟩).1.2 = 0 := by
          refine ⟨Classical.byContradiction fun q => hbad (.inl q), Classical.byContradiction fun q => hbad (.inr q)⟩
        clear hbad
        obtain ⟨n1, s1, hd⟩ : ∃ n1 s1, doP c s ⟨k, a, v⟩ = ((n1, 0), s1) := ⟨(doP c s ⟨k, a, v⟩).1.1, (doP c s ⟨k, a, v⟩).2, by rw [← hf]⟩
        obtain ⟨ha, hk3, hn1, hI1, ht1, hw1, hs1⟩ := HV.out.does hd
        rw [hd] at HD
        obtain ⟨hok, hl0, hl1⟩ := ok_of_lnOk (lnOk_adL ha)
        have hlnk : lnOk c (adL c a) = true := lnOk_adL ha
        obtain ⟨m, hm, hm8⟩ : ∃ m : Nat, a % c.wo = m ∧ m < 8 := ⟨(a % c.wo).toNat, (word_lt ha).2.2, (word_lt ha).2.1⟩
        have hwm : adW c a = (m : Int) := by rw [← hm]; simp [adW, ha]
        rw [he, hwm] at HAd
        dsimp only at hn1 hk3 hs1 hw1 hI1 ht1
        unfold wnt at hw1
        dsimp only at hw1
        rw [hm, Int.toNat_natCast] at hn1 hw1
        obtain ⟨hco1, hco2⟩ := (ok_sizes hok).1
        obtain ⟨hh1, hh2⟩ := (ok_sizes hok).2.1
        have HWa : Hid (1 ≤ c.wa ∧ c.wa ≤ 64) := Lib.hid (ways_bound hok)
        obtain ⟨hse1, hse2⟩ := (ok_pows c hok).2.2.1.2
        have hne : (c.ho == 0) = false := by simp; omega
        have hnse : (c.se == 0) = false := by simp; omega
        have HM : Hid (0 ≤ who → who < c.co → who ≠ core → mayM c (fwd c 4 (adL c a) core who) = true ∧ mayM c (fwd c 5 (adL c a) core who) = true) := Lib.hid (fun q1 q2 q3 => ⟨may_fwd hlnk HCo.out.1 HCo.out.2 q1 q2 q3 (.inl rfl), may_fwd hlnk HCo.out.1 HCo.out.2 q1 q2 q3 (.inr rfl)⟩)
        have HH : Hid (∀ want, (look c s1 (adL c a)).wd = want → 2 ≤ (look c s1 (adL c a)).st → Has c s1 (adL c a) want) := Lib.hid (fun want e1 e2 => .inl ⟨ht1, e2, e1⟩)
        have HI1 := Lib.hid hI1
        clear hd ha hI1 ht1 hm he hf hok hl1 hlnk hwm HO HI HV
        have HL0 := Lib.hid (fun (wr : World) n bx (h : OwnP w K c core n s bx wr) => HLo.out wr n s bx h)
        have HL1 := Lib.hid (fun (wr : World) n bx (h : OwnP w K c core n s1 bx wr) => HLo.out wr n s1 bx h)
        clear HLo
        generalize adL c a = line at *
        generalize look c s line = y at *
        generalize there c s line = tq at *
        generalize look c s1 line = y1 at *
        generalize there c s1 line = tq1 at *
        obtain ⟨st0, ln0, dd, lk0⟩ := y
        obtain ⟨st1, ln1, d1, lk1⟩ := y1
        have hm0 : (0 : Int) ≤ (m : Int) := by omega
        have hm7 : (m : Int) < 8 := by omega
        have h0l : 0 ≤ line := hl0
        have hrs := Int.emod_nonneg line (show c.se ≠ 0 by omega)
        have hrh := Int.emod_nonneg line (show c.ho ≠ 0 by omega)
        dsimp only at hn1 hw1 hs1 HH
        have hkk := HKq.out
        subst hkk
        · rw [if_pos rfl] at hw1
          rw [if_neg (by decide)] at hn1
          subst hw1
          clear hs1
          have HHas := Lib.hid (HH.out d1 rfl)
          clear HH
          have HWd := Lib.hid (fun (w : World) (b : Nat) (T : TypeId) (h : w.heap[b]? = some (.cells (Ar.ycells ⟨st0, ln0, d1, lk0⟩) T (0, 0))) => way_word h m hm8)
          dsimp only at HWd
          generalize d1.at m = dv at *
          subst hn1
          have hqn := words_neqC d1
          have HQn := Lib.hid hqn
          clear hqn
          go_wp2_with fail
          refine (HAd.out _ _ _ _ H4.out).mono ?_
          rintro e w5 ⟨rfl, hb5⟩
          have H5 := Lib.hid (H4.out.step hb5)
          clear hb5 hcc hop H4
          go_wp2_with fail
          refine (HL0.out _ _ _ H5.out).mono ?_
          rintro e w6 ⟨rfl, hb6⟩
          have H6 := Lib.hid ((H5.out.step hb6).add (.cells (Ar.ycells ⟨st0, ln0, d1, lk0⟩) 66))
          have hop := H6.out.cells (List.mem_cons_of_mem _ (List.mem_cons_self ..))
          clear hb6 H5
          go_wp2_with fail
          refine (HD.out _ _ _ H6.out).mono ?_
          rintro e w7 ⟨rfl, ho⟩
          have H7 := Lib.hid ho
          clear ho hop H6
          go_wp2_with fail
          refine (HL1.out _ _ _ H7.out).mono ?_
          rintro e w8 ⟨rfl, hb8⟩
          have h8 := (H7.out.step hb8).add (.cells (Ar.ycells ⟨st1, ln1, d1, lk1⟩) 66)
          have r20 := way_mid (h8.box (List.mem_cons_of_mem _ (List.mem_cons_self ..)))
          have h9 := h8.add (.cells (dcells d1) 36)
          rw [show (w8.alloc (.cells (Ar.ycells ⟨st1, ln1, d1, lk1⟩) 66)).heap.size = w8.heap.size + 1 by simp] at h9
          have H9 := Lib.hid h9
          clear h8 h9 hb8 H7
          have hcc := H9.out.cells (List.mem_cons_of_mem _ (List.mem_cons_of_mem _ (List.mem_cons_of_mem _ (List.mem_cons_of_mem _ (List.mem_cons_self ..)))))
          have hop := H9.out.cells (List.mem_cons_of_mem _ (List.mem_cons_of_mem _ (List.mem_cons_of_mem _ (List.mem_cons_self ..))))
          have h24 := H9.out.cells (List.mem_cons_of_mem _ (List.mem_cons_self ..))
          have r24 := way_mid (H9.out.box (List.mem_cons_of_mem _ (List.mem_cons_self ..)))
          have b26 := H9.out.box (List.mem_cons_self ..)
          have hqn := HQn.out
          have hcw := HWd.out _ _ _ (H9.out.box (List.mem_cons_of_mem _ (List.mem_cons_of_mem _ (List.mem_cons_self ..))))
          rcases (show st1 < 2 ∨ ¬ st1 < 2 ∧ who < 0 ∨ ¬ st1 < 2 ∧ ¬ who < 0 ∧ c.co ≤ who ∨ ¬ st1 < 2 ∧ ¬ who < 0 ∧ ¬ c.co ≤ who ∧ who = core ∨ ¬ st1 < 2 ∧ ¬ who < 0 ∧ ¬ c.co ≤ who ∧ who ≠ core by omega) with g1 | ⟨g1, g2⟩ | ⟨g1, g2, g3⟩ | ⟨g1, g2, g3, rfl⟩ | ⟨g1, g2, g3, g4⟩
          · go_wp2_with (first
              | ((with_reducible refine wpList_load_mid (op := ⟨some 102, _, _, _, _, _⟩) rfl 36 (.tmp 101) rfl (w6.heap.size) 2 ?lx ((dcells d1).toList) _ ?lc Tryz.underlying36 ?ld ?li ?_); (case lx => rfl); (case lc => exact r20); (case ld => rfl); (case li => kernel_rfl))
              | ((with_reducible refine wpList_load_mid (op := ⟨some 111, _, _, _, _, _⟩) rfl 36 (.tmp 110) rfl (w8.heap.size) 2 ?lx ((dcells d1).toList) _ ?lc Tryz.underlying36 ?ld ?li ?_); (case lx => rfl); (case lc => exact r24); (case ld => rfl); (case li => kernel_rfl))
              | ((with_reducible refine wpList_load_row (o := ⟨some 112, _, _, _, _, _⟩) rfl 36 (.tmp 26) rfl (w8.heap.size + 1) ?lx 36 (dcells d1) (0, 0) _ ?lg Tryz.underlying36 ?ld ?li ?_); (case lx => rfl); (case lg => exact b26); (case ld => rfl); (case li => kernel_rfl)))
            go_ret
            exact ⟨rfl, H9.out.below⟩
          · go_wp2_with (first
              | ((with_reducible refine wpList_load_mid (op := ⟨some 102, _, _, _, _, _⟩) rfl 36 (.tmp 101) rfl (w6.heap.size) 2 ?lx ((dcells d1).toList) _ ?lc Tryz.underlying36 ?ld ?li ?_); (case lx => rfl); (case lc => exact r20); (case ld => rfl); (case li => kernel_rfl))
              | ((with_reducible refine wpList_load_mid (op := ⟨some 111, _, _, _, _, _⟩) rfl 36 (.tmp 110) rfl (w8.heap.size) 2 ?lx ((dcells d1).toList) _ ?lc Tryz.underlying36 ?ld ?li ?_); (case lx => rfl); (case lc => exact r24); (case ld => rfl); (case li => kernel_rfl))
              | ((with_reducible refine wpList_load_row (o := ⟨some 112, _, _, _, _, _⟩) rfl 36 (.tmp 26) rfl (w8.heap.size + 1) ?lx 36 (dcells d1) (0, 0) _ ?lg Tryz.underlying36 ?ld ?li ?_); (case lx => rfl); (case lg => exact b26); (case ld => rfl); (case li => kernel_rfl)))
            go_ret
            exact ⟨rfl, H9.out.below⟩
          · go_wp2_with (first
              | ((with_reducible refine wpList_load_mid (op := ⟨some 102, _, _, _, _, _⟩) rfl 36 (.tmp 101) rfl (w6.heap.size) 2 ?lx ((dcells d1).toList) _ ?lc Tryz.underlying36 ?ld ?li ?_); (case lx => rfl); (case lc => exact r20); (case ld => rfl); (case li => kernel_rfl))
              | ((with_reducible refine wpList_load_mid (op := ⟨some 111, _, _, _, _, _⟩) rfl 36 (.tmp 110) rfl (w8.heap.size) 2 ?lx ((dcells d1).toList) _ ?lc Tryz.underlying36 ?ld ?li ?_); (case lx => rfl); (case lc => exact r24); (case ld => rfl); (case li => kernel_rfl))
              | ((with_reducible refine wpList_load_row (o := ⟨some 112, _, _, _, _, _⟩) rfl 36 (.tmp 26) rfl (w8.heap.size + 1) ?lx 36 (dcells d1) (0, 0) _ ?lg Tryz.underlying36 ?ld ?li ?_); (case lx => rfl); (case lg => exact b26); (case ld => rfl); (case li => kernel_rfl)))
            go_ret
            exact ⟨rfl, H9.out.below⟩
          · go_wp2_with (first
              | ((with_reducible refine wpList_load_mid (op := ⟨some 102, _, _, _, _, _⟩) rfl 36 (.tmp 101) rfl (w6.heap.size) 2 ?lx ((dcells d1).toList) _ ?lc Tryz.underlying36 ?ld ?li ?_); (case lx => rfl); (case lc => exact r20); (case ld => rfl); (case li => kernel_rfl))
              | ((with_reducible refine wpList_load_mid (op := ⟨some 111, _, _, _, _, _⟩) rfl 36 (.tmp 110) rfl (w8.heap.size) 2 ?lx ((dcells d1).toList) _ ?lc Tryz.underlying36 ?ld ?li ?_); (case lx => rfl); (case lc => exact r24); (case ld => rfl); (case li => kernel_rfl))
              | ((with_reducible refine wpList_load_row (o := ⟨some 112, _, _, _, _, _⟩) rfl 36 (.tmp 26) rfl (w8.heap.size + 1) ?lx 36 (dcells d1) (0, 0) _ ?lg Tryz.underlying36 ?ld ?li ?_); (case lx => rfl); (case lg => exact b26); (case ld => rfl); (case li => kernel_rfl)))
            go_ret
            exact ⟨rfl, H9.out.below⟩
          · have hwb : (who == core) = false := by simpa using g4
            have HMM := Lib.hid (HM.out (by omega) (by omega) g4)
            have HH1 := Lib.hid (HHas.out (by omega))
            clear g4 HM HHas
            go_upto_block 2 with (first
              | ((with_reducible refine wpList_load_mid (op := ⟨some 102, _, _, _, _, _⟩) rfl 36 (.tmp 101) rfl (w6.heap.size) 2 ?lx ((dcells d1).toList) _ ?lc Tryz.underlying36 ?ld ?li ?_); (case lx => rfl); (case lc => exact r20); (case ld => rfl); (case li => kernel_rfl))
              | ((with_reducible refine wpList_load_mid (op := ⟨some 111, _, _, _, _, _⟩) rfl 36 (.tmp 110) rfl (w8.heap.size) 2 ?lx ((dcells d1).toList) _ ?lc Tryz.underlying36 ?ld ?li ?_); (case lx => rfl); (case lc => exact r24); (case ld => rfl); (case li => kernel_rfl))
              | ((with_reducible refine wpList_load_row (o := ⟨some 112, _, _, _, _, _⟩) rfl 36 (.tmp 26) rfl (w8.heap.size + 1) ?lx 36 (dcells d1) (0, 0) _ ?lg Tryz.underlying36 ?ld ?li ?_); (case lx => rfl); (case lg => exact b26); (case ld => rfl); (case li => kernel_rfl)))
            go_cut [] (fun wx => ∃ sx, OwnP w K c core n sx [(w8.heap.size + 1, .cells (dcells d1) 36), (w8.heap.size, .cells (Ar.ycells ⟨st1, ln1, d1, lk1⟩) 66), (w6.heap.size, .cells (Ar.ycells ⟨st0, ln0, d1, lk0⟩) 66), (w.heap.size + 1, .cells #[.int .i64 1, .int .i64 a, .int .i64 v] 43), (w.heap.size, .cells (ccells c) 24)] wx ∧ Inv c sx ∧ Has c sx line d1)
            case first =>
              clear hcc hop h24 r24 b26 r20 hcw
              go_wp2
              go_loopw [27] (fun i wr => ∃ j : Nat, (j : Int) ≤ 64 ∧ i = .int .i64 j ∧ ∃ sx, OwnP w K c core n sx [(w8.heap.size + 1, .cells (dcells d1) 36), (w8.heap.size, .cells (Ar.ycells ⟨st1, ln1, d1, lk1⟩) 66), (w6.heap.size, .cells (Ar.ycells ⟨st0, ln0, d1, lk0⟩) 66), (w.heap.size + 1, .cells #[.int .i64 1, .int .i64 a, .int .i64 v] 43), (w.heap.size, .cells (ccells c) 24)] wr ∧ Inv c sx ∧ Has c sx line d1) (fun i _ => 65 - (intOf i).toNat)
              case atStart => exact ⟨0, by omega, rfl, _, H9.out, HI1.out, HH1.out⟩
              case round =>
                obtain ⟨j, hj, rfl, sx, ho, hi, hh⟩ := hrel
                have H10 := Lib.hid ho
                have HIx := Lib.hid hi
                have HHx := Lib.hid hh
                have hcc := H10.out.cells (List.mem_cons_of_mem _ (List.mem_cons_of_mem _ (List.mem_cons_of_mem _ (List.mem_cons_of_mem _ (List.mem_cons_self ..)))))
                have hwa : c.wa ≤ 64 := HWa.out.2
                clear ho hi hh H9 HI1 HH1
                cases ev
                · go_wp2
                  go_meet
                  case rel => exact ⟨_, H10.out, HIx.out, HHx.out⟩
                · by_cases hlt2 : (j : Int) < c.wa
                  · have hj64 : (j : Int) < 64 := by omega
                    have HWy := Lib.hid (H10.out.way (line % c.se) j)
                    generalize hat : atP c sx (line % c.se) j = r at *
                    obtain ⟨yx, qx⟩ := r
                    go_wp2_with fail
                    refine HWy.out.mono ?_
                    rintro e w10 ⟨rfl, hb10⟩
                    have H11 := Lib.hid ((H10.out.step hb10).add (.cells (Ar.ycells yx) 66))
                    have hcc2 := H11.out.cells (List.mem_cons_of_mem _ (List.mem_cons_of_mem _ (List.mem_cons_of_mem _ (List.mem_cons_of_mem _ (List.mem_cons_of_mem _ (List.mem_cons_self ..))))))
                    clear hb10 hcc HWy
                    by_cases hyl : yx.ln = line
                    · have hyb : (yx.ln == line) = true := by simpa using hyl
                      have HHy := Lib.hid (HIx.out.has_evict (core := core) HHx.out (set := line % c.se) (way := j) (by rw [hat]; exact hyl))
                      clear hyl hat
                      go_wp2_with fail
                      refine (H11.out.evict (line % c.se) j).mono ?_
                      rintro e w11 ⟨rfl, ho⟩
                      have H12 := Lib.hid ho.drop
                      clear ho hcc2 H11 H10
                      go_wp2_with fail
                      go_roundw
                      case rel => exact ⟨j + 1, by omega, by go_num, _, H12.out, HIx.out.evict _ _, HHy.out⟩
                      case measure => simp [intOf]; omega
                    · have hyb : (yx.ln == line) = false := by simpa using hyl
                      clear hyl hat
                      go_wp2_with fail
                      go_roundw
                      case rel => exact ⟨j + 1, by omega, by go_num, _, H11.out.drop, HIx.out, HHx.out⟩
                      case measure => simp [intOf]; omega
                  · go_wp2
                    go_meet
                    case rel => exact ⟨_, H10.out, HIx.out, HHx.out⟩
            case rest =>
              clear hcc hop h24 r24 b26 r20 hcw
              obtain ⟨sx, ho, hi, hh⟩ := hcut
              obtain ⟨t1, t2, t3, e1, e2, e3⟩ := hi.told hh HMM.out.1 HMM.out.2
              have HT1 := Lib.hid (fun (wr : World) n bx (hn : n ≤ 900) (h : OwnP w K c core n sx bx wr) => (by have q := h.take hn (fwd c 4 line core who); rw [e1] at q; exact q : Calls Tryz.prog 23 #[ptr K.k, .agg #[.int .i64 4, .int .i64 line, .int .i64 (line % c.ho), .int .i64 core, .int .i64 who, .int .i64 0, .int .i64 0, .int .i64 0, .int .i64 0, .int .i64 0, .int .i64 0, .int .i64 0, .int .i64 0, .int .i64 0, .int .i64 0]] wr (RetT (msg 7 line core who 1 0 1 d1, true, 0) (OwnP w K c core (n + 2) t1 bx))))
              have HT2 := Lib.hid (fun (wr : World) n bx (hn : n ≤ 900) (h : OwnP w K c core n t1 bx wr) => (by have q := h.take hn (fwd c 5 line core who); rw [e2] at q; exact q : Calls Tryz.prog 23 #[ptr K.k, .agg #[.int .i64 5, .int .i64 line, .int .i64 (line % c.ho), .int .i64 core, .int .i64 who, .int .i64 0, .int .i64 0, .int .i64 0, .int .i64 0, .int .i64 0, .int .i64 0, .int .i64 0, .int .i64 0, .int .i64 0, .int .i64 0]] wr (RetT (msg 7 line core who 1 0 4 d1, true, 0) (OwnP w K c core (n + 2) t2 bx))))
              have HT3 := Lib.hid (fun (wr : World) n bx (hn : n ≤ 900) (h : OwnP w K c core n t2 bx wr) => (by have q := h.take hn (fwd c 4 line core who); rw [e3] at q; exact q : Calls Tryz.prog 23 #[ptr K.k, .agg #[.int .i64 4, .int .i64 line, .int .i64 (line % c.ho), .int .i64 core, .int .i64 who, .int .i64 0, .int .i64 0, .int .i64 0, .int .i64 0, .int .i64 0, .int .i64 0, .int .i64 0, .int .i64 0, .int .i64 0, .int .i64 0]] wr (RetT (m0, false, 7) (OwnP w K c core (n + 2) t3 bx))))
              have hcc := (Lib.hid ho).out.cells (List.mem_cons_of_mem _ (List.mem_cons_of_mem _ (List.mem_cons_of_mem _ (List.mem_cons_of_mem _ (List.mem_cons_self ..)))))
              have HNk : Hid (n ≤ 900 ∧ n + 2 ≤ 900 ∧ n + 2 + 2 ≤ 900) := Lib.hid (by have := HNn.out; omega)
              have H10 := Lib.hid (ho.add (.cells #[.int .i64 4, .int .i64 line, .int .i64 (line % c.ho), .int .i64 core, .int .i64 who, .int .i64 0, .int .i64 0, .int .i64 0, .int .i64 0, .int .i64 0, .int .i64 0, .int .i64 0, .int .i64 0, .int .i64 0, .int .i64 0] 38))
              have b30 := H10.out.box (List.mem_cons_self ..)
              have hqe := words_eqlC d1
              clear ho hi hh e1 e2 e3 HH1 HI1 H9
              go_wp2_with ((with_reducible refine wpList_load_row (o := ⟨some 195, _, _, _, _, _⟩) rfl 38 (.tmp 30) rfl (wc.heap.size) ?lx 38 (#[.int .i64 4, .int .i64 line, .int .i64 (line % c.ho), .int .i64 core, .int .i64 who, .int .i64 0, .int .i64 0, .int .i64 0, .int .i64 0, .int .i64 0, .int .i64 0, .int .i64 0, .int .i64 0, .int .i64 0, .int .i64 0]) (0, 0) _ ?lg Tryz.underlying38 ?ld ?li ?_); (case lx => rfl); (case lg => exact b30); (case ld => rfl); (case li => kernel_rfl))
              refine (HT1.out _ _ _ HNk.out.1 H10.out).mono ?_
              rintro e w20 ⟨rfl, ho⟩
              have H11 := Lib.hid (ho.add (.cells (mcells (msg 7 line core who 1 0 1 d1)) 38)).swap
              clear ho b30 H10 hcc
              go_wp2_with (first
                | ((with_reducible refine wpList_store_box (op := ⟨none, _, _, _, _, _⟩) rfl 3 (.tmp 200) _ rfl (wc.heap.size) 0 (.int .i64 5) ?sx ?sy (#[.int .i64 4, .int .i64 line, .int .i64 (line % c.ho), .int .i64 core, .int .i64 who, .int .i64 0, .int .i64 0, .int .i64 0, .int .i64 0, .int .i64 0, .int .i64 0, .int .i64 0, .int .i64 0, .int .i64 0, .int .i64 0]) 38 ?sg ?si ?sf ?s1 (#[.int .i64 5, .int .i64 line, .int .i64 (line % c.ho), .int .i64 core, .int .i64 who, .int .i64 0, .int .i64 0, .int .i64 0, .int .i64 0, .int .i64 0, .int .i64 0, .int .i64 0, .int .i64 0, .int .i64 0, .int .i64 0]) ?sn ?_); (case sx => rfl); (case sy => rfl); (case sg => exact H11.out.box (List.mem_cons_self ..)); (case si => kernel_rfl); (case sf => exact Nat.le_of_ble_eq_true rfl); (case s1 => kernel_rfl); (case sn => rfl); intro w21 g4 r4 k4; have H12 := Lib.hid (H11.out.turned g4 r4 k4); have b30 := H12.out.box (List.mem_cons_self ..); clear g4 r4 k4)
                | ((with_reducible refine wpList_load_row (o := ⟨some 203, _, _, _, _, _⟩) rfl 38 (.tmp 30) rfl (wc.heap.size) ?lx 38 (#[.int .i64 5, .int .i64 line, .int .i64 (line % c.ho), .int .i64 core, .int .i64 who, .int .i64 0, .int .i64 0, .int .i64 0, .int .i64 0, .int .i64 0, .int .i64 0, .int .i64 0, .int .i64 0, .int .i64 0, .int .i64 0]) (0, 0) _ ?lg Tryz.underlying38 ?ld ?li ?_); (case lx => rfl); (case lg => exact b30); (case ld => rfl); (case li => kernel_rfl)))
              clear b30
              refine (HT2.out _ _ _ HNk.out.2.1 H12.out).mono ?_
              rintro e w22 ⟨rfl, ho⟩
              have H13 := Lib.hid (ho.add (.cells (mcells (msg 7 line core who 1 0 4 d1)) 38)).swap
              clear ho H12
              go_wp2_with (first
                | ((with_reducible refine wpList_store_box (op := ⟨none, _, _, _, _, _⟩) rfl 3 (.tmp 208) _ rfl (wc.heap.size) 0 (.int .i64 4) ?sx ?sy (#[.int .i64 5, .int .i64 line, .int .i64 (line % c.ho), .int .i64 core, .int .i64 who, .int .i64 0, .int .i64 0, .int .i64 0, .int .i64 0, .int .i64 0, .int .i64 0, .int .i64 0, .int .i64 0, .int .i64 0, .int .i64 0]) 38 ?sg ?si ?sf ?s1 (#[.int .i64 4, .int .i64 line, .int .i64 (line % c.ho), .int .i64 core, .int .i64 who, .int .i64 0, .int .i64 0, .int .i64 0, .int .i64 0, .int .i64 0, .int .i64 0, .int .i64 0, .int .i64 0, .int .i64 0, .int .i64 0]) ?sn ?_); (case sx => rfl); (case sy => rfl); (case sg => exact H13.out.box (List.mem_cons_self ..)); (case si => kernel_rfl); (case sf => exact Nat.le_of_ble_eq_true rfl); (case s1 => kernel_rfl); (case sn => rfl); intro w23 g4 r4 k4; have H14 := Lib.hid (H13.out.turned g4 r4 k4); have b30 := H14.out.box (List.mem_cons_self ..); clear g4 r4 k4)
                | ((with_reducible refine wpList_load_row (o := ⟨some 211, _, _, _, _, _⟩) rfl 38 (.tmp 30) rfl (wc.heap.size) ?lx 38 (#[.int .i64 4, .int .i64 line, .int .i64 (line % c.ho), .int .i64 core, .int .i64 who, .int .i64 0, .int .i64 0, .int .i64 0, .int .i64 0, .int .i64 0, .int .i64 0, .int .i64 0, .int .i64 0, .int .i64 0, .int .i64 0]) (0, 0) _ ?lg Tryz.underlying38 ?ld ?li ?_); (case lx => rfl); (case lg => exact b30); (case ld => rfl); (case li => kernel_rfl)))
              clear b30
              refine (HT3.out _ _ _ HNk.out.2.2 H14.out).mono ?_
              rintro e w24 ⟨rfl, ho⟩
              have H15 := Lib.hid (ho.add (.cells (mcells m0) 38))
              have r31 := msg_mid (H15.out.box (List.mem_cons_of_mem _ (List.mem_cons_of_mem _ (List.mem_cons_of_mem _ (List.mem_cons_self ..)))))
              have r34 := msg_mid (H15.out.box (List.mem_cons_of_mem _ (List.mem_cons_of_mem _ (List.mem_cons_self ..))))
              have h31 := H15.out.cells (List.mem_cons_of_mem _ (List.mem_cons_of_mem _ (List.mem_cons_of_mem _ (List.mem_cons_self ..))))
              have h34 := H15.out.cells (List.mem_cons_of_mem _ (List.mem_cons_of_mem _ (List.mem_cons_self ..)))
              have b26 := H15.out.box (List.mem_cons_of_mem _ (List.mem_cons_of_mem _ (List.mem_cons_of_mem _ (List.mem_cons_of_mem _ (List.mem_cons_self ..)))))
              clear ho H14
              go_wp2_with (first
                | ((with_reducible refine wpList_mid_guarded (op := ⟨some 230, _, _, _, _, _⟩) ?lw 36 (.tmp 229) rfl (w20.heap.size) 7 ?lx ((dcells d1).toList) _ ?lc Tryz.underlying36 ?ld ?li ?_); (case lw => rfl); (case lx => rfl); (case lc => exact r31); (case ld => rfl); (case li => kernel_rfl))
                | ((with_reducible refine wpList_load_guarded (o := ⟨some 231, _, _, _, _, _⟩) ?lw 36 (.tmp 26) rfl (w8.heap.size + 1) ?lx 36 (dcells d1) (0, 0) _ ?lg Tryz.underlying36 ?ld ?li ?_); (case lw => rfl); (case lx => rfl); (case lg => exact b26); (case ld => rfl); (case li => kernel_rfl))
                | ((with_reducible refine wpList_mid_guarded (op := ⟨some 236, _, _, _, _, _⟩) ?lw 36 (.tmp 235) rfl (w22.heap.size) 7 ?lx ((dcells d1).toList) _ ?lc Tryz.underlying36 ?ld ?li ?_); (case lw => rfl); (case lx => rfl); (case lc => exact r34); (case ld => rfl); (case li => kernel_rfl))
                | ((with_reducible refine wpList_load_guarded (o := ⟨some 237, _, _, _, _, _⟩) ?lw 36 (.tmp 26) rfl (w8.heap.size + 1) ?lx 36 (dcells d1) (0, 0) _ ?lg Tryz.underlying36 ?ld ?li ?_); (case lw => rfl); (case lx => rfl); (case lg => exact b26); (case ld => rfl); (case li => kernel_rfl)))
              go_ret
              exact ⟨rfl, H15.out.below⟩
set_option maxRecDepth 100000 in
set_option maxHeartbeats 8000000 in
theorem writes_walk2 (c : Cfg) (core : Int) (q : Option Addr) (cap : Nat) (l : List Stp) (k a v who : Int) (ev : Bool) (w : World) (hc : c.fits) (hT : Tb w) (hkk : k = 2) (hs : StpsA w q l) (h : l.length ≤ 60) (hl : largeB c = false) (ok : okC c = true) (h1 : 0 ≤ core) (h2 : core < c.co) : Calls Tryz.prog 5 #[cv c, .int .i64 core, .slice q l.length cap, .agg #[.int .i64 k, .int .i64 a, .int .i64 v], .int .i64 who, .bool ev] w fun e w' => e = .returned (.bool true) ∧ Below w.heap.size w w' := by
  have HS0 := Lib.hid (sp_two w (.cells (ccells c) 24) (.cells #[.int .i64 k, .int .i64 a, .int .i64 v] 43))
  have HAw := Lib.hid (awake_any ((w.alloc (.cells (ccells c) 24)).alloc (.cells #[.int .i64 k, .int .i64 a, .int .i64 v] 43)) (hT.keeps HS0.out.bl))
  have g1 : ¬ (60 : Int) < l.length := by omega
  have HL := Lib.hid (large_any c)
  rw [hl] at HL
  have HT := Lib.hid hT
  have HN := Lib.hid (fun (w2 w3 : World) (h : Below w2.heap.size w2 w3) (hb : Below w.heap.size w w2) => cnew_ok c core h (hT.keeps hb) hc ok h1 h2)
  have HKq := Lib.hid hkk
  have HS := Lib.hid hs
  have HI := Lib.hid (Inv.new ok)
  have HCo := Lib.hid (And.intro h1 h2)
  have HO := Lib.hid ok
  clear hc hT hl ok h1 h2 hs hkk
  go_enter Tryz.func5, Tryz.ntmps5
  go_wp2_with fail
  refine HAw.out.mono ?_
  rintro e w1 ⟨rfl, hb1⟩
  have HS1 := Lib.hid (HS0.out.step hb1)
  clear hb1
  have hcc := c_cell (HS1.out.ok (w.heap.size, (.cells (ccells c) 24)) (by simp)).1
  go_wp2_with fail
  refine (HL.out _).mono ?_
  rintro e w2 ⟨rfl, hb2⟩
  have HS2 := Lib.hid (HS1.out.step hb2)
  clear hb2 hcc
  have hcc2 := c_cell (HS2.out.ok (w.heap.size, (.cells (ccells c) 24)) (by simp)).1
  go_wp2_with fail
  refine (HN.out _ _ (Below.refl _ w2) HS2.out.bl).mono ?_
  rintro e w3 ⟨K, rfl, ho, hb3⟩
  have H3 := Lib.hid (ho.rebase HS2.out HT.out)
  clear ho hb3 hcc2
  go_wp2
  go_loopw [59] (fun i wr => ∃ j : Nat, j ≤ l.length ∧ i = .int .i64 j ∧ ∃ s n, OwnP w K c core n s [(w.heap.size + 1, .cells #[.int .i64 k, .int .i64 a, .int .i64 v] 43), (w.heap.size, .cells (ccells c) 24)] wr ∧ Inv c s ∧ n ≤ 2 * (j : Int)) (fun i _ => l.length - (intOf i).toNat)
  case atStart => exact ⟨0, Nat.zero_le _, rfl, _, _, H3.out, HI.out, by omega⟩
  case round =>
    obtain ⟨j, hj, rfl, s, n, ho, hi, hn⟩ := hrel
    have H4 := Lib.hid ho
    have HV := Lib.hid hi
    clear ho hi H3
    by_cases hlt : j < l.length
    · obtain ⟨x, hx⟩ : ∃ x, l[j]? = some x := ⟨_, List.getElem?_eq_getElem hlt⟩
      obtain ⟨gl, off, rfl, hgl, hr⟩ := HS.out.step H4.out.below j x hx
      have HR := Lib.hid hr
      have h5 := H4.out.addRow #[.int .i64 0, .int .i64 0, .int .i64 0, .int .i64 0, .int .i64 0, .int .i64 0, .int .i64 0, .int .i64 0, .int .i64 0, .int .i64 0, .int .i64 0, .int .i64 0, .int .i64 0, .int .i64 0, .int .i64 0, .int .i64 0, .int .i64 0, .int .i64 0, .int .i64 0, .int .i64 0, .int .i64 0] (scells x) 45
      have hb5 := h5.box (List.mem_cons_self ..)
      have H5 := Lib.hid h5
      have HB5 := Lib.hid hb5
      have HNn : Hid (n ≤ 900 ∧ n + 2 ≤ 2 * ((j + 1 : Nat) : Int)) := Lib.hid (by omega)
      clear hr hx h5 hn hb5
      go_wp2_with (first
        | ((with_reducible refine wpList_load_mid (op := ⟨some 62, _, _, _, _, _⟩) rfl 45 (.tmp 61) rfl gl (off + j * 21) ?lx (stc x) _ ?lc Tryz.underlying45 ?ld ?li ?_); (case lx => rfl); (case lc => exact HR.out); (case ld => rfl); (case li => kernel_rfl))
        | ((with_reducible refine wpList_store_row (o := ⟨none, _, _, _, _, _⟩) rfl 45 (.tmp 16) (.tmp 62) rfl wr.heap.size (scells x) ?sx ?sy 45 ?old ?sg ?si ?so ?s1 ?_); (case sx => rfl); (case sy => rfl); (case old => exact #[.int .i64 0, .int .i64 0, .int .i64 0, .int .i64 0, .int .i64 0, .int .i64 0, .int .i64 0, .int .i64 0, .int .i64 0, .int .i64 0, .int .i64 0, .int .i64 0, .int .i64 0, .int .i64 0, .int .i64 0, .int .i64 0, .int .i64 0, .int .i64 0, .int .i64 0, .int .i64 0, .int .i64 0]); (case sg => exact heap_alloc_new wr _); (case si => kernel_rfl); (case so => rfl); (case s1 => kernel_rfl))
        | ((with_reducible refine wpList_load_row (o := ⟨some 64, _, _, _, _, _⟩) rfl 45 (.tmp 16) rfl wr.heap.size ?lx 45 (scells x) (0, 0) _ ?lg Tryz.underlying45 ?ld ?li ?_); (case lx => rfl); (case lg => exact HB5.out); (case ld => rfl); (case li => kernel_rfl))
        | (go_at_call 12; refine (H5.out.stp HNn.out.1 x).mono ?_; rintro e w6 ⟨rfl, ho⟩; have H6 := Lib.hid ho.drop; clear ho))
      go_roundw
      case rel => exact ⟨j + 1, by omega, by go_num, _, _, H6.out, HV.out.stp x, HNn.out.2⟩
      case measure => simp [intOf]; omega
    · clear HS
      have HNn : Hid (n ≤ 120) := Lib.hid (by omega)
      have HAd := Lib.hid (fun (wr : World) n s bx (h : OwnP w K c core n s bx wr) => addr_any c a wr h.nums.2.1 h.tbs)
      have HLo := Lib.hid (fun (wr : World) n s bx (h : OwnP w K c core n s bx wr) => h.look (adL c a))
      have HD := Lib.hid (fun (wr : World) n bx (h : OwnP w K c core n s bx wr) => h.doX ⟨k, a, v⟩)
      have hcc := H4.out.cells (List.mem_cons_of_mem _ (List.mem_cons_self ..))
      have hop := H4.out.cells (List.mem_cons_self ..)
      clear hn hj
      by_cases hbad : adE c a ≠ 0 ∨ (doP c s ⟨k, a, v⟩).1.2 ≠ 0
      · have hn0 := do_bad (x := ⟨k, a, v⟩) hbad
        generalize doP c s ⟨k, a, v⟩ = r at *
        obtain ⟨⟨n1, f1⟩, s1⟩ := r
        dsimp only at hn0 hbad HD
        subst hn0
        generalize adE c a = ea at *
        generalize adL c a = line at *
        generalize adW c a = word at *
        have hbb : (ea != 0) = true ∨ (ea != 0) = false ∧ (f1 != 0) = true := by
          by_cases e0 : ea = 0
          · exact .inr ⟨by simpa using e0, by simpa using hbad.resolve_left (by simpa using e0)⟩
          · exact .inl (by simpa using e0)
        clear hbad
        go_wp2_with fail
        refine (HAd.out _ _ _ _ H4.out).mono ?_
        rintro e w5 ⟨rfl, hb5⟩
        have H5 := Lib.hid (H4.out.step hb5)
        clear hb5 hcc hop H4
        go_wp2_with fail
        refine (HLo.out _ _ _ _ H5.out).mono ?_
        rintro e w6 ⟨rfl, hb6⟩
        have H6 := Lib.hid ((H5.out.step hb6).add (.cells (Ar.ycells (look c s line)) 66))
        have hop := H6.out.cells (List.mem_cons_of_mem _ (List.mem_cons_self ..))
        clear hb6 H5
        go_wp2_with fail
        refine (HD.out _ _ _ H6.out).mono ?_
        rintro e w7 ⟨rfl, ho⟩
        have H7 := Lib.hid ho
        clear ho hop H6
        rcases hbb with e1 | ⟨e1, e2⟩
        · go_wp2
          go_ret
          exact ⟨rfl, H7.out.below⟩
        · go_wp2
          go_ret
          exact ⟨rfl, H7.out.below⟩
      · obtain ⟨he, hf⟩ : adE c a = 0 ∧ (doP c s ⟨k, a, v⟩).1.2 = 0 := by
          refine ⟨Classical.byContradiction fun q => hbad (.inl q), Classical.byContradiction fun q => hbad (.inr q)⟩
        clear hbad
        obtain ⟨n1, s1, hd⟩ : ∃ n1 s1, doP c s ⟨k, a, v⟩ = ((n1, 0), s1) := ⟨(doP c s ⟨k, a, v⟩).1.1, (doP c s ⟨k, a, v⟩).2, by rw [← hf]⟩
        obtain ⟨ha, hk3, hn1, hI1, ht1, hw1, hs1⟩ := HV.out.does hd
        rw [hd] at HD
        obtain ⟨hok, hl0, hl1⟩ := ok_of_lnOk (lnOk_adL ha)
        have hlnk : lnOk c (adL c a) = true := lnOk_adL ha
        obtain ⟨m, hm, hm8⟩ : ∃ m : Nat, a % c.wo = m ∧ m < 8 := ⟨(a % c.wo).toNat, (word_lt ha).2.2, (word_lt ha).2.1⟩
        have hwm : adW c a = (m : Int) := by rw [← hm]; simp [adW, ha]
        rw [he, hwm] at HAd
        dsimp only at hn1 hk3 hs1 hw1 hI1 ht1
        unfold wnt at hw1
        dsimp only at hw1
        rw [hm, Int.toNat_natCast] at hn1 hw1
        obtain ⟨hco1, hco2⟩ := (ok_sizes hok).1
        obtain ⟨hh1, hh2⟩ := (ok_sizes hok).2.1
        have HWa : Hid (1 ≤ c.wa ∧ c.wa ≤ 64) := Lib.hid (ways_bound hok)
        obtain ⟨hse1, hse2⟩ := (ok_pows c hok).2.2.1.2
        have hne : (c.ho == 0) = false := by simp; omega
        have hnse : (c.se == 0) = false := by simp; omega
        have HM : Hid (0 ≤ who → who < c.co → who ≠ core → mayM c (fwd c 4 (adL c a) core who) = true ∧ mayM c (fwd c 5 (adL c a) core who) = true) := Lib.hid (fun q1 q2 q3 => ⟨may_fwd hlnk HCo.out.1 HCo.out.2 q1 q2 q3 (.inl rfl), may_fwd hlnk HCo.out.1 HCo.out.2 q1 q2 q3 (.inr rfl)⟩)
        have HH : Hid (∀ want, (look c s1 (adL c a)).wd = want → 2 ≤ (look c s1 (adL c a)).st → Has c s1 (adL c a) want) := Lib.hid (fun want e1 e2 => .inl ⟨ht1, e2, e1⟩)
        have HI1 := Lib.hid hI1
        clear hd ha hI1 ht1 hm he hf hok hl1 hlnk hwm HO HI HV
        have HL0 := Lib.hid (fun (wr : World) n bx (h : OwnP w K c core n s bx wr) => HLo.out wr n s bx h)
        have HL1 := Lib.hid (fun (wr : World) n bx (h : OwnP w K c core n s1 bx wr) => HLo.out wr n s1 bx h)
        clear HLo
        generalize adL c a = line at *
        generalize look c s line = y at *
        generalize there c s line = tq at *
        generalize look c s1 line = y1 at *
        generalize there c s1 line = tq1 at *
        obtain ⟨st0, ln0, dd, lk0⟩ := y
        obtain ⟨st1, ln1, d1, lk1⟩ := y1
        have hm0 : (0 : Int) ≤ (m : Int) := by omega
        have hm7 : (m : Int) < 8 := by omega
        have h0l : 0 ≤ line := hl0
        have hrs := Int.emod_nonneg line (show c.se ≠ 0 by omega)
        have hrh := Int.emod_nonneg line (show c.ho ≠ 0 by omega)
        dsimp only at hn1 hw1 hs1 HH
        have hkk := HKq.out
        subst hkk
        · rw [if_neg (by decide)] at hw1
          rw [if_pos rfl] at hn1
          obtain rfl : st1 = 4 := hs1 (by decide)
          clear hs1
          have HHas := Lib.hid (HH.out d1 rfl)
          clear HH
          subst hn1
          have HSw := Lib.hid (fun (w1 : World) (b : Nat) (h : w1.heap[b]? = some (.cells (dcells dd) 36 (0, 0))) => Me.set_words h m hm8 v)
          rw [← hw1] at HSw
          have HCm := Lib.hid (Me.word_cell dd m hm8)
          clear hw1
          have hqn := words_neqC d1
          have HQn := Lib.hid hqn
          clear hqn
          go_wp2_with fail
          refine (HAd.out _ _ _ _ H4.out).mono ?_
          rintro e w5 ⟨rfl, hb5⟩
          have H5 := Lib.hid (H4.out.step hb5)
          clear hb5 hcc hop H4
          go_wp2_with fail
          refine (HL0.out _ _ _ H5.out).mono ?_
          rintro e w6 ⟨rfl, hb6⟩
          have H6 := Lib.hid ((H5.out.step hb6).add (.cells (Ar.ycells ⟨st0, ln0, dd, lk0⟩) 66))
          have hop := H6.out.cells (List.mem_cons_of_mem _ (List.mem_cons_self ..))
          clear hb6 H5
          go_wp2_with fail
          refine (HD.out _ _ _ H6.out).mono ?_
          rintro e w7 ⟨rfl, ho⟩
          have H7 := Lib.hid ho
          clear ho hop H6
          go_wp2_with fail
          refine (HL1.out _ _ _ H7.out).mono ?_
          rintro e w8 ⟨rfl, hb8⟩
          have h8 := (H7.out.step hb8).add (.cells (Ar.ycells ⟨4, ln1, d1, lk1⟩) 66)
          have r20 := way_mid (h8.box (List.mem_cons_of_mem _ (List.mem_cons_self ..)))
          have h9 := h8.add (.cells (dcells dd) 36)
          rw [show (w8.alloc (.cells (Ar.ycells ⟨4, ln1, d1, lk1⟩) 66)).heap.size = w8.heap.size + 1 by simp] at h9
          have H9a := Lib.hid h9
          have hop0 := h9.cells (List.mem_cons_of_mem _ (List.mem_cons_of_mem _ (List.mem_cons_of_mem _ (List.mem_cons_self ..))))
          clear h8 h9 hb8 H7
          go_upto_region 20 with ((with_reducible refine wpList_load_mid (op := ⟨some 102, _, _, _, _, _⟩) rfl 36 (.tmp 101) rfl (w6.heap.size) 2 ?lx ((dcells dd).toList) _ ?lc Tryz.underlying36 ?ld ?li ?_); (case lx => rfl); (case lc => exact r20); (case ld => rfl); (case li => kernel_rfl))
          clear r20
          generalize ((w8.alloc (.cells (Ar.ycells ⟨4, ln1, d1, lk1⟩) 66)).alloc (.cells (dcells dd) 36)) = w9 at *
          have q1 := (H9a.out.cells (List.mem_cons_self ..) m).trans HCm.out
          have q2 := Me.blk_free (H9a.out.box (List.mem_cons_self ..)) m
          have H9 := Lib.hid (H9a.out.turned (HSw.out _ _ (H9a.out.box (List.mem_cons_self ..))) ⟨rfl, rfl, rfl, by simp⟩ (fun j hj => heap_setCell_other _ _ _ _ (by simpa using hj)))
          clear H9a
          have hcc := H9.out.cells (List.mem_cons_of_mem _ (List.mem_cons_of_mem _ (List.mem_cons_of_mem _ (List.mem_cons_of_mem _ (List.mem_cons_self ..)))))
          have hop := H9.out.cells (List.mem_cons_of_mem _ (List.mem_cons_of_mem _ (List.mem_cons_of_mem _ (List.mem_cons_self ..))))
          have h24 := H9.out.cells (List.mem_cons_of_mem _ (List.mem_cons_self ..))
          have r24 := way_mid (H9.out.box (List.mem_cons_of_mem _ (List.mem_cons_self ..)))
          have b26 := H9.out.box (List.mem_cons_self ..)
          have hqn := HQn.out
          rcases (show who < 0 ∨ ¬ who < 0 ∧ c.co ≤ who ∨ ¬ who < 0 ∧ ¬ c.co ≤ who ∧ who = core ∨ ¬ who < 0 ∧ ¬ c.co ≤ who ∧ who ≠ core by omega) with g2 | ⟨g2, g3⟩ | ⟨g2, g3, rfl⟩ | ⟨g2, g3, g4⟩
          · go_wp2_with (first
              | fail
              | ((with_reducible refine wpList_load_mid (op := ⟨some 111, _, _, _, _, _⟩) rfl 36 (.tmp 110) rfl (w8.heap.size) 2 ?lx ((dcells d1).toList) _ ?lc Tryz.underlying36 ?ld ?li ?_); (case lx => rfl); (case lc => exact r24); (case ld => rfl); (case li => kernel_rfl))
              | ((with_reducible refine wpList_load_row (o := ⟨some 112, _, _, _, _, _⟩) rfl 36 (.tmp 26) rfl (w8.heap.size + 1) ?lx 36 (dcells d1) (0, 0) _ ?lg Tryz.underlying36 ?ld ?li ?_); (case lx => rfl); (case lg => exact b26); (case ld => rfl); (case li => kernel_rfl)))
            go_ret
            exact ⟨rfl, H9.out.below⟩
          · go_wp2_with (first
              | fail
              | ((with_reducible refine wpList_load_mid (op := ⟨some 111, _, _, _, _, _⟩) rfl 36 (.tmp 110) rfl (w8.heap.size) 2 ?lx ((dcells d1).toList) _ ?lc Tryz.underlying36 ?ld ?li ?_); (case lx => rfl); (case lc => exact r24); (case ld => rfl); (case li => kernel_rfl))
              | ((with_reducible refine wpList_load_row (o := ⟨some 112, _, _, _, _, _⟩) rfl 36 (.tmp 26) rfl (w8.heap.size + 1) ?lx 36 (dcells d1) (0, 0) _ ?lg Tryz.underlying36 ?ld ?li ?_); (case lx => rfl); (case lg => exact b26); (case ld => rfl); (case li => kernel_rfl)))
            go_ret
            exact ⟨rfl, H9.out.below⟩
          · go_wp2_with (first
              | fail
              | ((with_reducible refine wpList_load_mid (op := ⟨some 111, _, _, _, _, _⟩) rfl 36 (.tmp 110) rfl (w8.heap.size) 2 ?lx ((dcells d1).toList) _ ?lc Tryz.underlying36 ?ld ?li ?_); (case lx => rfl); (case lc => exact r24); (case ld => rfl); (case li => kernel_rfl))
              | ((with_reducible refine wpList_load_row (o := ⟨some 112, _, _, _, _, _⟩) rfl 36 (.tmp 26) rfl (w8.heap.size + 1) ?lx 36 (dcells d1) (0, 0) _ ?lg Tryz.underlying36 ?ld ?li ?_); (case lx => rfl); (case lg => exact b26); (case ld => rfl); (case li => kernel_rfl)))
            go_ret
            exact ⟨rfl, H9.out.below⟩
          · have hwb : (who == core) = false := by simpa using g4
            have HMM := Lib.hid (HM.out (by omega) (by omega) g4)
            have HH1 := Lib.hid (HHas.out (by decide))
            clear g4 HM HHas
            go_upto_block 2 with (first
              | fail
              | ((with_reducible refine wpList_load_mid (op := ⟨some 111, _, _, _, _, _⟩) rfl 36 (.tmp 110) rfl (w8.heap.size) 2 ?lx ((dcells d1).toList) _ ?lc Tryz.underlying36 ?ld ?li ?_); (case lx => rfl); (case lc => exact r24); (case ld => rfl); (case li => kernel_rfl))
              | ((with_reducible refine wpList_load_row (o := ⟨some 112, _, _, _, _, _⟩) rfl 36 (.tmp 26) rfl (w8.heap.size + 1) ?lx 36 (dcells d1) (0, 0) _ ?lg Tryz.underlying36 ?ld ?li ?_); (case lx => rfl); (case lg => exact b26); (case ld => rfl); (case li => kernel_rfl)))
            go_cut [] (fun wx => ∃ sx, OwnP w K c core n sx [(w8.heap.size + 1, .cells (dcells d1) 36), (w8.heap.size, .cells (Ar.ycells ⟨4, ln1, d1, lk1⟩) 66), (w6.heap.size, .cells (Ar.ycells ⟨st0, ln0, dd, lk0⟩) 66), (w.heap.size + 1, .cells #[.int .i64 2, .int .i64 a, .int .i64 v] 43), (w.heap.size, .cells (ccells c) 24)] wx ∧ Inv c sx ∧ Has c sx line d1)
            case first =>
              clear hcc hop h24 r24 b26 q1 q2 hop0
              go_wp2
              go_loopw [27] (fun i wr => ∃ j : Nat, (j : Int) ≤ 64 ∧ i = .int .i64 j ∧ ∃ sx, OwnP w K c core n sx [(w8.heap.size + 1, .cells (dcells d1) 36), (w8.heap.size, .cells (Ar.ycells ⟨4, ln1, d1, lk1⟩) 66), (w6.heap.size, .cells (Ar.ycells ⟨st0, ln0, dd, lk0⟩) 66), (w.heap.size + 1, .cells #[.int .i64 2, .int .i64 a, .int .i64 v] 43), (w.heap.size, .cells (ccells c) 24)] wr ∧ Inv c sx ∧ Has c sx line d1) (fun i _ => 65 - (intOf i).toNat)
              case atStart => exact ⟨0, by omega, rfl, _, H9.out, HI1.out, HH1.out⟩
              case round =>
                obtain ⟨j, hj, rfl, sx, ho, hi, hh⟩ := hrel
                have H10 := Lib.hid ho
                have HIx := Lib.hid hi
                have HHx := Lib.hid hh
                have hcc := H10.out.cells (List.mem_cons_of_mem _ (List.mem_cons_of_mem _ (List.mem_cons_of_mem _ (List.mem_cons_of_mem _ (List.mem_cons_self ..)))))
                have hwa : c.wa ≤ 64 := HWa.out.2
                clear ho hi hh H9 HI1 HH1
                cases ev
                · go_wp2
                  go_meet
                  case rel => exact ⟨_, H10.out, HIx.out, HHx.out⟩
                · by_cases hlt2 : (j : Int) < c.wa
                  · have hj64 : (j : Int) < 64 := by omega
                    have HWy := Lib.hid (H10.out.way (line % c.se) j)
                    generalize hat : atP c sx (line % c.se) j = r at *
                    obtain ⟨yx, qx⟩ := r
                    go_wp2_with fail
                    refine HWy.out.mono ?_
                    rintro e w10 ⟨rfl, hb10⟩
                    have H11 := Lib.hid ((H10.out.step hb10).add (.cells (Ar.ycells yx) 66))
                    have hcc2 := H11.out.cells (List.mem_cons_of_mem _ (List.mem_cons_of_mem _ (List.mem_cons_of_mem _ (List.mem_cons_of_mem _ (List.mem_cons_of_mem _ (List.mem_cons_self ..))))))
                    clear hb10 hcc HWy
                    by_cases hyl : yx.ln = line
                    · have hyb : (yx.ln == line) = true := by simpa using hyl
                      have HHy := Lib.hid (HIx.out.has_evict (core := core) HHx.out (set := line % c.se) (way := j) (by rw [hat]; exact hyl))
                      clear hyl hat
                      go_wp2_with fail
                      refine (H11.out.evict (line % c.se) j).mono ?_
                      rintro e w11 ⟨rfl, ho⟩
                      have H12 := Lib.hid ho.drop
                      clear ho hcc2 H11 H10
                      go_wp2_with fail
                      go_roundw
                      case rel => exact ⟨j + 1, by omega, by go_num, _, H12.out, HIx.out.evict _ _, HHy.out⟩
                      case measure => simp [intOf]; omega
                    · have hyb : (yx.ln == line) = false := by simpa using hyl
                      clear hyl hat
                      go_wp2_with fail
                      go_roundw
                      case rel => exact ⟨j + 1, by omega, by go_num, _, H11.out.drop, HIx.out, HHx.out⟩
                      case measure => simp [intOf]; omega
                  · go_wp2
                    go_meet
                    case rel => exact ⟨_, H10.out, HIx.out, HHx.out⟩
            case rest =>
              clear hcc hop h24 r24 b26 q1 q2 hop0
              obtain ⟨sx, ho, hi, hh⟩ := hcut
              obtain ⟨t1, t2, t3, e1, e2, e3⟩ := hi.told hh HMM.out.1 HMM.out.2
              have HT1 := Lib.hid (fun (wr : World) n bx (hn : n ≤ 900) (h : OwnP w K c core n sx bx wr) => (by have q := h.take hn (fwd c 4 line core who); rw [e1] at q; exact q : Calls Tryz.prog 23 #[ptr K.k, .agg #[.int .i64 4, .int .i64 line, .int .i64 (line % c.ho), .int .i64 core, .int .i64 who, .int .i64 0, .int .i64 0, .int .i64 0, .int .i64 0, .int .i64 0, .int .i64 0, .int .i64 0, .int .i64 0, .int .i64 0, .int .i64 0]] wr (RetT (msg 7 line core who 1 0 1 d1, true, 0) (OwnP w K c core (n + 2) t1 bx))))
              have HT2 := Lib.hid (fun (wr : World) n bx (hn : n ≤ 900) (h : OwnP w K c core n t1 bx wr) => (by have q := h.take hn (fwd c 5 line core who); rw [e2] at q; exact q : Calls Tryz.prog 23 #[ptr K.k, .agg #[.int .i64 5, .int .i64 line, .int .i64 (line % c.ho), .int .i64 core, .int .i64 who, .int .i64 0, .int .i64 0, .int .i64 0, .int .i64 0, .int .i64 0, .int .i64 0, .int .i64 0, .int .i64 0, .int .i64 0, .int .i64 0]] wr (RetT (msg 7 line core who 1 0 4 d1, true, 0) (OwnP w K c core (n + 2) t2 bx))))
              have HT3 := Lib.hid (fun (wr : World) n bx (hn : n ≤ 900) (h : OwnP w K c core n t2 bx wr) => (by have q := h.take hn (fwd c 4 line core who); rw [e3] at q; exact q : Calls Tryz.prog 23 #[ptr K.k, .agg #[.int .i64 4, .int .i64 line, .int .i64 (line % c.ho), .int .i64 core, .int .i64 who, .int .i64 0, .int .i64 0, .int .i64 0, .int .i64 0, .int .i64 0, .int .i64 0, .int .i64 0, .int .i64 0, .int .i64 0, .int .i64 0]] wr (RetT (m0, false, 7) (OwnP w K c core (n + 2) t3 bx))))
              have hcc := (Lib.hid ho).out.cells (List.mem_cons_of_mem _ (List.mem_cons_of_mem _ (List.mem_cons_of_mem _ (List.mem_cons_of_mem _ (List.mem_cons_self ..)))))
              have HNk : Hid (n ≤ 900 ∧ n + 2 ≤ 900 ∧ n + 2 + 2 ≤ 900) := Lib.hid (by have := HNn.out; omega)
              have H10 := Lib.hid (ho.add (.cells #[.int .i64 4, .int .i64 line, .int .i64 (line % c.ho), .int .i64 core, .int .i64 who, .int .i64 0, .int .i64 0, .int .i64 0, .int .i64 0, .int .i64 0, .int .i64 0, .int .i64 0, .int .i64 0, .int .i64 0, .int .i64 0] 38))
              have b30 := H10.out.box (List.mem_cons_self ..)
              have hqe := words_eqlC d1
              clear ho hi hh e1 e2 e3 HH1 HI1 H9
              go_wp2_with ((with_reducible refine wpList_load_row (o := ⟨some 195, _, _, _, _, _⟩) rfl 38 (.tmp 30) rfl (wc.heap.size) ?lx 38 (#[.int .i64 4, .int .i64 line, .int .i64 (line % c.ho), .int .i64 core, .int .i64 who, .int .i64 0, .int .i64 0, .int .i64 0, .int .i64 0, .int .i64 0, .int .i64 0, .int .i64 0, .int .i64 0, .int .i64 0, .int .i64 0]) (0, 0) _ ?lg Tryz.underlying38 ?ld ?li ?_); (case lx => rfl); (case lg => exact b30); (case ld => rfl); (case li => kernel_rfl))
              refine (HT1.out _ _ _ HNk.out.1 H10.out).mono ?_
              rintro e w20 ⟨rfl, ho⟩
              have H11 := Lib.hid (ho.add (.cells (mcells (msg 7 line core who 1 0 1 d1)) 38)).swap
              clear ho b30 H10 hcc
              go_wp2_with (first
                | ((with_reducible refine wpList_store_box (op := ⟨none, _, _, _, _, _⟩) rfl 3 (.tmp 200) _ rfl (wc.heap.size) 0 (.int .i64 5) ?sx ?sy (#[.int .i64 4, .int .i64 line, .int .i64 (line % c.ho), .int .i64 core, .int .i64 who, .int .i64 0, .int .i64 0, .int .i64 0, .int .i64 0, .int .i64 0, .int .i64 0, .int .i64 0, .int .i64 0, .int .i64 0, .int .i64 0]) 38 ?sg ?si ?sf ?s1 (#[.int .i64 5, .int .i64 line, .int .i64 (line % c.ho), .int .i64 core, .int .i64 who, .int .i64 0, .int .i64 0, .int .i64 0, .int .i64 0, .int .i64 0, .int .i64 0, .int .i64 0, .int .i64 0, .int .i64 0, .int .i64 0]) ?sn ?_); (case sx => rfl); (case sy => rfl); (case sg => exact H11.out.box (List.mem_cons_self ..)); (case si => kernel_rfl); (case sf => exact Nat.le_of_ble_eq_true rfl); (case s1 => kernel_rfl); (case sn => rfl); intro w21 g4 r4 k4; have H12 := Lib.hid (H11.out.turned g4 r4 k4); have b30 := H12.out.box (List.mem_cons_self ..); clear g4 r4 k4)
                | ((with_reducible refine wpList_load_row (o := ⟨some 203, _, _, _, _, _⟩) rfl 38 (.tmp 30) rfl (wc.heap.size) ?lx 38 (#[.int .i64 5, .int .i64 line, .int .i64 (line % c.ho), .int .i64 core, .int .i64 who, .int .i64 0, .int .i64 0, .int .i64 0, .int .i64 0, .int .i64 0, .int .i64 0, .int .i64 0, .int .i64 0, .int .i64 0, .int .i64 0]) (0, 0) _ ?lg Tryz.underlying38 ?ld ?li ?_); (case lx => rfl); (case lg => exact b30); (case ld => rfl); (case li => kernel_rfl)))
              clear b30
              refine (HT2.out _ _ _ HNk.out.2.1 H12.out).mono ?_
              rintro e w22 ⟨rfl, ho⟩
              have H13 := Lib.hid (ho.add (.cells (mcells (msg 7 line core who 1 0 4 d1)) 38)).swap
              clear ho H12
              go_wp2_with (first
                | ((with_reducible refine wpList_store_box (op := ⟨none, _, _, _, _, _⟩) rfl 3 (.tmp 208) _ rfl (wc.heap.size) 0 (.int .i64 4) ?sx ?sy (#[.int .i64 5, .int .i64 line, .int .i64 (line % c.ho), .int .i64 core, .int .i64 who, .int .i64 0, .int .i64 0, .int .i64 0, .int .i64 0, .int .i64 0, .int .i64 0, .int .i64 0, .int .i64 0, .int .i64 0, .int .i64 0]) 38 ?sg ?si ?sf ?s1 (#[.int .i64 4, .int .i64 line, .int .i64 (line % c.ho), .int .i64 core, .int .i64 who, .int .i64 0, .int .i64 0, .int .i64 0, .int .i64 0, .int .i64 0, .int .i64 0, .int .i64 0, .int .i64 0, .int .i64 0, .int .i64 0]) ?sn ?_); (case sx => rfl); (case sy => rfl); (case sg => exact H13.out.box (List.mem_cons_self ..)); (case si => kernel_rfl); (case sf => exact Nat.le_of_ble_eq_true rfl); (case s1 => kernel_rfl); (case sn => rfl); intro w23 g4 r4 k4; have H14 := Lib.hid (H13.out.turned g4 r4 k4); have b30 := H14.out.box (List.mem_cons_self ..); clear g4 r4 k4)
                | ((with_reducible refine wpList_load_row (o := ⟨some 211, _, _, _, _, _⟩) rfl 38 (.tmp 30) rfl (wc.heap.size) ?lx 38 (#[.int .i64 4, .int .i64 line, .int .i64 (line % c.ho), .int .i64 core, .int .i64 who, .int .i64 0, .int .i64 0, .int .i64 0, .int .i64 0, .int .i64 0, .int .i64 0, .int .i64 0, .int .i64 0, .int .i64 0, .int .i64 0]) (0, 0) _ ?lg Tryz.underlying38 ?ld ?li ?_); (case lx => rfl); (case lg => exact b30); (case ld => rfl); (case li => kernel_rfl)))
              clear b30
              refine (HT3.out _ _ _ HNk.out.2.2 H14.out).mono ?_
              rintro e w24 ⟨rfl, ho⟩
              have H15 := Lib.hid (ho.add (.cells (mcells m0) 38))
              have r31 := msg_mid (H15.out.box (List.mem_cons_of_mem _ (List.mem_cons_of_mem _ (List.mem_cons_of_mem _ (List.mem_cons_self ..)))))
              have r34 := msg_mid (H15.out.box (List.mem_cons_of_mem _ (List.mem_cons_of_mem _ (List.mem_cons_self ..))))
              have h31 := H15.out.cells (List.mem_cons_of_mem _ (List.mem_cons_of_mem _ (List.mem_cons_of_mem _ (List.mem_cons_self ..))))
              have h34 := H15.out.cells (List.mem_cons_of_mem _ (List.mem_cons_of_mem _ (List.mem_cons_self ..)))
              have b26 := H15.out.box (List.mem_cons_of_mem _ (List.mem_cons_of_mem _ (List.mem_cons_of_mem _ (List.mem_cons_of_mem _ (List.mem_cons_self ..)))))
              clear ho H14
              go_wp2_with (first
                | ((with_reducible refine wpList_mid_guarded (op := ⟨some 230, _, _, _, _, _⟩) ?lw 36 (.tmp 229) rfl (w20.heap.size) 7 ?lx ((dcells d1).toList) _ ?lc Tryz.underlying36 ?ld ?li ?_); (case lw => rfl); (case lx => rfl); (case lc => exact r31); (case ld => rfl); (case li => kernel_rfl))
                | ((with_reducible refine wpList_load_guarded (o := ⟨some 231, _, _, _, _, _⟩) ?lw 36 (.tmp 26) rfl (w8.heap.size + 1) ?lx 36 (dcells d1) (0, 0) _ ?lg Tryz.underlying36 ?ld ?li ?_); (case lw => rfl); (case lx => rfl); (case lg => exact b26); (case ld => rfl); (case li => kernel_rfl))
                | ((with_reducible refine wpList_mid_guarded (op := ⟨some 236, _, _, _, _, _⟩) ?lw 36 (.tmp 235) rfl (w22.heap.size) 7 ?lx ((dcells d1).toList) _ ?lc Tryz.underlying36 ?ld ?li ?_); (case lw => rfl); (case lx => rfl); (case lc => exact r34); (case ld => rfl); (case li => kernel_rfl))
                | ((with_reducible refine wpList_load_guarded (o := ⟨some 237, _, _, _, _, _⟩) ?lw 36 (.tmp 26) rfl (w8.heap.size + 1) ?lx 36 (dcells d1) (0, 0) _ ?lg Tryz.underlying36 ?ld ?li ?_); (case lw => rfl); (case lx => rfl); (case lg => exact b26); (case ld => rfl); (case li => kernel_rfl)))
              go_ret
              exact ⟨rfl, H15.out.below⟩
set_option maxRecDepth 100000 in
set_option maxHeartbeats 8000000 in
theorem writes_walk3 (c : Cfg) (core : Int) (q : Option Addr) (cap : Nat) (l : List Stp) (k a v who : Int) (ev : Bool) (w : World) (hc : c.fits) (hT : Tb w) (hkk : k = 3) (hs : StpsA w q l) (h : l.length ≤ 60) (hl : largeB c = false) (ok : okC c = true) (h1 : 0 ≤ core) (h2 : core < c.co) : Calls Tryz.prog 5 #[cv c, .int .i64 core, .slice q l.length cap, .agg #[.int .i64 k, .int .i64 a, .int .i64 v], .int .i64 who, .bool ev] w fun e w' => e = .returned (.bool true) ∧ Below w.heap.size w w' := by
  have HS0 := Lib.hid (sp_two w (.cells (ccells c) 24) (.cells #[.int .i64 k, .int .i64 a, .int .i64 v] 43))
  have HAw := Lib.hid (awake_any ((w.alloc (.cells (ccells c) 24)).alloc (.cells #[.int .i64 k, .int .i64 a, .int .i64 v] 43)) (hT.keeps HS0.out.bl))
  have g1 : ¬ (60 : Int) < l.length := by omega
  have HL := Lib.hid (large_any c)
  rw [hl] at HL
  have HT := Lib.hid hT
  have HN := Lib.hid (fun (w2 w3 : World) (h : Below w2.heap.size w2 w3) (hb : Below w.heap.size w w2) => cnew_ok c core h (hT.keeps hb) hc ok h1 h2)
  have HKq := Lib.hid hkk
  have HS := Lib.hid hs
  have HI := Lib.hid (Inv.new ok)
  have HCo := Lib.hid (And.intro h1 h2)
  have HO := Lib.hid ok
  clear hc hT hl ok h1 h2 hs hkk
  go_enter Tryz.func5, Tryz.ntmps5
  go_wp2_with fail
  refine HAw.out.mono ?_
  rintro e w1 ⟨rfl, hb1⟩
  have HS1 := Lib.hid (HS0.out.step hb1)
  clear hb1
  have hcc := c_cell (HS1.out.ok (w.heap.size, (.cells (ccells c) 24)) (by simp)).1
  go_wp2_with fail
  refine (HL.out _).mono ?_
  rintro e w2 ⟨rfl, hb2⟩
  have HS2 := Lib.hid (HS1.out.step hb2)
  clear hb2 hcc
  have hcc2 := c_cell (HS2.out.ok (w.heap.size, (.cells (ccells c) 24)) (by simp)).1
  go_wp2_with fail
  refine (HN.out _ _ (Below.refl _ w2) HS2.out.bl).mono ?_
  rintro e w3 ⟨K, rfl, ho, hb3⟩
  have H3 := Lib.hid (ho.rebase HS2.out HT.out)
  clear ho hb3 hcc2
  go_wp2
  go_loopw [59] (fun i wr => ∃ j : Nat, j ≤ l.length ∧ i = .int .i64 j ∧ ∃ s n, OwnP w K c core n s [(w.heap.size + 1, .cells #[.int .i64 k, .int .i64 a, .int .i64 v] 43), (w.heap.size, .cells (ccells c) 24)] wr ∧ Inv c s ∧ n ≤ 2 * (j : Int)) (fun i _ => l.length - (intOf i).toNat)
  case atStart => exact ⟨0, Nat.zero_le _, rfl, _, _, H3.out, HI.out, by omega⟩
  case round =>
    obtain ⟨j, hj, rfl, s, n, ho, hi, hn⟩ := hrel
    have H4 := Lib.hid ho
    have HV := Lib.hid hi
    clear ho hi H3
    by_cases hlt : j < l.length
    · obtain ⟨x, hx⟩ : ∃ x, l[j]? = some x := ⟨_, List.getElem?_eq_getElem hlt⟩
      obtain ⟨gl, off, rfl, hgl, hr⟩ := HS.out.step H4.out.below j x hx
      have HR := Lib.hid hr
      have h5 := H4.out.addRow #[.int .i64 0, .int .i64 0, .int .i64 0, .int .i64 0, .int .i64 0, .int .i64 0, .int .i64 0, .int .i64 0, .int .i64 0, .int .i64 0, .int .i64 0, .int .i64 0, .int .i64 0, .int .i64 0, .int .i64 0, .int .i64 0, .int .i64 0, .int .i64 0, .int .i64 0, .int .i64 0, .int .i64 0] (scells x) 45
      have hb5 := h5.box (List.mem_cons_self ..)
      have H5 := Lib.hid h5
      have HB5 := Lib.hid hb5
      have HNn : Hid (n ≤ 900 ∧ n + 2 ≤ 2 * ((j + 1 : Nat) : Int)) := Lib.hid (by omega)
      clear hr hx h5 hn hb5
      go_wp2_with (first
        | ((with_reducible refine wpList_load_mid (op := ⟨some 62, _, _, _, _, _⟩) rfl 45 (.tmp 61) rfl gl (off + j * 21) ?lx (stc x) _ ?lc Tryz.underlying45 ?ld ?li ?_); (case lx => rfl); (case lc => exact HR.out); (case ld => rfl); (case li => kernel_rfl))
        | ((with_reducible refine wpList_store_row (o := ⟨none, _, _, _, _, _⟩) rfl 45 (.tmp 16) (.tmp 62) rfl wr.heap.size (scells x) ?sx ?sy 45 ?old ?sg ?si ?so ?s1 ?_); (case sx => rfl); (case sy => rfl); (case old => exact #[.int .i64 0, .int .i64 0, .int .i64 0, .int .i64 0, .int .i64 0, .int .i64 0, .int .i64 0, .int .i64 0, .int .i64 0, .int .i64 0, .int .i64 0, .int .i64 0, .int .i64 0, .int .i64 0, .int .i64 0, .int .i64 0, .int .i64 0, .int .i64 0, .int .i64 0, .int .i64 0, .int .i64 0]); (case sg => exact heap_alloc_new wr _); (case si => kernel_rfl); (case so => rfl); (case s1 => kernel_rfl))
        | ((with_reducible refine wpList_load_row (o := ⟨some 64, _, _, _, _, _⟩) rfl 45 (.tmp 16) rfl wr.heap.size ?lx 45 (scells x) (0, 0) _ ?lg Tryz.underlying45 ?ld ?li ?_); (case lx => rfl); (case lg => exact HB5.out); (case ld => rfl); (case li => kernel_rfl))
        | (go_at_call 12; refine (H5.out.stp HNn.out.1 x).mono ?_; rintro e w6 ⟨rfl, ho⟩; have H6 := Lib.hid ho.drop; clear ho))
      go_roundw
      case rel => exact ⟨j + 1, by omega, by go_num, _, _, H6.out, HV.out.stp x, HNn.out.2⟩
      case measure => simp [intOf]; omega
    · clear HS
      have HNn : Hid (n ≤ 120) := Lib.hid (by omega)
      have HAd := Lib.hid (fun (wr : World) n s bx (h : OwnP w K c core n s bx wr) => addr_any c a wr h.nums.2.1 h.tbs)
      have HLo := Lib.hid (fun (wr : World) n s bx (h : OwnP w K c core n s bx wr) => h.look (adL c a))
      have HD := Lib.hid (fun (wr : World) n bx (h : OwnP w K c core n s bx wr) => h.doX ⟨k, a, v⟩)
      have hcc := H4.out.cells (List.mem_cons_of_mem _ (List.mem_cons_self ..))
      have hop := H4.out.cells (List.mem_cons_self ..)
      clear hn hj
      by_cases hbad : adE c a ≠ 0 ∨ (doP c s ⟨k, a, v⟩).1.2 ≠ 0
      · have hn0 := do_bad (x := ⟨k, a, v⟩) hbad
        generalize doP c s ⟨k, a, v⟩ = r at *
        obtain ⟨⟨n1, f1⟩, s1⟩ := r
        dsimp only at hn0 hbad HD
        subst hn0
        generalize adE c a = ea at *
        generalize adL c a = line at *
        generalize adW c a = word at *
        have hbb : (ea != 0) = true ∨ (ea != 0) = false ∧ (f1 != 0) = true := by
          by_cases e0 : ea = 0
          · exact .inr ⟨by simpa using e0, by simpa using hbad.resolve_left (by simpa using e0)⟩
          · exact .inl (by simpa using e0)
        clear hbad
        go_wp2_with fail
        refine (HAd.out _ _ _ _ H4.out).mono ?_
        rintro e w5 ⟨rfl, hb5⟩
        have H5 := Lib.hid (H4.out.step hb5)
        clear hb5 hcc hop H4
        go_wp2_with fail
        refine (HLo.out _ _ _ _ H5.out).mono ?_
        rintro e w6 ⟨rfl, hb6⟩
        have H6 := Lib.hid ((H5.out.step hb6).add (.cells (Ar.ycells (look c s line)) 66))
        have hop := H6.out.cells (List.mem_cons_of_mem _ (List.mem_cons_self ..))
        clear hb6 H5
        go_wp2_with fail
        refine (HD.out _ _ _ H6.out).mono ?_
        rintro e w7 ⟨rfl, ho⟩
        have H7 := Lib.hid ho
        clear ho hop H6
        rcases hbb with e1 | ⟨e1, e2⟩
        · go_wp2
          go_ret
          exact ⟨rfl, H7.out.below⟩
        · go_wp2
          go_ret
          exact ⟨rfl, H7.out.below⟩
      · obtain ⟨he, hf⟩ : adE c a = 0 ∧ (doP c s ⟨k, a, v⟩).1.2 = 0 := by
          refine ⟨Classical.byContradiction fun q => hbad (.inl q), Classical.byContradiction fun q => hbad (.inr q)⟩
        clear hbad
        obtain ⟨n1, s1, hd⟩ : ∃ n1 s1, doP c s ⟨k, a, v⟩ = ((n1, 0), s1) := ⟨(doP c s ⟨k, a, v⟩).1.1, (doP c s ⟨k, a, v⟩).2, by rw [← hf]⟩
        obtain ⟨ha, hk3, hn1, hI1, ht1, hw1, hs1⟩ := HV.out.does hd
        rw [hd] at HD
        obtain ⟨hok, hl0, hl1⟩ := ok_of_lnOk (lnOk_adL ha)
        have hlnk : lnOk c (adL c a) = true := lnOk_adL ha
        obtain ⟨m, hm, hm8⟩ : ∃ m : Nat, a % c.wo = m ∧ m < 8 := ⟨(a % c.wo).toNat, (word_lt ha).2.2, (word_lt ha).2.1⟩
        have hwm : adW c a = (m : Int) := by rw [← hm]; simp [adW, ha]
        rw [he, hwm] at HAd
        dsimp only at hn1 hk3 hs1 hw1 hI1 ht1
        unfold wnt at hw1
        dsimp only at hw1
        rw [hm, Int.toNat_natCast] at hn1 hw1
        obtain ⟨hco1, hco2⟩ := (ok_sizes hok).1
        obtain ⟨hh1, hh2⟩ := (ok_sizes hok).2.1
        have HWa : Hid (1 ≤ c.wa ∧ c.wa ≤ 64) := Lib.hid (ways_bound hok)
        obtain ⟨hse1, hse2⟩ := (ok_pows c hok).2.2.1.2
        have hne : (c.ho == 0) = false := by simp; omega
        have hnse : (c.se == 0) = false := by simp; omega
        have HM : Hid (0 ≤ who → who < c.co → who ≠ core → mayM c (fwd c 4 (adL c a) core who) = true ∧ mayM c (fwd c 5 (adL c a) core who) = true) := Lib.hid (fun q1 q2 q3 => ⟨may_fwd hlnk HCo.out.1 HCo.out.2 q1 q2 q3 (.inl rfl), may_fwd hlnk HCo.out.1 HCo.out.2 q1 q2 q3 (.inr rfl)⟩)
        have HH : Hid (∀ want, (look c s1 (adL c a)).wd = want → 2 ≤ (look c s1 (adL c a)).st → Has c s1 (adL c a) want) := Lib.hid (fun want e1 e2 => .inl ⟨ht1, e2, e1⟩)
        have HI1 := Lib.hid hI1
        clear hd ha hI1 ht1 hm he hf hok hl1 hlnk hwm HO HI HV
        have HL0 := Lib.hid (fun (wr : World) n bx (h : OwnP w K c core n s bx wr) => HLo.out wr n s bx h)
        have HL1 := Lib.hid (fun (wr : World) n bx (h : OwnP w K c core n s1 bx wr) => HLo.out wr n s1 bx h)
        clear HLo
        generalize adL c a = line at *
        generalize look c s line = y at *
        generalize there c s line = tq at *
        generalize look c s1 line = y1 at *
        generalize there c s1 line = tq1 at *
        obtain ⟨st0, ln0, dd, lk0⟩ := y
        obtain ⟨st1, ln1, d1, lk1⟩ := y1
        have hm0 : (0 : Int) ≤ (m : Int) := by omega
        have hm7 : (m : Int) < 8 := by omega
        have h0l : 0 ≤ line := hl0
        have hrs := Int.emod_nonneg line (show c.se ≠ 0 by omega)
        have hrh := Int.emod_nonneg line (show c.ho ≠ 0 by omega)
        dsimp only at hn1 hw1 hs1 HH
        have hkk := HKq.out
        subst hkk
        · rw [if_neg (by decide)] at hw1
          rw [if_neg (by decide)] at hn1
          obtain rfl : st1 = 4 := hs1 (by decide)
          clear hs1
          have HHas := Lib.hid (HH.out d1 rfl)
          clear HH
          have HWd := Lib.hid (fun (w : World) (b : Nat) (T : TypeId) (h : w.heap[b]? = some (.cells (Ar.ycells ⟨st0, ln0, dd, lk0⟩) T (0, 0))) => way_word h m hm8)
          dsimp only at HWd
          generalize dd.at m = dv at *
          subst hn1
          have HSw := Lib.hid (fun (w1 : World) (b : Nat) (h : w1.heap[b]? = some (.cells (dcells dd) 36 (0, 0))) => Me.set_words h m hm8 v)
          rw [← hw1] at HSw
          have HCm := Lib.hid (Me.word_cell dd m hm8)
          clear hw1
          have hqn := words_neqC d1
          have HQn := Lib.hid hqn
          clear hqn
          go_wp2_with fail
          refine (HAd.out _ _ _ _ H4.out).mono ?_
          rintro e w5 ⟨rfl, hb5⟩
          have H5 := Lib.hid (H4.out.step hb5)
          clear hb5 hcc hop H4
          go_wp2_with fail
          refine (HL0.out _ _ _ H5.out).mono ?_
          rintro e w6 ⟨rfl, hb6⟩
          have H6 := Lib.hid ((H5.out.step hb6).add (.cells (Ar.ycells ⟨st0, ln0, dd, lk0⟩) 66))
          have hop := H6.out.cells (List.mem_cons_of_mem _ (List.mem_cons_self ..))
          clear hb6 H5
          go_wp2_with fail
          refine (HD.out _ _ _ H6.out).mono ?_
          rintro e w7 ⟨rfl, ho⟩
          have H7 := Lib.hid ho
          clear ho hop H6
          go_wp2_with fail
          refine (HL1.out _ _ _ H7.out).mono ?_
          rintro e w8 ⟨rfl, hb8⟩
          have h8 := (H7.out.step hb8).add (.cells (Ar.ycells ⟨4, ln1, d1, lk1⟩) 66)
          have r20 := way_mid (h8.box (List.mem_cons_of_mem _ (List.mem_cons_self ..)))
          have h9 := h8.add (.cells (dcells dd) 36)
          rw [show (w8.alloc (.cells (Ar.ycells ⟨4, ln1, d1, lk1⟩) 66)).heap.size = w8.heap.size + 1 by simp] at h9
          have H9a := Lib.hid h9
          have hop0 := h9.cells (List.mem_cons_of_mem _ (List.mem_cons_of_mem _ (List.mem_cons_of_mem _ (List.mem_cons_self ..))))
          clear h8 h9 hb8 H7
          go_upto_region 20 with ((with_reducible refine wpList_load_mid (op := ⟨some 102, _, _, _, _, _⟩) rfl 36 (.tmp 101) rfl (w6.heap.size) 2 ?lx ((dcells dd).toList) _ ?lc Tryz.underlying36 ?ld ?li ?_); (case lx => rfl); (case lc => exact r20); (case ld => rfl); (case li => kernel_rfl))
          clear r20
          generalize ((w8.alloc (.cells (Ar.ycells ⟨4, ln1, d1, lk1⟩) 66)).alloc (.cells (dcells dd) 36)) = w9 at *
          have q1 := (H9a.out.cells (List.mem_cons_self ..) m).trans HCm.out
          have q2 := Me.blk_free (H9a.out.box (List.mem_cons_self ..)) m
          have H9 := Lib.hid (H9a.out.turned (HSw.out _ _ (H9a.out.box (List.mem_cons_self ..))) ⟨rfl, rfl, rfl, by simp⟩ (fun j hj => heap_setCell_other _ _ _ _ (by simpa using hj)))
          clear H9a
          have hcc := H9.out.cells (List.mem_cons_of_mem _ (List.mem_cons_of_mem _ (List.mem_cons_of_mem _ (List.mem_cons_of_mem _ (List.mem_cons_self ..)))))
          have hop := H9.out.cells (List.mem_cons_of_mem _ (List.mem_cons_of_mem _ (List.mem_cons_of_mem _ (List.mem_cons_self ..))))
          have h24 := H9.out.cells (List.mem_cons_of_mem _ (List.mem_cons_self ..))
          have r24 := way_mid (H9.out.box (List.mem_cons_of_mem _ (List.mem_cons_self ..)))
          have b26 := H9.out.box (List.mem_cons_self ..)
          have hqn := HQn.out
          have hcw := HWd.out _ _ _ (H9.out.box (List.mem_cons_of_mem _ (List.mem_cons_of_mem _ (List.mem_cons_self ..))))
          rcases (show who < 0 ∨ ¬ who < 0 ∧ c.co ≤ who ∨ ¬ who < 0 ∧ ¬ c.co ≤ who ∧ who = core ∨ ¬ who < 0 ∧ ¬ c.co ≤ who ∧ who ≠ core by omega) with g2 | ⟨g2, g3⟩ | ⟨g2, g3, rfl⟩ | ⟨g2, g3, g4⟩
          · go_wp2_with (first
              | fail
              | ((with_reducible refine wpList_load_mid (op := ⟨some 111, _, _, _, _, _⟩) rfl 36 (.tmp 110) rfl (w8.heap.size) 2 ?lx ((dcells d1).toList) _ ?lc Tryz.underlying36 ?ld ?li ?_); (case lx => rfl); (case lc => exact r24); (case ld => rfl); (case li => kernel_rfl))
              | ((with_reducible refine wpList_load_row (o := ⟨some 112, _, _, _, _, _⟩) rfl 36 (.tmp 26) rfl (w8.heap.size + 1) ?lx 36 (dcells d1) (0, 0) _ ?lg Tryz.underlying36 ?ld ?li ?_); (case lx => rfl); (case lg => exact b26); (case ld => rfl); (case li => kernel_rfl)))
            go_ret
            exact ⟨rfl, H9.out.below⟩
          · go_wp2_with (first
              | fail
              | ((with_reducible refine wpList_load_mid (op := ⟨some 111, _, _, _, _, _⟩) rfl 36 (.tmp 110) rfl (w8.heap.size) 2 ?lx ((dcells d1).toList) _ ?lc Tryz.underlying36 ?ld ?li ?_); (case lx => rfl); (case lc => exact r24); (case ld => rfl); (case li => kernel_rfl))
              | ((with_reducible refine wpList_load_row (o := ⟨some 112, _, _, _, _, _⟩) rfl 36 (.tmp 26) rfl (w8.heap.size + 1) ?lx 36 (dcells d1) (0, 0) _ ?lg Tryz.underlying36 ?ld ?li ?_); (case lx => rfl); (case lg => exact b26); (case ld => rfl); (case li => kernel_rfl)))
            go_ret
            exact ⟨rfl, H9.out.below⟩
          · go_wp2_with (first
              | fail
              | ((with_reducible refine wpList_load_mid (op := ⟨some 111, _, _, _, _, _⟩) rfl 36 (.tmp 110) rfl (w8.heap.size) 2 ?lx ((dcells d1).toList) _ ?lc Tryz.underlying36 ?ld ?li ?_); (case lx => rfl); (case lc => exact r24); (case ld => rfl); (case li => kernel_rfl))
              | ((with_reducible refine wpList_load_row (o := ⟨some 112, _, _, _, _, _⟩) rfl 36 (.tmp 26) rfl (w8.heap.size + 1) ?lx 36 (dcells d1) (0, 0) _ ?lg Tryz.underlying36 ?ld ?li ?_); (case lx => rfl); (case lg => exact b26); (case ld => rfl); (case li => kernel_rfl)))
            go_ret
            exact ⟨rfl, H9.out.below⟩
          · have hwb : (who == core) = false := by simpa using g4
            have HMM := Lib.hid (HM.out (by omega) (by omega) g4)
            have HH1 := Lib.hid (HHas.out (by decide))
            clear g4 HM HHas
            go_upto_block 2 with (first
              | fail
              | ((with_reducible refine wpList_load_mid (op := ⟨some 111, _, _, _, _, _⟩) rfl 36 (.tmp 110) rfl (w8.heap.size) 2 ?lx ((dcells d1).toList) _ ?lc Tryz.underlying36 ?ld ?li ?_); (case lx => rfl); (case lc => exact r24); (case ld => rfl); (case li => kernel_rfl))
              | ((with_reducible refine wpList_load_row (o := ⟨some 112, _, _, _, _, _⟩) rfl 36 (.tmp 26) rfl (w8.heap.size + 1) ?lx 36 (dcells d1) (0, 0) _ ?lg Tryz.underlying36 ?ld ?li ?_); (case lx => rfl); (case lg => exact b26); (case ld => rfl); (case li => kernel_rfl)))
            go_cut [] (fun wx => ∃ sx, OwnP w K c core n sx [(w8.heap.size + 1, .cells (dcells d1) 36), (w8.heap.size, .cells (Ar.ycells ⟨4, ln1, d1, lk1⟩) 66), (w6.heap.size, .cells (Ar.ycells ⟨st0, ln0, dd, lk0⟩) 66), (w.heap.size + 1, .cells #[.int .i64 3, .int .i64 a, .int .i64 v] 43), (w.heap.size, .cells (ccells c) 24)] wx ∧ Inv c sx ∧ Has c sx line d1)
            case first =>
              clear hcc hop h24 r24 b26 q1 q2 hop0 hcw
              go_wp2
              go_loopw [27] (fun i wr => ∃ j : Nat, (j : Int) ≤ 64 ∧ i = .int .i64 j ∧ ∃ sx, OwnP w K c core n sx [(w8.heap.size + 1, .cells (dcells d1) 36), (w8.heap.size, .cells (Ar.ycells ⟨4, ln1, d1, lk1⟩) 66), (w6.heap.size, .cells (Ar.ycells ⟨st0, ln0, dd, lk0⟩) 66), (w.heap.size + 1, .cells #[.int .i64 3, .int .i64 a, .int .i64 v] 43), (w.heap.size, .cells (ccells c) 24)] wr ∧ Inv c sx ∧ Has c sx line d1) (fun i _ => 65 - (intOf i).toNat)
              case atStart => exact ⟨0, by omega, rfl, _, H9.out, HI1.out, HH1.out⟩
              case round =>
                obtain ⟨j, hj, rfl, sx, ho, hi, hh⟩ := hrel
                have H10 := Lib.hid ho
                have HIx := Lib.hid hi
                have HHx := Lib.hid hh
                have hcc := H10.out.cells (List.mem_cons_of_mem _ (List.mem_cons_of_mem _ (List.mem_cons_of_mem _ (List.mem_cons_of_mem _ (List.mem_cons_self ..)))))
                have hwa : c.wa ≤ 64 := HWa.out.2
                clear ho hi hh H9 HI1 HH1
                cases ev
                · go_wp2
                  go_meet
                  case rel => exact ⟨_, H10.out, HIx.out, HHx.out⟩
                · by_cases hlt2 : (j : Int) < c.wa
                  · have hj64 : (j : Int) < 64 := by omega
                    have HWy := Lib.hid (H10.out.way (line % c.se) j)
                    generalize hat : atP c sx (line % c.se) j = r at *
                    obtain ⟨yx, qx⟩ := r
                    go_wp2_with fail
                    refine HWy.out.mono ?_
                    rintro e w10 ⟨rfl, hb10⟩
                    have H11 := Lib.hid ((H10.out.step hb10).add (.cells (Ar.ycells yx) 66))
                    have hcc2 := H11.out.cells (List.mem_cons_of_mem _ (List.mem_cons_of_mem _ (List.mem_cons_of_mem _ (List.mem_cons_of_mem _ (List.mem_cons_of_mem _ (List.mem_cons_self ..))))))
                    clear hb10 hcc HWy
                    by_cases hyl : yx.ln = line
                    · have hyb : (yx.ln == line) = true := by simpa using hyl
                      have HHy := Lib.hid (HIx.out.has_evict (core := core) HHx.out (set := line % c.se) (way := j) (by rw [hat]; exact hyl))
                      clear hyl hat
                      go_wp2_with fail
                      refine (H11.out.evict (line % c.se) j).mono ?_
                      rintro e w11 ⟨rfl, ho⟩
                      have H12 := Lib.hid ho.drop
                      clear ho hcc2 H11 H10
                      go_wp2_with fail
                      go_roundw
                      case rel => exact ⟨j + 1, by omega, by go_num, _, H12.out, HIx.out.evict _ _, HHy.out⟩
                      case measure => simp [intOf]; omega
                    · have hyb : (yx.ln == line) = false := by simpa using hyl
                      clear hyl hat
                      go_wp2_with fail
                      go_roundw
                      case rel => exact ⟨j + 1, by omega, by go_num, _, H11.out.drop, HIx.out, HHx.out⟩
                      case measure => simp [intOf]; omega
                  · go_wp2
                    go_meet
                    case rel => exact ⟨_, H10.out, HIx.out, HHx.out⟩
            case rest =>
              clear hcc hop h24 r24 b26 q1 q2 hop0 hcw
              obtain ⟨sx, ho, hi, hh⟩ := hcut
              obtain ⟨t1, t2, t3, e1, e2, e3⟩ := hi.told hh HMM.out.1 HMM.out.2
              have HT1 := Lib.hid (fun (wr : World) n bx (hn : n ≤ 900) (h : OwnP w K c core n sx bx wr) => (by have q := h.take hn (fwd c 4 line core who); rw [e1] at q; exact q : Calls Tryz.prog 23 #[ptr K.k, .agg #[.int .i64 4, .int .i64 line, .int .i64 (line % c.ho), .int .i64 core, .int .i64 who, .int .i64 0, .int .i64 0, .int .i64 0, .int .i64 0, .int .i64 0, .int .i64 0, .int .i64 0, .int .i64 0, .int .i64 0, .int .i64 0]] wr (RetT (msg 7 line core who 1 0 1 d1, true, 0) (OwnP w K c core (n + 2) t1 bx))))
              have HT2 := Lib.hid (fun (wr : World) n bx (hn : n ≤ 900) (h : OwnP w K c core n t1 bx wr) => (by have q := h.take hn (fwd c 5 line core who); rw [e2] at q; exact q : Calls Tryz.prog 23 #[ptr K.k, .agg #[.int .i64 5, .int .i64 line, .int .i64 (line % c.ho), .int .i64 core, .int .i64 who, .int .i64 0, .int .i64 0, .int .i64 0, .int .i64 0, .int .i64 0, .int .i64 0, .int .i64 0, .int .i64 0, .int .i64 0, .int .i64 0]] wr (RetT (msg 7 line core who 1 0 4 d1, true, 0) (OwnP w K c core (n + 2) t2 bx))))
              have HT3 := Lib.hid (fun (wr : World) n bx (hn : n ≤ 900) (h : OwnP w K c core n t2 bx wr) => (by have q := h.take hn (fwd c 4 line core who); rw [e3] at q; exact q : Calls Tryz.prog 23 #[ptr K.k, .agg #[.int .i64 4, .int .i64 line, .int .i64 (line % c.ho), .int .i64 core, .int .i64 who, .int .i64 0, .int .i64 0, .int .i64 0, .int .i64 0, .int .i64 0, .int .i64 0, .int .i64 0, .int .i64 0, .int .i64 0, .int .i64 0]] wr (RetT (m0, false, 7) (OwnP w K c core (n + 2) t3 bx))))
              have hcc := (Lib.hid ho).out.cells (List.mem_cons_of_mem _ (List.mem_cons_of_mem _ (List.mem_cons_of_mem _ (List.mem_cons_of_mem _ (List.mem_cons_self ..)))))
              have HNk : Hid (n ≤ 900 ∧ n + 2 ≤ 900 ∧ n + 2 + 2 ≤ 900) := Lib.hid (by have := HNn.out; omega)
              have H10 := Lib.hid (ho.add (.cells #[.int .i64 4, .int .i64 line, .int .i64 (line % c.ho), .int .i64 core, .int .i64 who, .int .i64 0, .int .i64 0, .int .i64 0, .int .i64 0, .int .i64 0, .int .i64 0, .int .i64 0, .int .i64 0, .int .i64 0, .int .i64 0] 38))
              have b30 := H10.out.box (List.mem_cons_self ..)
              have hqe := words_eqlC d1
              clear ho hi hh e1 e2 e3 HH1 HI1 H9
              go_wp2_with ((with_reducible refine wpList_load_row (o := ⟨some 195, _, _, _, _, _⟩) rfl 38 (.tmp 30) rfl (wc.heap.size) ?lx 38 (#[.int .i64 4, .int .i64 line, .int .i64 (line % c.ho), .int .i64 core, .int .i64 who, .int .i64 0, .int .i64 0, .int .i64 0, .int .i64 0, .int .i64 0, .int .i64 0, .int .i64 0, .int .i64 0, .int .i64 0, .int .i64 0]) (0, 0) _ ?lg Tryz.underlying38 ?ld ?li ?_); (case lx => rfl); (case lg => exact b30); (case ld => rfl); (case li => kernel_rfl))
              refine (HT1.out _ _ _ HNk.out.1 H10.out).mono ?_
              rintro e w20 ⟨rfl, ho⟩
              have H11 := Lib.hid (ho.add (.cells (mcells (msg 7 line core who 1 0 1 d1)) 38)).swap
              clear ho b30 H10 hcc
              go_wp2_with (first
                | ((with_reducible refine wpList_store_box (op := ⟨none, _, _, _, _, _⟩) rfl 3 (.tmp 200) _ rfl (wc.heap.size) 0 (.int .i64 5) ?sx ?sy (#[.int .i64 4, .int .i64 line, .int .i64 (line % c.ho), .int .i64 core, .int .i64 who, .int .i64 0, .int .i64 0, .int .i64 0, .int .i64 0, .int .i64 0, .int .i64 0, .int .i64 0, .int .i64 0, .int .i64 0, .int .i64 0]) 38 ?sg ?si ?sf ?s1 (#[.int .i64 5, .int .i64 line, .int .i64 (line % c.ho), .int .i64 core, .int .i64 who, .int .i64 0, .int .i64 0, .int .i64 0, .int .i64 0, .int .i64 0, .int .i64 0, .int .i64 0, .int .i64 0, .int .i64 0, .int .i64 0]) ?sn ?_); (case sx => rfl); (case sy => rfl); (case sg => exact H11.out.box (List.mem_cons_self ..)); (case si => kernel_rfl); (case sf => exact Nat.le_of_ble_eq_true rfl); (case s1 => kernel_rfl); (case sn => rfl); intro w21 g4 r4 k4; have H12 := Lib.hid (H11.out.turned g4 r4 k4); have b30 := H12.out.box (List.mem_cons_self ..); clear g4 r4 k4)
                | ((with_reducible refine wpList_load_row (o := ⟨some 203, _, _, _, _, _⟩) rfl 38 (.tmp 30) rfl (wc.heap.size) ?lx 38 (#[.int .i64 5, .int .i64 line, .int .i64 (line % c.ho), .int .i64 core, .int .i64 who, .int .i64 0, .int .i64 0, .int .i64 0, .int .i64 0, .int .i64 0, .int .i64 0, .int .i64 0, .int .i64 0, .int .i64 0, .int .i64 0]) (0, 0) _ ?lg Tryz.underlying38 ?ld ?li ?_); (case lx => rfl); (case lg => exact b30); (case ld => rfl); (case li => kernel_rfl)))
              clear b30
              refine (HT2.out _ _ _ HNk.out.2.1 H12.out).mono ?_
              rintro e w22 ⟨rfl, ho⟩
              have H13 := Lib.hid (ho.add (.cells (mcells (msg 7 line core who 1 0 4 d1)) 38)).swap
              clear ho H12
              go_wp2_with (first
                | ((with_reducible refine wpList_store_box (op := ⟨none, _, _, _, _, _⟩) rfl 3 (.tmp 208) _ rfl (wc.heap.size) 0 (.int .i64 4) ?sx ?sy (#[.int .i64 5, .int .i64 line, .int .i64 (line % c.ho), .int .i64 core, .int .i64 who, .int .i64 0, .int .i64 0, .int .i64 0, .int .i64 0, .int .i64 0, .int .i64 0, .int .i64 0, .int .i64 0, .int .i64 0, .int .i64 0]) 38 ?sg ?si ?sf ?s1 (#[.int .i64 4, .int .i64 line, .int .i64 (line % c.ho), .int .i64 core, .int .i64 who, .int .i64 0, .int .i64 0, .int .i64 0, .int .i64 0, .int .i64 0, .int .i64 0, .int .i64 0, .int .i64 0, .int .i64 0, .int .i64 0]) ?sn ?_); (case sx => rfl); (case sy => rfl); (case sg => exact H13.out.box (List.mem_cons_self ..)); (case si => kernel_rfl); (case sf => exact Nat.le_of_ble_eq_true rfl); (case s1 => kernel_rfl); (case sn => rfl); intro w23 g4 r4 k4; have H14 := Lib.hid (H13.out.turned g4 r4 k4); have b30 := H14.out.box (List.mem_cons_self ..); clear g4 r4 k4)
                | ((with_reducible refine wpList_load_row (o := ⟨some 211, _, _, _, _, _⟩) rfl 38 (.tmp 30) rfl (wc.heap.size) ?lx 38 (#[.int .i64 4, .int .i64 line, .int .i64 (line % c.ho), .int .i64 core, .int .i64 who, .int .i64 0, .int .i64 0, .int .i64 0, .int .i64 0, .int .i64 0, .int .i64 0, .int .i64 0, .int .i64 0, .int .i64 0, .int .i64 0]) (0, 0) _ ?lg Tryz.underlying38 ?ld ?li ?_); (case lx => rfl); (case lg => exact b30); (case ld => rfl); (case li => kernel_rfl)))
              clear b30
              refine (HT3.out _ _ _ HNk.out.2.2 H14.out).mono ?_
              rintro e w24 ⟨rfl, ho⟩
              have H15 := Lib.hid (ho.add (.cells (mcells m0) 38))
              have r31 := msg_mid (H15.out.box (List.mem_cons_of_mem _ (List.mem_cons_of_mem _ (List.mem_cons_of_mem _ (List.mem_cons_self ..)))))
              have r34 := msg_mid (H15.out.box (List.mem_cons_of_mem _ (List.mem_cons_of_mem _ (List.mem_cons_self ..))))
              have h31 := H15.out.cells (List.mem_cons_of_mem _ (List.mem_cons_of_mem _ (List.mem_cons_of_mem _ (List.mem_cons_self ..))))
              have h34 := H15.out.cells (List.mem_cons_of_mem _ (List.mem_cons_of_mem _ (List.mem_cons_self ..)))
              have b26 := H15.out.box (List.mem_cons_of_mem _ (List.mem_cons_of_mem _ (List.mem_cons_of_mem _ (List.mem_cons_of_mem _ (List.mem_cons_self ..)))))
              clear ho H14
              go_wp2_with (first
                | ((with_reducible refine wpList_mid_guarded (op := ⟨some 230, _, _, _, _, _⟩) ?lw 36 (.tmp 229) rfl (w20.heap.size) 7 ?lx ((dcells d1).toList) _ ?lc Tryz.underlying36 ?ld ?li ?_); (case lw => rfl); (case lx => rfl); (case lc => exact r31); (case ld => rfl); (case li => kernel_rfl))
                | ((with_reducible refine wpList_load_guarded (o := ⟨some 231, _, _, _, _, _⟩) ?lw 36 (.tmp 26) rfl (w8.heap.size + 1) ?lx 36 (dcells d1) (0, 0) _ ?lg Tryz.underlying36 ?ld ?li ?_); (case lw => rfl); (case lx => rfl); (case lg => exact b26); (case ld => rfl); (case li => kernel_rfl))
                | ((with_reducible refine wpList_mid_guarded (op := ⟨some 236, _, _, _, _, _⟩) ?lw 36 (.tmp 235) rfl (w22.heap.size) 7 ?lx ((dcells d1).toList) _ ?lc Tryz.underlying36 ?ld ?li ?_); (case lw => rfl); (case lx => rfl); (case lc => exact r34); (case ld => rfl); (case li => kernel_rfl))
                | ((with_reducible refine wpList_load_guarded (o := ⟨some 237, _, _, _, _, _⟩) ?lw 36 (.tmp 26) rfl (w8.heap.size + 1) ?lx 36 (dcells d1) (0, 0) _ ?lg Tryz.underlying36 ?ld ?li ?_); (case lw => rfl); (case lx => rfl); (case lg => exact b26); (case ld => rfl); (case li => kernel_rfl)))
              go_ret
              exact ⟨rfl, H15.out.below⟩
set_option maxRecDepth 100000 in
set_option maxHeartbeats 8000000 in
theorem writes_walk0 (c : Cfg) (core : Int) (q : Option Addr) (cap : Nat) (l : List Stp) (k a v who : Int) (ev : Bool) (w : World) (hc : c.fits) (hT : Tb w) (hkk : ¬ (k = 1 ∨ k = 2 ∨ k = 3)) (hs : StpsA w q l) (h : l.length ≤ 60) (hl : largeB c = false) (ok : okC c = true) (h1 : 0 ≤ core) (h2 : core < c.co) : Calls Tryz.prog 5 #[cv c, .int .i64 core, .slice q l.length cap, .agg #[.int .i64 k, .int .i64 a, .int .i64 v], .int .i64 who, .bool ev] w fun e w' => e = .returned (.bool true) ∧ Below w.heap.size w w' := by
  have HS0 := Lib.hid (sp_two w (.cells (ccells c) 24) (.cells #[.int .i64 k, .int .i64 a, .int .i64 v] 43))
  have HAw := Lib.hid (awake_any ((w.alloc (.cells (ccells c) 24)).alloc (.cells #[.int .i64 k, .int .i64 a, .int .i64 v] 43)) (hT.keeps HS0.out.bl))
  have g1 : ¬ (60 : Int) < l.length := by omega
  have HL := Lib.hid (large_any c)
  rw [hl] at HL
  have HT := Lib.hid hT
  have HN := Lib.hid (fun (w2 w3 : World) (h : Below w2.heap.size w2 w3) (hb : Below w.heap.size w w2) => cnew_ok c core h (hT.keeps hb) hc ok h1 h2)
  have HKq := Lib.hid hkk
  have HS := Lib.hid hs
  have HI := Lib.hid (Inv.new ok)
  have HCo := Lib.hid (And.intro h1 h2)
  have HO := Lib.hid ok
  clear hc hT hl ok h1 h2 hs hkk
  go_enter Tryz.func5, Tryz.ntmps5
  go_wp2_with fail
  refine HAw.out.mono ?_
  rintro e w1 ⟨rfl, hb1⟩
  have HS1 := Lib.hid (HS0.out.step hb1)
  clear hb1
  have hcc := c_cell (HS1.out.ok (w.heap.size, (.cells (ccells c) 24)) (by simp)).1
  go_wp2_with fail
  refine (HL.out _).mono ?_
  rintro e w2 ⟨rfl, hb2⟩
  have HS2 := Lib.hid (HS1.out.step hb2)
  clear hb2 hcc
  have hcc2 := c_cell (HS2.out.ok (w.heap.size, (.cells (ccells c) 24)) (by simp)).1
  go_wp2_with fail
  refine (HN.out _ _ (Below.refl _ w2) HS2.out.bl).mono ?_
  rintro e w3 ⟨K, rfl, ho, hb3⟩
  have H3 := Lib.hid (ho.rebase HS2.out HT.out)
  clear ho hb3 hcc2
  go_wp2
  go_loopw [59] (fun i wr => ∃ j : Nat, j ≤ l.length ∧ i = .int .i64 j ∧ ∃ s n, OwnP w K c core n s [(w.heap.size + 1, .cells #[.int .i64 k, .int .i64 a, .int .i64 v] 43), (w.heap.size, .cells (ccells c) 24)] wr ∧ Inv c s ∧ n ≤ 2 * (j : Int)) (fun i _ => l.length - (intOf i).toNat)
  case atStart => exact ⟨0, Nat.zero_le _, rfl, _, _, H3.out, HI.out, by omega⟩
  case round =>
    obtain ⟨j, hj, rfl, s, n, ho, hi, hn⟩ := hrel
    have H4 := Lib.hid ho
    have HV := Lib.hid hi
    clear ho hi H3
    by_cases hlt : j < l.length
    · obtain ⟨x, hx⟩ : ∃ x, l[j]? = some x := ⟨_, List.getElem?_eq_getElem hlt⟩
      obtain ⟨gl, off, rfl, hgl, hr⟩ := HS.out.step H4.out.below j x hx
      have HR := Lib.hid hr
      have h5 := H4.out.addRow #[.int .i64 0, .int .i64 0, .int .i64 0, .int .i64 0, .int .i64 0, .int .i64 0, .int .i64 0, .int .i64 0, .int .i64 0, .int .i64 0, .int .i64 0, .int .i64 0, .int .i64 0, .int .i64 0, .int .i64 0, .int .i64 0, .int .i64 0, .int .i64 0, .int .i64 0, .int .i64 0, .int .i64 0] (scells x) 45
      have hb5 := h5.box (List.mem_cons_self ..)
      have H5 := Lib.hid h5
      have HB5 := Lib.hid hb5
      have HNn : Hid (n ≤ 900 ∧ n + 2 ≤ 2 * ((j + 1 : Nat) : Int)) := Lib.hid (by omega)
      clear hr hx h5 hn hb5
      go_wp2_with (first
        | ((with_reducible refine wpList_load_mid (op := ⟨some 62, _, _, _, _, _⟩) rfl 45 (.tmp 61) rfl gl (off + j * 21) ?lx (stc x) _ ?lc Tryz.underlying45 ?ld ?li ?_); (case lx => rfl); (case lc => exact HR.out); (case ld => rfl); (case li => kernel_rfl))
        | ((with_reducible refine wpList_store_row (o := ⟨none, _, _, _, _, _⟩) rfl 45 (.tmp 16) (.tmp 62) rfl wr.heap.size (scells x) ?sx ?sy 45 ?old ?sg ?si ?so ?s1 ?_); (case sx => rfl); (case sy => rfl); (case old => exact #[.int .i64 0, .int .i64 0, .int .i64 0, .int .i64 0, .int .i64 0, .int .i64 0, .int .i64 0, .int .i64 0, .int .i64 0, .int .i64 0, .int .i64 0, .int .i64 0, .int .i64 0, .int .i64 0, .int .i64 0, .int .i64 0, .int .i64 0, .int .i64 0, .int .i64 0, .int .i64 0, .int .i64 0]); (case sg => exact heap_alloc_new wr _); (case si => kernel_rfl); (case so => rfl); (case s1 => kernel_rfl))
        | ((with_reducible refine wpList_load_row (o := ⟨some 64, _, _, _, _, _⟩) rfl 45 (.tmp 16) rfl wr.heap.size ?lx 45 (scells x) (0, 0) _ ?lg Tryz.underlying45 ?ld ?li ?_); (case lx => rfl); (case lg => exact HB5.out); (case ld => rfl); (case li => kernel_rfl))
        | (go_at_call 12; refine (H5.out.stp HNn.out.1 x).mono ?_; rintro e w6 ⟨rfl, ho⟩; have H6 := Lib.hid ho.drop; clear ho))
      go_roundw
      case rel => exact ⟨j + 1, by omega, by go_num, _, _, H6.out, HV.out.stp x, HNn.out.2⟩
      case measure => simp [intOf]; omega
    · clear HS
      have HNn : Hid (n ≤ 120) := Lib.hid (by omega)
      have HAd := Lib.hid (fun (wr : World) n s bx (h : OwnP w K c core n s bx wr) => addr_any c a wr h.nums.2.1 h.tbs)
      have HLo := Lib.hid (fun (wr : World) n s bx (h : OwnP w K c core n s bx wr) => h.look (adL c a))
      have HD := Lib.hid (fun (wr : World) n bx (h : OwnP w K c core n s bx wr) => h.doX ⟨k, a, v⟩)
      have hcc := H4.out.cells (List.mem_cons_of_mem _ (List.mem_cons_self ..))
      have hop := H4.out.cells (List.mem_cons_self ..)
      clear hn hj
      by_cases hbad : adE c a ≠ 0 ∨ (doP c s ⟨k, a, v⟩).1.2 ≠ 0
      · have hn0 := do_bad (x := ⟨k, a, v⟩) hbad
        generalize doP c s ⟨k, a, v⟩ = r at *
        obtain ⟨⟨n1, f1⟩, s1⟩ := r
        dsimp only at hn0 hbad HD
        subst hn0
        generalize adE c a = ea at *
        generalize adL c a = line at *
        generalize adW c a = word at *
        have hbb : (ea != 0) = true ∨ (ea != 0) = false ∧ (f1 != 0) = true := by
          by_cases e0 : ea = 0
          · exact .inr ⟨by simpa using e0, by simpa using hbad.resolve_left (by simpa using e0)⟩
          · exact .inl (by simpa using e0)
        clear hbad
        go_wp2_with fail
        refine (HAd.out _ _ _ _ H4.out).mono ?_
        rintro e w5 ⟨rfl, hb5⟩
        have H5 := Lib.hid (H4.out.step hb5)
        clear hb5 hcc hop H4
        go_wp2_with fail
        refine (HLo.out _ _ _ _ H5.out).mono ?_
        rintro e w6 ⟨rfl, hb6⟩
        have H6 := Lib.hid ((H5.out.step hb6).add (.cells (Ar.ycells (look c s line)) 66))
        have hop := H6.out.cells (List.mem_cons_of_mem _ (List.mem_cons_self ..))
        clear hb6 H5
        go_wp2_with fail
        refine (HD.out _ _ _ H6.out).mono ?_
        rintro e w7 ⟨rfl, ho⟩
        have H7 := Lib.hid ho
        clear ho hop H6
        rcases hbb with e1 | ⟨e1, e2⟩
        · go_wp2
          go_ret
          exact ⟨rfl, H7.out.below⟩
        · go_wp2
          go_ret
          exact ⟨rfl, H7.out.below⟩
      · obtain ⟨he, hf⟩ : adE c a = 0 ∧ (doP c s ⟨k, a, v⟩).1.2 = 0 := by
          refine ⟨Classical.byContradiction fun q => hbad (.inl q), Classical.byContradiction fun q => hbad (.inr q)⟩
        clear hbad
        obtain ⟨n1, s1, hd⟩ : ∃ n1 s1, doP c s ⟨k, a, v⟩ = ((n1, 0), s1) := ⟨(doP c s ⟨k, a, v⟩).1.1, (doP c s ⟨k, a, v⟩).2, by rw [← hf]⟩
        obtain ⟨ha, hk3, hn1, hI1, ht1, hw1, hs1⟩ := HV.out.does hd
        rw [hd] at HD
        obtain ⟨hok, hl0, hl1⟩ := ok_of_lnOk (lnOk_adL ha)
        have hlnk : lnOk c (adL c a) = true := lnOk_adL ha
        obtain ⟨m, hm, hm8⟩ : ∃ m : Nat, a % c.wo = m ∧ m < 8 := ⟨(a % c.wo).toNat, (word_lt ha).2.2, (word_lt ha).2.1⟩
        have hwm : adW c a = (m : Int) := by rw [← hm]; simp [adW, ha]
        rw [he, hwm] at HAd
        dsimp only at hn1 hk3 hs1 hw1 hI1 ht1
        unfold wnt at hw1
        dsimp only at hw1
        rw [hm, Int.toNat_natCast] at hn1 hw1
        obtain ⟨hco1, hco2⟩ := (ok_sizes hok).1
        obtain ⟨hh1, hh2⟩ := (ok_sizes hok).2.1
        have HWa : Hid (1 ≤ c.wa ∧ c.wa ≤ 64) := Lib.hid (ways_bound hok)
        obtain ⟨hse1, hse2⟩ := (ok_pows c hok).2.2.1.2
        have hne : (c.ho == 0) = false := by simp; omega
        have hnse : (c.se == 0) = false := by simp; omega
        have HM : Hid (0 ≤ who → who < c.co → who ≠ core → mayM c (fwd c 4 (adL c a) core who) = true ∧ mayM c (fwd c 5 (adL c a) core who) = true) := Lib.hid (fun q1 q2 q3 => ⟨may_fwd hlnk HCo.out.1 HCo.out.2 q1 q2 q3 (.inl rfl), may_fwd hlnk HCo.out.1 HCo.out.2 q1 q2 q3 (.inr rfl)⟩)
        have HH : Hid (∀ want, (look c s1 (adL c a)).wd = want → 2 ≤ (look c s1 (adL c a)).st → Has c s1 (adL c a) want) := Lib.hid (fun want e1 e2 => .inl ⟨ht1, e2, e1⟩)
        have HI1 := Lib.hid hI1
        clear hd ha hI1 ht1 hm he hf hok hl1 hlnk hwm HO HI HV
        have HL0 := Lib.hid (fun (wr : World) n bx (h : OwnP w K c core n s bx wr) => HLo.out wr n s bx h)
        have HL1 := Lib.hid (fun (wr : World) n bx (h : OwnP w K c core n s1 bx wr) => HLo.out wr n s1 bx h)
        clear HLo
        generalize adL c a = line at *
        generalize look c s line = y at *
        generalize there c s line = tq at *
        generalize look c s1 line = y1 at *
        generalize there c s1 line = tq1 at *
        obtain ⟨st0, ln0, dd, lk0⟩ := y
        obtain ⟨st1, ln1, d1, lk1⟩ := y1
        have hm0 : (0 : Int) ≤ (m : Int) := by omega
        have hm7 : (m : Int) < 8 := by omega
        have h0l : 0 ≤ line := hl0
        have hrs := Int.emod_nonneg line (show c.se ≠ 0 by omega)
        have hrh := Int.emod_nonneg line (show c.ho ≠ 0 by omega)
        dsimp only at hn1 hw1 hs1 HH
        exact absurd hk3 HKq.out

/-- CacheWrites. -/
theorem cacheWrites_any (c : Cfg) (core : Int) (q : Option Addr) (cap : Nat) (l : List Stp) (x : Pg.Op) (who : Int) (ev : Bool) (w : World) (hc : c.fits) (hT : Tb w) (hs : StpsA w q l) : Calls Tryz.prog 5 #[cv c, .int .i64 core, .slice q l.length cap, Pg.ov x, .int .i64 who, .bool ev] w fun e w' => e = .returned (.bool true) ∧ Below w.heap.size w w' := by
  obtain ⟨k, a, v⟩ := x
  by_cases h : 60 < l.length
  · exact writes_long c core q cap l k a v who ev w hT h
  · rcases Bool.eq_false_or_eq_true (largeB c) with hl | hl
    · exact writes_large c core q cap l k a v who ev w hT (by omega) hl
    · by_cases hn : okC c = false ∨ core < 0 ∨ c.co ≤ core
      · exact writes_none c core q cap l k a v who ev w hc hT (by omega) hl hn
      · have ok : okC c = true := by
          rcases Bool.eq_false_or_eq_true (okC c) with e | e
          · exact e
          · exact absurd (.inl e) hn
        by_cases k1 : k = 1
        · exact writes_walk1 c core q cap l k a v who ev w hc hT k1 hs (by omega) hl ok (by omega) (by omega)
        · by_cases k2 : k = 2
          · exact writes_walk2 c core q cap l k a v who ev w hc hT k2 hs (by omega) hl ok (by omega) (by omega)
          · by_cases k3 : k = 3
            · exact writes_walk3 c core q cap l k a v who ev w hc hT k3 hs (by omega) hl ok (by omega) (by omega)
            · exact writes_walk0 c core q cap l k a v who ev w hc hT (by omega) hs (by omega) hl ok (by omega) (by omega)

end Go.Proofs.YtlfhkjjjocmpbaaGreatDoor.Cc
