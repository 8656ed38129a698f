/-
  CacheLocks is true: the walk.
-/
import Derived.Test.YtlfhkjjjocmpbaaGreatDoorCcYf
import Derived.Test.YtlfhkjjjocmpbaaGreatDoorCcYh
import Derived.Deep.CutBlock
import Derived.Deep.DeepCutAuto
namespace Go.Proofs.YtlfhkjjjocmpbaaGreatDoor.Cc
open Go Go.RowKit

/-- A load of some cells of a box, in an operation whose guard says yes. -/
theorem lk_mid_guarded {P : Program} {ops : Array Oper} {rest : List Oper} {op : Oper} {a : Act} {w : World} {Q : Exit → Act → World → Prop} (hw : Region.wanted op (yielded ops a.tmps) = true) (ty : TypeId) (x : Operand) (ho : op.op = .load ty x)
    (b o : Nat) (hx : a.eval x = .pointer (some ⟨b, o, none⟩)) (cs : List Value) (d : TypeDesc) (hc : w.rangeAt b o cs)
    (hu : P.underlying ty = some d) (hd : d.isRow = true) (hi : (P.info? ty).map (·.size) = some cs.length)
    (h : wpList P ops Q rest (a.put op.dst (.agg cs.toArray)) w) : wpList P ops Q (op :: rest) a w :=
  wpList_step fun K hK => by
    rw [if_pos hw]
    exact wp_load_mid ty x ho b o hx cs d hc hu hd hi (hK _ _ h)
/-- A reply's message. -/
theorem rep_mid {w : World} {b : Nat} {r : Rep} {T : TypeId} (h : w.heap[b]? = some (.cells (rcells r) T (0, 0))) : w.rangeAt b 0 (mcells r.m).toList := fun j v hv => by
  rw [c_cell h]
  rcases (show j = 0 ∨ j = 1 ∨ j = 2 ∨ j = 3 ∨ j = 4 ∨ j = 5 ∨ j = 6 ∨ j = 7 ∨ j = 8 ∨ j = 9 ∨ j = 10 ∨ j = 11 ∨ j = 12 ∨ j = 13 ∨ j = 14 ∨ 15 ≤ j by omega) with rfl | rfl | rfl | rfl | rfl | rfl | rfl | rfl | rfl | rfl | rfl | rfl | rfl | rfl | rfl | q
  iterate 15 (first | exact hv | skip)
  rw [List.getElem?_eq_none (by simpa using q)] at hv
  cases hv
set_option maxRecDepth 100000 in
set_option maxHeartbeats 4000000 in
theorem locks_walk (c : Cfg) (core : Int) (q : Option Addr) (cap : Nat) (l : List Stp) (w : World) (hc : c.fits) (hT : Tb w) (hs : StpsA w q l) (h : l.length ≤ 60) (hl : largeB c = false) (ok : okC c = true) (h1 : 0 ≤ core) (h2 : core < c.co) : Calls Tryz.prog 4 #[cv c, .int .i64 core, .slice q l.length cap] w fun e w' => e = .returned (.bool true) ∧ Below w.heap.size w w' := by
  have HB0 := Lib.hid (b_alloc w (.cells (ccells c) 24))
  have HAw := Lib.hid (awake_any (w.alloc (.cells (ccells c) 24)) (hT.keeps HB0.out))
  have g1 : ¬ (60 : Int) < l.length := by omega
  have HL := Lib.hid (large_any c)
  rw [hl] at HL
  have HT := Lib.hid hT
  have HN := Lib.hid (fun (w2 w3 : World) (h : Below w2.heap.size w2 w3) (hb : Below w.heap.size w w2) => cnew_ok c core h (hT.keeps hb) hc ok h1 h2)
  have HS := Lib.hid hs
  have HI := Lib.hid (Inv.new ok)
  have HO := Lib.hid ok
  clear hc hT hl ok h1 h2 hs
  go_enter Tryz.func4, Tryz.ntmps4
  go_wp2_with fail
  refine HAw.out.mono ?_
  rintro e w1 ⟨rfl, hb1⟩
  have HB1 := Lib.hid (HB0.out.trans (hb1.mono (by simp)))
  have hcc := c_cell ((hb1.block w.heap.size (by simp)).trans (heap_alloc_new w (.cells (ccells c) 24)))
  have HC1 := Lib.hid ((hb1.block w.heap.size (by simp)).trans (heap_alloc_new w (.cells (ccells c) 24)))
  clear hb1
  go_wp2_with fail
  refine (HL.out _).mono ?_
  rintro e w2 ⟨rfl, hb2⟩
  have HB2 := Lib.hid (b_step HB1.out hb2)
  have HC2 := Lib.hid ((hb2.block _ (lt_blk HC1.out)).trans HC1.out)
  have hcc2 := c_cell HC2.out
  clear hb2 hcc
  go_wp2_with fail
  refine (HN.out _ _ (Below.refl _ w2) HB2.out).mono ?_
  rintro e w3 ⟨K, rfl, ho, hb3⟩
  have H3 := Lib.hid (ho.rebase (w := w) (bx := [(w.heap.size, .cells (ccells c) 24)]) ⟨fun p hp => by obtain rfl := List.mem_singleton.1 hp; exact ⟨HC2.out, Nat.le_refl _⟩, by simp, HB2.out⟩ HT.out)
  clear ho hb3 hcc2
  go_wp2
  go_loopw [55] (fun i wr => ∃ j : Nat, j ≤ l.length ∧ i = .int .i64 j ∧ ∃ s n, OwnP w K c core n s [(w.heap.size, .cells (ccells c) 24)] wr ∧ Inv c s ∧ n ≤ 2 * (j : Int)) (fun i _ => l.length - (intOf i).toNat)
  case atStart => exact ⟨0, Nat.zero_le _, rfl, _, _, H3.out, HI.out, by omega⟩
  case round =>
    obtain ⟨j, hj, rfl, s, n, ho, hi, hn⟩ := hrel
    have H4 := Lib.hid ho
    have HV := Lib.hid hi
    clear ho hi H3
    obtain ⟨w5, rfl⟩ : ∃ w5 : World, w5 = wr := ⟨_, rfl⟩
    by_cases hlt : j < l.length
    · obtain ⟨x, hx⟩ : ∃ x, l[j]? = some x := ⟨_, List.getElem?_eq_getElem hlt⟩
      obtain ⟨gl, off, rfl, hgl, hr⟩ := HS.out.step H4.out.below j x hx
      have HR := Lib.hid hr
      have h5 := H4.out.addRow #[.int .i64 0, .int .i64 0, .int .i64 0, .int .i64 0, .int .i64 0, .int .i64 0, .int .i64 0, .int .i64 0, .int .i64 0, .int .i64 0, .int .i64 0, .int .i64 0, .int .i64 0, .int .i64 0, .int .i64 0, .int .i64 0, .int .i64 0, .int .i64 0, .int .i64 0, .int .i64 0, .int .i64 0] (scells x) 45
      have hb5 := h5.box (List.mem_cons_self ..)
      have hcc := h5.cells (List.mem_cons_of_mem _ (List.mem_cons_self ..))
      have H5 := Lib.hid h5
      have HNn : Hid (n ≤ 900 ∧ n + 2 ≤ 2 * ((j + 1 : Nat) : Int)) := Lib.hid (by omega)
      clear hr hx h5 hn hb5
      go_wp2_with (first
        | ((with_reducible refine wpList_load_mid (op := ⟨some 58, _, _, _, _, _⟩) rfl 45 (.tmp 57) rfl gl (off + j * 21) ?lx (stc x) _ ?lc Tryz.underlying45 ?ld ?li ?_); (case lx => rfl); (case lc => exact HR.out); (case ld => rfl); (case li => kernel_rfl))
        | ((with_reducible refine wpList_store_row (o := ⟨none, _, _, _, _, _⟩) rfl 45 (.tmp 10) (.tmp 58) rfl w5.heap.size (scells x) ?sx ?sy 45 ?old ?sg ?si ?so ?s1 ?_); (case sx => rfl); (case sy => rfl); (case old => exact #[.int .i64 0, .int .i64 0, .int .i64 0, .int .i64 0, .int .i64 0, .int .i64 0, .int .i64 0, .int .i64 0, .int .i64 0, .int .i64 0, .int .i64 0, .int .i64 0, .int .i64 0, .int .i64 0, .int .i64 0, .int .i64 0, .int .i64 0, .int .i64 0, .int .i64 0, .int .i64 0, .int .i64 0]); (case sg => exact heap_alloc_new _ _); (case si => kernel_rfl); (case so => rfl); (case s1 => kernel_rfl)))
      refine H5.out.drawn.mono ?_
      rintro e w6 hp
      obtain ⟨p1, a1, p2, a2, p3, a3, ns, rfl, hns, hnd, hro, hb6⟩ := pic_boxes hp
      have HA := Lib.hid hro
      have H6 := Lib.hid ((H5.out.gain hb6 hns hnd).add (.cells #[.slice p1 s.A.length a1, .slice p2 s.F.length a2, .slice p3 s.B.length a3] 51))
      have hb10 := H6.out.box (List.mem_cons_of_mem _ (List.mem_append_right _ (List.mem_cons_self ..)))
      clear hp hns hnd hro hb6 hcc H5 H4 HR
      go_wp2_with ((with_reducible refine wpList_load_row (o := ⟨some 63, _, _, _, _, _⟩) rfl 45 (.tmp 10) rfl (w5.heap.size) ?lx 45 (scells x) (0, 0) _ ?lg Tryz.underlying45 ?ld ?li ?_); (case lx => rfl); (case lg => exact hb10); (case ld => rfl); (case li => kernel_rfl))
      refine (H6.out.stp HNn.out.1 x).mono ?_
      rintro e w7 ⟨rfl, ho⟩
      have HE := Lib.hid (fun q => stp_err (c := c) (core := core) (s := s) (x := x) q)
      have HV2 := Lib.hid (HV.out.stp (core := core) x)
      generalize doS c core s x = r at *
      obtain ⟨⟨mm, is, nn, er⟩, s2⟩ := r
      have H7 := Lib.hid (ho.add (.cells (rcells ⟨mm, is, nn, er⟩) 40))
      have hcc := H7.out.cells (List.mem_cons_of_mem _ (List.mem_cons_of_mem _ (List.mem_append_right _ (List.mem_cons_of_mem _ (List.mem_cons_self ..)))))
      clear ho H6 hb10 HV
      go_wp2_with fail
      refine H7.out.drawn.mono ?_
      rintro e w8 hp
      obtain ⟨q1, b1, q2, b2, q3, b3, rfl, r1, r2, r3, hb8⟩ := pic_rows hp
      have HRB := Lib.hid (And.intro r1 (And.intro r2 r3))
      have H8 := Lib.hid ((H7.out.step hb8).add (.cells #[.slice q1 s2.A.length b1, .slice q2 s2.F.length b2, .slice q3 s2.B.length b3] 51))
      have HB8 := Lib.hid (b_alloc w8 (.cells #[.slice q1 s2.A.length b1, .slice q2 s2.F.length b2, .slice q3 s2.B.length b3] 51))
      have HSh := Lib.hid H8.out.short
      clear hp r1 r2 r3 hb8 hcc H7
      have hR := H8.out.cells (List.mem_cons_of_mem _ (List.mem_cons_self ..))
      go_upto_region 14 with fail
      go_cut [55, 91] from 55 to 160 (fun s55 s91 wx => s55 = .int .i64 j ∧ s91 = .bool false ∧ OwnP w K c core (n + 2) s2 ((w8.heap.size, .cells #[.slice q1 s2.A.length b1, .slice q2 s2.F.length b2, .slice q3 s2.B.length b3] 51) :: (w7.heap.size, .cells (rcells ⟨mm, is, nn, er⟩) 40) :: (w6.heap.size, .cells #[.slice p1 s.A.length a1, .slice p2 s.F.length a2, .slice p3 s.B.length a3] 51) :: (ns ++ [(w5.heap.size, .cells (scells x) 45), (w.heap.size, .cells (ccells c) 24)])) wx ∧ RowsIn Ar.yc 11 wx q1 s2.A ∧ RowsIn Mh.mc 15 wx q2 s2.F ∧ RowsIn Wb.mc 10 wx q3 s2.B)
      case first =>
        by_cases he : er = 0
        · have heb : (er != 0) = false := by simpa using he
          clear he HE
          go_wp2
          go_meet
          case rel => exact ⟨rfl, rfl, H8.out, HRB.out.1.step HB8.out, HRB.out.2.1.step HB8.out, HRB.out.2.2.step HB8.out⟩
        · have heb : (er != 0) = true := by simpa using he
          as_aux_lemma =>
            have hq : s2 = s ∧ mm = m0 ∧ is = false ∧ nn = 0 := HE.out he
            obtain ⟨e1, e2, e3, e4⟩ := hq
            subst e1 e2 e3 e4
            have HS1 := Lib.hid (HA.out _ (fun p hp => (H8.out.ok (List.mem_cons_of_mem _ (List.mem_cons_of_mem _ (List.mem_cons_of_mem _ (List.mem_append_left _ hp))))).1))
            have HS2 := Lib.hid (And.intro (HRB.out.1.step HB8.out) (And.intro (HRB.out.2.1.step HB8.out) (HRB.out.2.2.step HB8.out)))
            have HSA := Lib.hid (same_any (w8.alloc (.cells #[.slice q1 s2.A.length b1, .slice q2 s2.F.length b2, .slice q3 s2.B.length b3] 51)) s2.A s2.F s2.B p1 p2 p3 q1 q2 q3 a1 a2 a3 b1 b2 b3 HSh.out.1 HSh.out.2.1 HSh.out.2.2.1 HS1.out.1 HS1.out.2.1 HS1.out.2.2 HS2.out.1 HS2.out.2.1 HS2.out.2.2)
            have hqn : ∀ w, (binOp .neq 38 (.agg #[.int .i64 0, .int .i64 0, .int .i64 0, .int .i64 0, .int .i64 0, .int .i64 0, .int .i64 0, .int .i64 0, .int .i64 0, .int .i64 0, .int .i64 0, .int .i64 0, .int .i64 0, .int .i64 0, .int .i64 0]) (.agg #[.int .i64 0, .int .i64 0, .int .i64 0, .int .i64 0, .int .i64 0, .int .i64 0, .int .i64 0, .int .i64 0, .int .i64 0, .int .i64 0, .int .i64 0, .int .i64 0, .int .i64 0, .int .i64 0, .int .i64 0])).run Tryz.prog w = .ok (.bool false) w := fun w => msg_neq m0 w
            have hA := H8.out.cells (List.mem_cons_of_mem _ (List.mem_cons_of_mem _ (List.mem_cons_self ..)))
            have hB := H8.out.cells (List.mem_cons_self ..)
            clear he HE HS1 HRB HB8 HA hR
            have hR := H8.out.cells (List.mem_cons_of_mem _ (List.mem_cons_self ..))
            go_wp2_with fail
            refine HSA.out.mono ?_
            rintro e w9 ⟨rfl, hb9⟩
            have H9 := Lib.hid (H8.out.step hb9)
            have HS3 := Lib.hid (And.intro (HS2.out.1.step hb9) (And.intro (HS2.out.2.1.step hb9) (HS2.out.2.2.step hb9)))
            clear hb9 hA hB hR HS2 HSA H8
            have hR := H9.out.cells (List.mem_cons_of_mem _ (List.mem_cons_self ..))
            have HRg := Lib.hid (rep_mid (H9.out.box (List.mem_cons_of_mem _ (List.mem_cons_self ..))))
            go_wp2_with (first
              | ((with_reducible refine lk_mid_guarded (op := ⟨some 82, _, _, _, _, _⟩) (by rfl) 38 (.tmp 81) rfl w7.heap.size 0 ?lx [.int .i64 0, .int .i64 0, .int .i64 0, .int .i64 0, .int .i64 0, .int .i64 0, .int .i64 0, .int .i64 0, .int .i64 0, .int .i64 0, .int .i64 0, .int .i64 0, .int .i64 0, .int .i64 0, .int .i64 0] _ ?lc Tryz.underlying38 ?ld ?li ?_); (case lx => rfl); (case lc => exact HRg.out); (case ld => rfl); (case li => kernel_rfl)))
            go_meet
            case rel => exact ⟨rfl, rfl, H9.out, HS3.out⟩
      case rest =>
        obtain ⟨rfl, rfl, h9, r1, r2, r3⟩ := hcut
        have H9 := Lib.hid h9
        have HR9 := Lib.hid (And.intro r1 (And.intro r2 r3))
        clear h9 r1 r2 r3 H8 hR HRB HB8 HE HA
        as_aux_lemma =>
          have hcb := H9.out.cells (List.mem_cons_self ..)
          go_wp2
          go_loopw [14, 95] (fun cn i wr => ∃ k : Nat, k ≤ s2.A.length ∧ i = .int .i64 k ∧ cn = .int .i64 (cntL s2.A k) ∧ OwnP w K c core (n + 2) s2 ((w8.heap.size, .cells #[.slice q1 s2.A.length b1, .slice q2 s2.F.length b2, .slice q3 s2.B.length b3] 51) :: (w7.heap.size, .cells (rcells ⟨mm, is, nn, er⟩) 40) :: (w6.heap.size, .cells #[.slice p1 s.A.length a1, .slice p2 s.F.length a2, .slice p3 s.B.length a3] 51) :: (ns ++ [(w5.heap.size, .cells (scells x) 45), (w.heap.size, .cells (ccells c) 24)])) wr ∧ Below wc.heap.size wc wr) (fun _ i _ => s2.A.length - (intOf i).toNat)
          case atStart => exact ⟨0, Nat.zero_le _, rfl, rfl, H9.out, Below.refl _ _⟩
          case round =>
            obtain ⟨k, hk, rfl, rfl, ho, hbl⟩ := hrel
            have H10 := Lib.hid ho
            have HBL10 := Lib.hid hbl
            clear ho hbl H9
            have hcl : (cntL s2.A k : Int) ≤ 4096 := by have := cnt_le s2.A k; have := HSh.out; omega
            by_cases hlt : k < s2.A.length
            · obtain ⟨x2, hx⟩ : ∃ x2, s2.A[k]? = some x2 := ⟨_, List.getElem?_eq_getElem hlt⟩
              obtain ⟨g2, rfl, _, r⟩ := (HR9.out.1.step HBL10.out) k x2 hx
              have HR2 := Lib.hid r
              have hk4 : (k : Int) < s2.A.length ∧ (k : Int) ≤ 4096 := by have := HSh.out; omega
              obtain ⟨hk5, hk6⟩ := hk4
              have HCn := Lib.hid (cnt_next hx)
              have h11 := H10.out.addRow #[.int .i64 0, .int .i64 0, .int .i64 0, .int .i64 0, .int .i64 0, .int .i64 0, .int .i64 0, .int .i64 0, .int .i64 0, .int .i64 0, .bool false] (Ar.ycells x2) wayB
              have hb11 := h11.cells (List.mem_cons_self ..)
              have HBL11 := Lib.hid (b_addRow HBL10.out HBL10.out.size #[.int .i64 0, .int .i64 0, .int .i64 0, .int .i64 0, .int .i64 0, .int .i64 0, .int .i64 0, .int .i64 0, .int .i64 0, .int .i64 0, .bool false] (Ar.ycells x2) wayB)
              have H11 := Lib.hid h11
              have hcb := H10.out.cells (List.mem_cons_self ..)
              clear r hx h11
              obtain ⟨xs, xl, xd, lk⟩ := x2
              rcases lk with _ | _
              · go_wp2_with (first
                  | ((with_reducible refine wpList_load_mid (op := ⟨some 98, _, _, _, _, _⟩) rfl 69 (.tmp 97) rfl g2 (k * 11) ?lx (Ar.yc ⟨xs, xl, xd, false⟩) _ ?lc Tryz.underlying69 ?ld ?li ?_); (case lx => rfl); (case lc => exact HR2.out); (case ld => rfl); (case li => kernel_rfl))
                  | ((with_reducible refine wpList_store_row (o := ⟨none, _, _, _, _, _⟩) rfl 69 (.tmp 16) (.tmp 98) rfl wr.heap.size (Ar.ycells ⟨xs, xl, xd, false⟩) ?sx ?sy 69 ?old ?sg ?si ?so ?s1 ?_); (case sx => rfl); (case sy => rfl); (case old => exact #[.int .i64 0, .int .i64 0, .int .i64 0, .int .i64 0, .int .i64 0, .int .i64 0, .int .i64 0, .int .i64 0, .int .i64 0, .int .i64 0, .bool false]); (case sg => exact heap_alloc_new _ _); (case si => kernel_rfl); (case so => rfl); (case s1 => kernel_rfl)))
                go_roundw
                case rel => exact ⟨k + 1, by omega, by go_num, by rw [HCn.out]; simp <;> go_num, H11.out.drop, HBL11.out⟩
                case measure => simp [intOf]; omega
              · go_wp2_with (first
                  | ((with_reducible refine wpList_load_mid (op := ⟨some 98, _, _, _, _, _⟩) rfl 69 (.tmp 97) rfl g2 (k * 11) ?lx (Ar.yc ⟨xs, xl, xd, true⟩) _ ?lc Tryz.underlying69 ?ld ?li ?_); (case lx => rfl); (case lc => exact HR2.out); (case ld => rfl); (case li => kernel_rfl))
                  | ((with_reducible refine wpList_store_row (o := ⟨none, _, _, _, _, _⟩) rfl 69 (.tmp 16) (.tmp 98) rfl wr.heap.size (Ar.ycells ⟨xs, xl, xd, true⟩) ?sx ?sy 69 ?old ?sg ?si ?so ?s1 ?_); (case sx => rfl); (case sy => rfl); (case old => exact #[.int .i64 0, .int .i64 0, .int .i64 0, .int .i64 0, .int .i64 0, .int .i64 0, .int .i64 0, .int .i64 0, .int .i64 0, .int .i64 0, .bool false]); (case sg => exact heap_alloc_new _ _); (case si => kernel_rfl); (case so => rfl); (case s1 => kernel_rfl)))
                go_roundw
                case rel => exact ⟨k + 1, by omega, by go_num, by rw [HCn.out]; simp <;> go_num, H11.out.drop, HBL11.out⟩
                case measure => simp [intOf]; omega
            · obtain rfl : k = s2.A.length := by omega
              have hcb := H10.out.cells (List.mem_cons_self ..)
              have hcf := H10.out.cells (List.mem_cons_of_mem _ (List.mem_cons_of_mem _ (List.mem_cons_of_mem _ (List.mem_append_right _ (List.mem_cons_of_mem _ (List.mem_cons_self ..))))))
              rw [HV2.out.cnt] at hcl ⊢
              obtain ⟨hF, hB⟩ := HSh.out.2.2.2
              have gF : ¬ c.ms < (s2.F.length : Int) := by omega
              have gB : ¬ c.wb < (s2.B.length : Int) := by omega
              clear hF hB
              go_wp2
              go_loopw [128] (fun i wr => ∃ k : Nat, k ≤ s2.F.length ∧ i = .int .i64 k ∧ OwnP w K c core (n + 2) s2 ((w8.heap.size, .cells #[.slice q1 s2.A.length b1, .slice q2 s2.F.length b2, .slice q3 s2.B.length b3] 51) :: (w7.heap.size, .cells (rcells ⟨mm, is, nn, er⟩) 40) :: (w6.heap.size, .cells #[.slice p1 s.A.length a1, .slice p2 s.F.length a2, .slice p3 s.B.length a3] 51) :: (ns ++ [(w5.heap.size, .cells (scells x) 45), (w.heap.size, .cells (ccells c) 24)])) wr ∧ Below wc.heap.size wc wr) (fun i _ => s2.F.length - (intOf i).toNat)
              case atStart => exact ⟨0, Nat.zero_le _, rfl, H10.out, HBL10.out⟩
              case round =>
                obtain ⟨k, hk, rfl, ho, hbl⟩ := hrel
                obtain ⟨w11, rfl⟩ : ∃ w11 : World, w11 = wr := ⟨_, rfl⟩
                have H11 := Lib.hid ho
                have HBL11 := Lib.hid hbl
                clear ho hbl H10 HBL10
                by_cases hlt : k < s2.F.length
                · obtain ⟨x3, hx⟩ : ∃ x3, s2.F[k]? = some x3 := ⟨_, List.getElem?_eq_getElem hlt⟩
                  obtain ⟨g3, rfl, _, r⟩ := (HR9.out.2.1.step HBL11.out) k x3 hx
                  have HR3 := Lib.hid r
                  have hm := List.mem_of_getElem? hx
                  have ht := HV2.out.lk_there hm
                  have HLo := Lib.hid (fun (wr : World) bx (h : OwnP w K c core (n + 2) s2 bx wr) => (by have q := h.look x3.ln; rw [ht.1] at q; exact q : Calls Tryz.prog 16 #[ptr K.k, .int .i64 x3.ln] wr fun e w' => e = .returned (.tuple #[.agg (Ar.ycells (look c s2 x3.ln)), .bool true]) ∧ Below wr.heap.size wr w'))
                  have HAp := Lib.hid (fun b (hb : b ∈ s2.B) => HV2.out.apartB hm hb)
                  have hk4 : (k : Int) < s2.F.length ∧ (k : Int) ≤ 4096 := by have := HSh.out; omega
                  obtain ⟨hk5, hk6⟩ := hk4
                  have h12 := H11.out.addRow #[.int .i64 0, .int .i64 0, .int .i64 0, .int .i64 0, .int .i64 0, .int .i64 0, .int .i64 0, .int .i64 0, .int .i64 0, .int .i64 0, .int .i64 0, .int .i64 0, .int .i64 0, .bool false, .bool false] (Mh.mcells x3) missB
                  have hb12 := h12.cells (List.mem_cons_self ..)
                  have HBL12 := Lib.hid (b_addRow HBL11.out HBL11.out.size #[.int .i64 0, .int .i64 0, .int .i64 0, .int .i64 0, .int .i64 0, .int .i64 0, .int .i64 0, .int .i64 0, .int .i64 0, .int .i64 0, .int .i64 0, .int .i64 0, .int .i64 0, .bool false, .bool false] (Mh.mcells x3) missB)
                  have H12 := Lib.hid h12
                  obtain ⟨ys, yl, yd, hly⟩ : ∃ ys yl yd, look c s2 x3.ln = ⟨ys, yl, yd, true⟩ := by
                    have h2 := ht.2
                    rcases h : look c s2 x3.ln with ⟨ys, yl, yd, lk⟩
                    rw [h] at h2
                    obtain rfl : lk = true := h2
                    exact ⟨ys, yl, yd, rfl⟩
                  rw [hly] at HLo
                  have hcb := H11.out.cells (List.mem_cons_self ..)
                  clear r hx hm ht h12 hly
                  go_wp2_with (first
                    | ((with_reducible refine wpList_load_mid (op := ⟨some 131, _, _, _, _, _⟩) rfl 75 (.tmp 130) rfl g3 (k * 15) ?lx (Mh.mc x3) _ ?lc Tryz.underlying75 ?ld ?li ?_); (case lx => rfl); (case lc => exact HR3.out); (case ld => rfl); (case li => kernel_rfl))
                    | ((with_reducible refine wpList_store_row (o := ⟨none, _, _, _, _, _⟩) rfl 75 (.tmp 18) (.tmp 131) rfl w11.heap.size (Mh.mcells x3) ?sx ?sy 75 ?old ?sg ?si ?so ?s1 ?_); (case sx => rfl); (case sy => rfl); (case old => exact #[.int .i64 0, .int .i64 0, .int .i64 0, .int .i64 0, .int .i64 0, .int .i64 0, .int .i64 0, .int .i64 0, .int .i64 0, .int .i64 0, .int .i64 0, .int .i64 0, .int .i64 0, .bool false, .bool false]); (case sg => exact heap_alloc_new _ _); (case si => kernel_rfl); (case so => rfl); (case s1 => kernel_rfl)))
                  refine (HLo.out _ _ H12.out).mono ?_
                  rintro e w13 ⟨rfl, hb13⟩
                  have H13 := Lib.hid ((H12.out.step hb13).add (.cells (Ar.ycells ⟨ys, yl, yd, true⟩) 66))
                  have HBL13 := Lib.hid ((b_step HBL12.out hb13).alloc (b_step HBL12.out hb13).size (.cells (Ar.ycells ⟨ys, yl, yd, true⟩) 66))
                  have hy := H13.out.cells (List.mem_cons_self ..)
                  have hcb := H13.out.cells (List.mem_cons_of_mem _ (List.mem_cons_of_mem _ (List.mem_cons_self ..)))
                  clear hb13 hb12 HBL12 H12 HLo
                  go_wp2
                  go_loopw [149] (fun i wr => ∃ k2 : Nat, k2 ≤ s2.B.length ∧ i = .int .i64 k2 ∧ OwnP w K c core (n + 2) s2 ((w13.heap.size, .cells (Ar.ycells ⟨ys, yl, yd, true⟩) 66) :: (w11.heap.size, .cells (Mh.mcells x3) missB) :: ((w8.heap.size, .cells #[.slice q1 s2.A.length b1, .slice (some ⟨g3, 0, none⟩) s2.F.length b2, .slice q3 s2.B.length b3] 51) :: (w7.heap.size, .cells (rcells ⟨mm, is, nn, er⟩) 40) :: (w6.heap.size, .cells #[.slice p1 s.A.length a1, .slice p2 s.F.length a2, .slice p3 s.B.length a3] 51) :: (ns ++ [(w5.heap.size, .cells (scells x) 45), (w.heap.size, .cells (ccells c) 24)]))) wr ∧ Below wc.heap.size wc wr) (fun i _ => s2.B.length - (intOf i).toNat)
                  case atStart => exact ⟨0, Nat.zero_le _, rfl, H13.out, HBL13.out⟩
                  case round =>
                    obtain ⟨k2, hk2, rfl, ho, hbl⟩ := hrel
                    have H14 := Lib.hid ho
                    have HBL14 := Lib.hid hbl
                    clear ho hbl H13 HBL13
                    by_cases hlt2 : k2 < s2.B.length
                    · obtain ⟨x4, hx⟩ : ∃ x4, s2.B[k2]? = some x4 := ⟨_, List.getElem?_eq_getElem hlt2⟩
                      obtain ⟨g4, rfl, _, r⟩ := (HR9.out.2.2.step HBL14.out) k2 x4 hx
                      have HR4 := Lib.hid r
                      have hne := HAp.out x4 (List.mem_of_getElem? hx)
                      have hk7 : (k2 : Int) < s2.B.length ∧ (k2 : Int) ≤ 4096 := by have := HSh.out; omega
                      obtain ⟨hk8, hk9⟩ := hk7
                      have h15 := H14.out.addRow #[.int .i64 0, .int .i64 0, .int .i64 0, .int .i64 0, .int .i64 0, .int .i64 0, .int .i64 0, .int .i64 0, .int .i64 0, .bool false] (Wb.mcells x4) entB
                      have hb15 := h15.cells (List.mem_cons_self ..)
                      have hm15 := h15.cells (List.mem_cons_of_mem _ (List.mem_cons_of_mem _ (List.mem_cons_self ..)))
                      have HBL15 := Lib.hid (b_addRow HBL14.out HBL14.out.size #[.int .i64 0, .int .i64 0, .int .i64 0, .int .i64 0, .int .i64 0, .int .i64 0, .int .i64 0, .int .i64 0, .int .i64 0, .bool false] (Wb.mcells x4) entB)
                      have H15 := Lib.hid h15
                      have hcb := H14.out.cells (List.mem_cons_of_mem _ (List.mem_cons_of_mem _ (List.mem_cons_self ..)))
                      clear r hx h15 hy
                      go_wp2_with (first
                        | ((with_reducible refine wpList_load_mid (op := ⟨some 152, _, _, _, _, _⟩) rfl 77 (.tmp 151) rfl g4 (k2 * 10) ?lx (Wb.mc x4) _ ?lc Tryz.underlying77 ?ld ?li ?_); (case lx => rfl); (case lc => exact HR4.out); (case ld => rfl); (case li => kernel_rfl))
                        | ((with_reducible refine wpList_store_row (o := ⟨none, _, _, _, _, _⟩) rfl 77 (.tmp 22) (.tmp 152) rfl wr.heap.size (Wb.mcells x4) ?sx ?sy 77 ?old ?sg ?si ?so ?s1 ?_); (case sx => rfl); (case sy => rfl); (case old => exact #[.int .i64 0, .int .i64 0, .int .i64 0, .int .i64 0, .int .i64 0, .int .i64 0, .int .i64 0, .int .i64 0, .int .i64 0, .bool false]); (case sg => exact heap_alloc_new _ _); (case si => kernel_rfl); (case so => rfl); (case s1 => kernel_rfl)))
                      go_roundw
                      case rel => exact ⟨k2 + 1, by omega, by go_num, H15.out.drop, HBL15.out⟩
                      case measure => simp [intOf]; omega
                    · obtain rfl : k2 = s2.B.length := by omega
                      go_wp2
                      go_roundw
                      case rel => exact ⟨k + 1, by omega, by go_num, H14.out.drop.drop, HBL14.out⟩
                      case measure => simp [intOf]; omega
                · obtain rfl : k = s2.F.length := by omega
                  go_wp2
                  go_roundw
                  case rel => exact ⟨j + 1, by omega, by go_num, _, _, H11.out.drop.drop.drop.dropN.drop, HV2.out, HNn.out.2⟩
                  case measure => simp [intOf]; omega
    · clear HS
      go_wp2
      go_ret
      exact ⟨rfl, H4.out.below⟩

/-- CacheLocks. -/
theorem cacheLocks_any (c : Cfg) (core : Int) (q : Option Addr) (cap : Nat) (l : List Stp) (w : World) (hc : c.fits) (hT : Tb w) (hs : StpsA w q l) : Calls Tryz.prog 4 #[cv c, .int .i64 core, .slice q l.length cap] w fun e w' => e = .returned (.bool true) ∧ Below w.heap.size w w' := by
  by_cases h : 60 < l.length
  · exact locks_long c core q cap l w hT h
  · rcases Bool.eq_false_or_eq_true (largeB c) with hl | hl
    · exact locks_large c core q cap l w hT (by omega) hl
    · by_cases hn : okC c = false ∨ core < 0 ∨ c.co ≤ core
      · exact locks_none c core q cap l w hc hT (by omega) hl hn
      · have ok : okC c = true := by
          rcases Bool.eq_false_or_eq_true (okC c) with e | e
          · exact e
          · exact absurd (.inl e) hn
        exact locks_walk c core q cap l w hc hT hs (by omega) hl ok (by omega) (by omega)

end Go.Proofs.YtlfhkjjjocmpbaaGreatDoor.Cc
