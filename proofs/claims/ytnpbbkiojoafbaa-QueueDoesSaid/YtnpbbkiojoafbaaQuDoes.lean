/-
  QueueDoes is true: the walk.
-/
import Derived.Test.YtnpbbkiojoafbaaQuW
import Derived.Test.YtnpbbkiojoafbaaQuQ
import Derived.Deep.DeepCutAuto
import Derived.Deep.CutBlock
import Derived.Deep.RegionHeld3
namespace Go.Proofs.Ytnpbbkiojoafbaa
open Go Go.RowKit

theorem op_msgD {w : World} {g : Nat} {x : Qo} (h : ∀ o, w.cell? ⟨g, o, none⟩ = (ocells x)[o]?) : w.rangeAt g 2 (mcells x.m).toList := fun j v hv => by
  rw [h]
  have hj := (List.getElem?_eq_some_iff.1 hv).1
  simp at hj
  rcases (show j = 0 ∨ j = 1 ∨ j = 2 ∨ j = 3 ∨ j = 4 ∨ j = 5 ∨ j = 6 ∨ j = 7 ∨ j = 8 ∨ j = 9 ∨ j = 10 ∨ j = 11 ∨ j = 12 ∨ j = 13 ∨ j = 14 by omega) with rfl | rfl | rfl | rfl | rfl | rfl | rfl | rfl | rfl | rfl | rfl | rfl | rfl | rfl | rfl
  all_goals exact hv
section
variable {room : Int} {L M : List En} {z : Qo} {y : Msg} {q : Bool} {n : Int}
theorem doP_add (h : doP room L z = ((y, q, n), M)) (h0 : z.k = 0) : z0 = y ∧ false = q ∧ addP room L z.m = (n, M) := by
  unfold doP at h
  rw [if_pos h0] at h
  simp only [Prod.mk.injEq] at h
  obtain ⟨⟨h1, h2, h3⟩, h4⟩ := h
  exact ⟨h1, h2, Prod.ext h3 h4⟩
theorem doP_start (h : doP room L z = ((y, q, n), M)) (h0 : z.k ≠ 0) (h1 : z.k = 1) : z0 = y ∧ false = q ∧ startP L z.n z.l = (n, M) := by
  unfold doP at h
  rw [if_neg h0, if_pos h1] at h
  simp only [Prod.mk.injEq] at h
  obtain ⟨⟨h1, h2, h3⟩, h4⟩ := h
  exact ⟨h1, h2, Prod.ext h3 h4⟩
theorem doP_next (h : doP room L z = ((y, q, n), M)) (h0 : z.k ≠ 0) (h1 : z.k ≠ 1) (h2 : z.k = 2) : nextP L z.n = (y, q) ∧ sentP L z.n = (n, M) := by
  unfold doP at h
  rw [if_neg h0, if_neg h1, if_pos h2] at h
  simp only [Prod.mk.injEq] at h
  obtain ⟨⟨h1, h2, h3⟩, h4⟩ := h
  exact ⟨Prod.ext h1 h2, Prod.ext h3 h4⟩
theorem doP_fin (h : doP room L z = ((y, q, n), M)) (h0 : z.k ≠ 0) (h1 : z.k ≠ 1) (h2 : z.k ≠ 2) : z0 = y ∧ false = q ∧ finP L z.m.ln z.m.fr = (n, M) := by
  unfold doP at h
  rw [if_neg h0, if_neg h1, if_neg h2] at h
  simp only [Prod.mk.injEq] at h
  obtain ⟨⟨h1, h2, h3⟩, h4⟩ := h
  exact ⟨h1, h2, Prod.ext h3 h4⟩
end

theorem same_eq {f : Nat} {ar : Array Value} {N R : List Ep} {W : World} (h : Calls Try.prog f ar W fun e w' => e = .returned (.bool (decide (N.map Ep.pl = R.map Ep.pl))) ∧ Below W.heap.size W w') (e : N.map Ep.pl = R.map Ep.pl) : Calls Try.prog f ar W fun e w' => e = .returned (.bool true) ∧ Below W.heap.size W w' := by
  have e2 : decide (N.map Ep.pl = R.map Ep.pl) = true := decide_eq_true e
  rw [e2] at h
  exact h

set_option maxRecDepth 100000 in
set_option maxHeartbeats 8000000 in
theorem queueDoes_any (room : Int) (p : Option Addr) (cap : Nat) (l : List Qo) (w : World) (hl : OpsIn w p l) (hn : l.length ≤ 9223372036854775807) (hsz : ∀ x ∈ l, x.l.length ≤ 140737488355328) :
    Calls Try.prog 3 #[.int .i64 room, .slice p l.length cap] w fun e w' => e = .returned (.bool true) ∧ Below w.heap.size w w' := by
  have HL := Lib.hid hl
  have HSZ := Lib.hid hsz
  clear hl hsz
  go_enter Try.func3, Try.ntmps3
  go_wp2_with fail
  refine (awake_any _).mono ?_
  rintro e w1 ⟨rfl, hb⟩
  have HB := Lib.hid hb
  clear hb
  go_wp2_with fail
  refine (large_any p cap l w1 (HL.out.step HB.out) hn HSZ.out).mono ?_
  rintro e w2 ⟨q, rfl, rfl, hq⟩
  cases q with
  | true =>
    clear HL hq HSZ
    go_wp2
    go_ret
    exact ⟨rfl, HB.out⟩
  | false =>
  have HQ := Lib.hid (hq rfl)
  have hn60 := HQ.out.1
  clear hq HSZ
  by_cases hr : room < 1 ∨ 16 < room
  · clear HL HQ
    have hro := Lib.hid hr
    clear hr
    go_wp2_with fail
    refine (new_no room _ hro.out).mono ?_
    rintro e w2 ⟨rfl, rfl⟩
    go_wp2_with fail
    refine (refNew_no room _ hro.out).mono ?_
    rintro e w2 ⟨rfl, rfl⟩
    go_wp2
    go_loopw [9] (fun i wr => i = .int .i64 0 ∧ Below w.heap.size w wr) (fun _ _ => 0)
    case atStart => exact ⟨rfl, HB.out⟩
    case round =>
      obtain ⟨rfl, hb9⟩ := hrel
      go_wp2
      go_ret
      exact ⟨rfl, hb9⟩
  have HR := Lib.hid hr
  clear hr
  go_wp2_with fail
  refine (newO (w0 := w) (X := noX) (room := room) (by have := HR.out; omega) (by have := HR.out; omega) HB.out (fun k o h => h.elim)).mono ?_
  rintro e w3 ⟨b, rfl, ho, -⟩
  have H00 := Lib.hid ho
  clear ho
  go_wp2_with fail
  refine (refNew_yes room _ (by have := HR.out; omega) (by have := HR.out; omega)).mono ?_
  rintro e w4 ⟨rfl, hw4⟩
  have H0 := Lib.hid (OwnP.two H00.out)
  rw [hw4] at H0
  clear hw4 H00 HR
  generalize w3.heap.size = c at *
  go_wp2
  go_loopw [9] (fun i wr => ∃ (k : Nat) (L : List En), k ≤ l.length ∧ i = .int .i64 k ∧ Two w b c room L L [] wr) (fun i _ => l.length - (intOf i).toNat)
  case atStart => exact ⟨0, [], by omega, rfl, H0.out⟩
  case round =>
    obtain ⟨k, L, hk, rfl, ho⟩ := hrel
    obtain ⟨wo, rfl⟩ : ∃ wo : World, wo = wr := ⟨_, rfl⟩
    have H1 := Lib.hid ho
    clear ho H0
    by_cases hlt : k < l.length
    · obtain ⟨z, hx⟩ : ∃ z, l[k]? = some z := ⟨_, List.getElem?_eq_getElem hlt⟩
      have hop := HL.out.step H1.out.bl
      obtain ⟨g, off, rfl, hgl, hr⟩ := hop.1 k z hx
      have HRO := Lib.hid hr
      have HMZ := Lib.hid (HL.out.2 z (List.mem_of_getElem? hx))
      have HXL := Lib.hid (HQ.out.2 z (List.mem_of_getElem? hx))
      obtain ⟨y, q, n, M, hD⟩ : ∃ y q n M, doP room L z = ((y, q, n), M) := ⟨_, _, _, _, rfl⟩
      have HD := Lib.hid hD
      have H2 := Lib.hid (H1.out.addRow #[.int .i64 0, .int .i64 0, .int .i64 0, .int .i64 0, .int .i64 0, .int .i64 0, .int .i64 0, .int .i64 0, .int .i64 0, .int .i64 0, .int .i64 0, .int .i64 0, .int .i64 0, .int .i64 0, .int .i64 0, .int .i64 0, .int .i64 0, .slice none 0 0] (ocells z) 38)
      have HG2 : Hid (((wo.alloc (.cells #[.int .i64 0, .int .i64 0, .int .i64 0, .int .i64 0, .int .i64 0, .int .i64 0, .int .i64 0, .int .i64 0, .int .i64 0, .int .i64 0, .int .i64 0, .int .i64 0, .int .i64 0, .int .i64 0, .int .i64 0, .int .i64 0, .int .i64 0, .slice none 0 0] 38)).setRow wo.heap.size (ocells z)).heap[wo.heap.size]? = some (.cells (ocells z) 38 (0, 0))) := Lib.hid (setRow_heap _ _ _ _ _ _ (heap_alloc_new wo _))
      clear hop hr hx hD H1 HL HQ HB
      as_aux_lemma =>
      go_wp2_with (first
        | ((with_reducible refine wpList_load_at (op := ⟨some 56, _, _, _, _, _⟩) rfl 38 (.tmp 55) rfl g (off + k * 18) ?lx (ocells z) _ ?lc Try.underlying38 ?ld ?li ?_); (case lx => rfl); (case lc => exact HRO.out); (case ld => rfl); (case li => kernel_rfl))
        | ((with_reducible refine wpList_store_row (o := ⟨none, _, _, _, _, _⟩) rfl 38 (.tmp 10) (.tmp 56) rfl wo.heap.size (ocells z) ?sx ?sy 38 ?old ?sg ?si ?so ?s1 ?_); (case sx => rfl); (case sy => rfl); (case old => exact #[.int .i64 0, .int .i64 0, .int .i64 0, .int .i64 0, .int .i64 0, .int .i64 0, .int .i64 0, .int .i64 0, .int .i64 0, .int .i64 0, .int .i64 0, .int .i64 0, .int .i64 0, .int .i64 0, .int .i64 0, .int .i64 0, .int .i64 0, .slice none 0 0]); (case sg => exact heap_alloc_new wo _); (case si => kernel_rfl); (case so => rfl); (case s1 => kernel_rfl); generalize (wo.alloc (.cells #[.int .i64 0, .int .i64 0, .int .i64 0, .int .i64 0, .int .i64 0, .int .i64 0, .int .i64 0, .int .i64 0, .int .i64 0, .int .i64 0, .int .i64 0, .int .i64 0, .int .i64 0, .int .i64 0, .int .i64 0, .int .i64 0, .int .i64 0, .slice none 0 0] 38)).setRow wo.heap.size (ocells z) = w4 at *; generalize wo.heap.size = ka at *)
        | ((with_reducible refine wpList_load_row (o := ⟨some 59, _, _, _, _, _⟩) rfl 38 (.tmp 10) rfl ka ?lx 38 (ocells z) (0, 0) _ ?lg Try.underlying38 ?ld ?li ?_); (case lx => rfl); (case lg => exact HG2.out); (case ld => rfl); (case li => kernel_rfl))
        | fail)
      obtain ⟨X, hX, hback⟩ := H2.out.left
      refine (hX.op z (HMZ.out.step H2.out.bl) (by have := HXL.out; omega) HD.out).mono ?_
      rintro e w5 ⟨rfl, ho⟩
      have H3 := Lib.hid (hback _ _ _ ho)
      have HM3 := Lib.hid H3.out.bl
      clear ho H2 HRO HG2 hX hback HM3
      have H4 := Lib.hid (H3.out.addRow zmc (mcells y) 35)
      clear H3
      go_upto_block 2 with (first
        | ((with_reducible refine wpList_store_row (o := ⟨none, _, _, _, _, _⟩) rfl 35 (.tmp 11) (.tmp 61) rfl w5.heap.size (mcells y) ?sx ?sy 35 ?old ?sg ?si ?so ?s1 ?_); (case sx => rfl); (case sy => rfl); (case old => exact zmc); (case sg => exact heap_alloc_new w5 _); (case si => kernel_rfl); (case so => rfl); (case s1 => kernel_rfl); generalize (w5.alloc (.cells zmc 35)).setRow w5.heap.size (mcells y) = w7 at *; generalize w5.heap.size = kb at *; have H5 := Lib.hid (H4.out.addRow zmc zmc 35))
        | ((with_reducible refine wpList_store_row (o := ⟨none, _, _, _, _, _⟩) rfl 35 (.tmp 14) (.tmp 64) rfl w7.heap.size zmc ?sx ?sy 35 ?old ?sg ?si ?so ?s1 ?_); (case sx => rfl); (case sy => rfl); (case old => exact zmc); (case sg => exact heap_alloc_new w7 _); (case si => kernel_rfl); (case so => rfl); (case s1 => kernel_rfl); generalize (w7.alloc (.cells zmc 35)).setRow w7.heap.size zmc = w8 at *; generalize w7.heap.size = kc at *; have hca := H5.out.cells (n := ka) (cs := ocells z) (List.mem_cons_of_mem _ (List.mem_cons_of_mem _ (List.mem_cons_self ..)))))
      go_cut [15, 16] (fun s15 s16 wx => s15 = .bool q ∧ s16 = .int .i64 n ∧ Two w b c room M M [(kc, .cells (mcells y) 35 (0, 0)), (kb, .cells (mcells y) 35 (0, 0)), (ka, .cells (ocells z) 38 (0, 0))] wx)
      case first =>
        as_aux_lemma =>
        obtain ⟨X, hX, hback⟩ := H5.out.right
        have HX := Lib.hid hX
        have HK := Lib.hid hback
        clear hX hback
        by_cases h0 : z.k = 0
        · obtain ⟨rfl, rfl, e⟩ := doP_add HD.out h0
          have k0 : (z.k == 0) = true := by simpa using h0
          have HE := Lib.hid e
          clear h0 e
          go_wp2_with (first
            | ((with_reducible refine wpList_load_at (op := ⟨some 79, _, _, _, _, _⟩) rfl 35 (.tmp 78) rfl ka 2 ?lx (mcells z.m) _ ?lc Try.underlying35 ?ld ?li ?_); (case lx => rfl); (case lc => exact op_msgD hca); (case ld => rfl); (case li => kernel_rfl))
            | fail)
          refine (HX.out.addR z.m HE.out).mono ?_
          rintro e w9 ⟨rfl, ho⟩
          have H6 := Lib.hid (HK.out _ _ _ ho)
          clear ho hca H5 HX HK
          go_wp2_with fail
          go_meet
          case rel => exact ⟨rfl, rfl, H6.out⟩
        · have k0 : (z.k == 0) = false := by simpa using h0
          by_cases h1 : z.k = 1
          · obtain ⟨rfl, rfl, e⟩ := doP_start HD.out h0 h1
            have k1 : (z.k == 1) = true := by simpa using h1
            have HE := Lib.hid e
            clear h0 h1 e
            go_wp2_with fail
            refine (HX.out.startR z.n z.p z.c z.l (HMZ.out.step H5.out.bl) (by have := HXL.out; omega) HE.out).mono ?_
            rintro e w9 ⟨rfl, ho⟩
            have H6 := Lib.hid (HK.out _ _ _ ho)
            clear ho hca H5 HX HK
            go_wp2_with fail
            go_meet
            case rel => exact ⟨rfl, rfl, H6.out⟩
          · have k1 : (z.k == 1) = false := by simpa using h1
            by_cases h2 : z.k = 2
            · obtain ⟨e1, e2⟩ := doP_next HD.out h0 h1 h2
              have k2 : (z.k == 2) = true := by simpa using h2
              have HE1 := Lib.hid e1
              have HE2 := Lib.hid e2
              clear h0 h1 h2 e1 e2
              go_wp2_with fail
              refine (HX.out.nextR z.n HE1.out).mono ?_
              rintro e w9 ⟨rfl, hb9⟩
              have HX9 := Lib.hid (HX.out.step hb9)
              have HBK := Lib.hid (HX9.out.box (List.mem_cons_self ..))
              have HX10 := Lib.hid (HX9.out.setRow (cs' := mcells y))
              have hcb := HX10.out.cells (n := ka) (cs := ocells z) (List.mem_cons_of_mem _ (List.mem_cons_of_mem _ (List.mem_cons_self ..)))
              clear hb9 hca HX HX9
              go_wp2_with (first
                | ((with_reducible refine wpList_store_row (o := ⟨none, _, _, _, _, _⟩) rfl 35 (.tmp 14) (.tmp 96) rfl kc (mcells y) ?sx ?sy 35 ?old ?sg ?si ?so ?s1 ?_); (case sx => rfl); (case sy => rfl); (case old => exact zmc); (case sg => exact HBK.out); (case si => kernel_rfl); (case so => rfl); (case s1 => kernel_rfl))
                | fail)
              refine (HX10.out.sentR z.n HE2.out).mono ?_
              rintro e w11 ⟨rfl, ho⟩
              have H6 := Lib.hid (HK.out _ _ _ ho)
              clear ho hcb H5 HX10 HK HBK
              go_wp2_with fail
              go_meet
              case rel => exact ⟨rfl, rfl, H6.out⟩
            · obtain ⟨rfl, rfl, e⟩ := doP_fin HD.out h0 h1 h2
              have k2 : (z.k == 2) = false := by simpa using h2
              have HE := Lib.hid e
              clear h0 h1 h2 e
              go_wp2_with fail
              refine (HX.out.finR z.m.ln z.m.fr HE.out).mono ?_
              rintro e w9 ⟨rfl, ho⟩
              have H6 := Lib.hid (HK.out _ _ _ ho)
              clear ho hca H5 HX HK
              go_wp2_with fail
              go_meet
              case rel => exact ⟨rfl, rfl, H6.out⟩
      case rest =>
        obtain ⟨rfl, rfl, ho⟩ := hcut
        have H6 := Lib.hid ho
        clear ho hca H5 HD HMZ HXL
        obtain ⟨X, hR, -⟩ := H6.out.right
        obtain ⟨q4, cap4, R, hRM, hR16, hRf, hrow⟩ := hR.rowR
        have HRM := Lib.hid hRM
        have HLM : Hid (M.length ≤ 16) := Lib.hid H6.out.gd.short
        have hr1 := H6.out.gd.r1
        have hr2 := H6.out.gd.r2
        have HRF := Lib.hid hRf
        have HROW := Lib.hid hrow
        have HNF0 : Hid (∀ N : List Ep, N.map Ep.pl = M → ∀ x ∈ N, x.l.length ≤ 5000) := Lib.hid (fun N hN x hx => by
          have := H6.out.gd.few x.pl (by rw [← hN]; exact List.mem_map.2 ⟨x, hx, rfl⟩)
          have e : x.pl.l = x.l := rfl
          rw [e] at this
          omega)
        have hlen : M.length = R.length := by rw [← hRM, List.length_map]
        have HS : Hid (∀ W, Below wc.heap.size wc W → ((∀ o, W.cell? ⟨ka, o, none⟩ = (ocells z)[o]?) ∧ W.cell? ⟨c, 1, none⟩ = some (.slice q4 R.length cap4)) ∧ W.rangeAt kb 0 (mcells y).toList ∧ W.rangeAt kc 0 (mcells y).toList) := Lib.hid (fun W hW => ⟨⟨(H6.out.step hW).cells (List.mem_cons_of_mem _ (List.mem_cons_of_mem _ (List.mem_cons_self ..))), (hrow W hW).1⟩, box_range ((H6.out.step hW).cells (List.mem_cons_of_mem _ (List.mem_cons_self ..))), box_range ((H6.out.step hW).cells (List.mem_cons_self ..))⟩)
        have HLIST := Lib.hid (fun (W : World) (hW : Below wc.heap.size wc W) => by
          obtain ⟨X, h1, -⟩ := (H6.out.step hW).left
          exact h1.listQ)
        have HLEFT : Hid (∀ W, Below wc.heap.size wc W → Calls Try.prog 19 #[.pointer (some ⟨b, 0, none⟩)] W fun e W' => e = .returned (.int .i64 (room - (R.length : Int))) ∧ Below W.heap.size W W') := Lib.hid (fun W hW => by
          obtain ⟨X, h1, -⟩ := (H6.out.step hW).left
          refine h1.leftQ.mono fun e W' ⟨he, n, hn⟩ => ⟨by rw [← hlen]; exact he, by rw [hn]; exact below_drewN (Below.refl _ _) n⟩)
        obtain ⟨d, hd⟩ : ∃ d, rdy M z.n = d := ⟨_, rfl⟩
        have HRDP : Hid (∀ W, Below wc.heap.size wc W → Calls Try.prog 20 #[.pointer (some ⟨b, 0, none⟩), .int .i64 z.n] W fun e W' => e = .returned (.bool d) ∧ Below W.heap.size W W') := Lib.hid (fun W hW => by
          obtain ⟨X, h1, -⟩ := (H6.out.step hW).left
          exact h1.readyQ z.n hd)
        have HRDR : Hid (∀ W, Below wc.heap.size wc W → Calls Try.prog 21 #[.pointer (some ⟨c, 0, none⟩), .int .i64 z.n] W fun e W' => e = .returned (.bool d) ∧ Below W.heap.size W W') := Lib.hid (fun W hW => by
          obtain ⟨X, h1, -⟩ := (H6.out.step hW).right
          exact h1.readyR z.n hd)
        have hq : ∀ w, (binOp .neq 35 (mv y) (mv y)).run Try.prog w = .ok (.bool false) w := fun w => by rw [msg_neq]; simp
        have hw1 : IntKind.i64.wrap (room - (R.length : Int)) = room - (R.length : Int) := by rw [IntKind.wrap_i64]; omega
        clear hRM hRf hrow hR hlen hd
        go_wp2_with fail
        refine wp_region_noPanic ?_
        refine wp_region_held_drew (S := fun w' => ((∀ o, w'.cell? ⟨ka, o, none⟩ = (ocells z)[o]?) ∧ w'.cell? ⟨c, 1, none⟩ = some (.slice q4 R.length cap4)) ∧ w'.rangeAt kb 0 (mcells y).toList ∧ w'.rangeAt kc 0 (mcells y).toList) (by kernel_rfl) (HS.out _ (Below.refl _ _).drew) (fun hh0 => ?_)
        have HW0 := Lib.hid ((Below.refl wc.heap.size wc).drew)
        generalize World.drew wc = V0 at *
        refine wpAnyH_take (fuel := 46) (i := 0) (oi := ⟨some 102, _, _, _, _, _⟩) (v := mv y) rfl (by kernel_rfl) (by kernel_rfl) (by kernel_rfl) (fun _ _ _ h => h) (yields_at (by rfl) 35 (.tmp 11) rfl kb 0 rfl (mcells y) _ (fun w' h => h.2.1) Try.underlying35 rfl (by kernel_rfl)) hh0 ?_
        simp only [Act.put, List.setIfInBounds_toArray, List.set_cons_zero, List.set_cons_succ]
        refine wpAnyH_take (fuel := 45) (i := 1) (oi := ⟨some 103, _, _, _, _, _⟩) (v := mv y) rfl (by kernel_rfl) (by kernel_rfl) (by kernel_rfl) (fun _ _ _ h => h) (yields_at (by rfl) 35 (.tmp 14) rfl kc 0 rfl (mcells y) _ (fun w' h => h.2.2) Try.underlying35 rfl (by kernel_rfl)) hh0 ?_
        simp only [Act.put, List.setIfInBounds_toArray, List.set_cons_zero, List.set_cons_succ]
        refine wpAnyH_take (fuel := 44) (i := 2) (oi := ⟨some 104, _, _, _, _, _⟩) (v := .bool false) rfl (by kernel_rfl) (by kernel_rfl) (by kernel_rfl) (fun _ _ _ h => h) (Or.inl ⟨by rfl, ?_⟩) hh0 ?_
        · rintro w' hSS
          obtain ⟨⟨hbx, hc1⟩, -⟩ := hSS
          go_simp
        simp only [Act.put, List.setIfInBounds_toArray, List.set_cons_zero, List.set_cons_succ]
        refine wpAnyH_take (fuel := 43) (i := 3) (oi := ⟨some 105, _, _, _, _, _⟩) (v := .bool false) rfl (by kernel_rfl) (by kernel_rfl) (by kernel_rfl) (fun _ _ _ h => h) (Or.inl ⟨by rfl, ?_⟩) hh0 ?_
        · rintro w' hSS
          obtain ⟨⟨hbx, hc1⟩, -⟩ := hSS
          go_simp
        simp only [Act.put, List.setIfInBounds_toArray, List.set_cons_zero, List.set_cons_succ]
        refine wpAnyH_take (fuel := 42) (i := 4) (oi := ⟨some 106, _, _, _, _, _⟩) (v := .bool q) rfl (by kernel_rfl) (by kernel_rfl) (by kernel_rfl) (fun _ _ _ h => h) (Or.inl ⟨by rfl, ?_⟩) hh0 ?_
        · rintro w' hSS
          obtain ⟨⟨hbx, hc1⟩, -⟩ := hSS
          go_simp
        simp only [Act.put, List.setIfInBounds_toArray, List.set_cons_zero, List.set_cons_succ]
        refine wpAnyH_take (fuel := 41) (i := 5) (oi := ⟨some 107, _, _, _, _, _⟩) (v := .bool q) rfl (by kernel_rfl) (by kernel_rfl) (by kernel_rfl) (fun _ _ _ h => h) (Or.inl ⟨by rfl, ?_⟩) hh0 ?_
        · rintro w' hSS
          obtain ⟨⟨hbx, hc1⟩, -⟩ := hSS
          go_simp
        simp only [Act.put, List.setIfInBounds_toArray, List.set_cons_zero, List.set_cons_succ]
        refine wpAnyH_take (fuel := 40) (i := 6) (oi := ⟨some 108, _, _, _, _, _⟩) (v := .bool false) rfl (by kernel_rfl) (by kernel_rfl) (by kernel_rfl) (fun _ _ _ h => h) (Or.inl ⟨by rfl, ?_⟩) hh0 ?_
        · rintro w' hSS
          obtain ⟨⟨hbx, hc1⟩, -⟩ := hSS
          go_simp
        simp only [Act.put, List.setIfInBounds_toArray, List.set_cons_zero, List.set_cons_succ]
        refine wpAnyH_take (fuel := 39) (i := 7) (oi := ⟨some 109, _, _, _, _, _⟩) (v := .bool false) rfl (by kernel_rfl) (by kernel_rfl) (by kernel_rfl) (fun _ _ _ h => h) (Or.inl ⟨by rfl, ?_⟩) hh0 ?_
        · rintro w' hSS
          obtain ⟨⟨hbx, hc1⟩, -⟩ := hSS
          go_simp
        simp only [Act.put, List.setIfInBounds_toArray, List.set_cons_zero, List.set_cons_succ]
        refine wpAnyH_take (fuel := 38) (i := 8) (oi := ⟨some 110, _, _, _, _, _⟩) (v := .bool false) rfl (by kernel_rfl) (by kernel_rfl) (by kernel_rfl) (fun _ _ _ h => h) (Or.inl ⟨by rfl, ?_⟩) hh0 ?_
        · rintro w' hSS
          obtain ⟨⟨hbx, hc1⟩, -⟩ := hSS
          go_simp
        simp only [Act.put, List.setIfInBounds_toArray, List.set_cons_zero, List.set_cons_succ]
        refine wpAnyH_take (fuel := 37) (i := 9) (oi := ⟨some 111, _, _, _, _, _⟩) (v := .int .i64 n) rfl (by kernel_rfl) (by kernel_rfl) (by kernel_rfl) (fun _ _ _ h => h) (Or.inl ⟨by rfl, ?_⟩) hh0 ?_
        · rintro w' hSS
          obtain ⟨⟨hbx, hc1⟩, -⟩ := hSS
          go_simp
        simp only [Act.put, List.setIfInBounds_toArray, List.set_cons_zero, List.set_cons_succ]
        refine wpAnyH_take (fuel := 36) (i := 10) (oi := ⟨some 112, _, _, _, _, _⟩) (v := .int .i64 n) rfl (by kernel_rfl) (by kernel_rfl) (by kernel_rfl) (fun _ _ _ h => h) (Or.inl ⟨by rfl, ?_⟩) hh0 ?_
        · rintro w' hSS
          obtain ⟨⟨hbx, hc1⟩, -⟩ := hSS
          go_simp
        simp only [Act.put, List.setIfInBounds_toArray, List.set_cons_zero, List.set_cons_succ]
        refine wpAnyH_take (fuel := 35) (i := 11) (oi := ⟨some 113, _, _, _, _, _⟩) (v := .bool false) rfl (by kernel_rfl) (by kernel_rfl) (by kernel_rfl) (fun _ _ _ h => h) (Or.inl ⟨by rfl, ?_⟩) hh0 ?_
        · rintro w' hSS
          obtain ⟨⟨hbx, hc1⟩, -⟩ := hSS
          go_simp
        simp only [Act.put, List.setIfInBounds_toArray, List.set_cons_zero, List.set_cons_succ]
        refine wpAnyH_take (fuel := 34) (i := 12) (oi := ⟨some 114, _, _, _, _, _⟩) (v := .bool false) rfl (by kernel_rfl) (by kernel_rfl) (by kernel_rfl) (fun _ _ _ h => h) (Or.inl ⟨by rfl, ?_⟩) hh0 ?_
        · rintro w' hSS
          obtain ⟨⟨hbx, hc1⟩, -⟩ := hSS
          go_simp
        simp only [Act.put, List.setIfInBounds_toArray, List.set_cons_zero, List.set_cons_succ]
        refine wpAnyH_take (fuel := 33) (i := 13) (oi := ⟨some 115, _, _, _, _, _⟩) (v := .bool false) rfl (by kernel_rfl) (by kernel_rfl) (by kernel_rfl) (fun _ _ _ h => h) (Or.inl ⟨by rfl, ?_⟩) hh0 ?_
        · rintro w' hSS
          obtain ⟨⟨hbx, hc1⟩, -⟩ := hSS
          go_simp
        simp only [Act.put, List.setIfInBounds_toArray, List.set_cons_zero, List.set_cons_succ]
        refine wpAnyH_take (fuel := 32) (i := 14) (oi := ⟨some 116, _, _, _, _, _⟩) (v := .pointer (some ⟨b, 0, none⟩)) rfl (by kernel_rfl) (by kernel_rfl) (by kernel_rfl) (fun _ _ _ h => h) (Or.inl ⟨by rfl, ?_⟩) hh0 ?_
        · rintro w' hSS
          obtain ⟨⟨hbx, hc1⟩, -⟩ := hSS
          go_simp
        simp only [Act.put, List.setIfInBounds_toArray, List.set_cons_zero, List.set_cons_succ]
        refine wpAnyH_take (fuel := 31) (i := 17) (oi := ⟨some 119, _, _, _, _, _⟩) (v := .pointer (some ⟨c, 0, none⟩)) rfl (by kernel_rfl) (by kernel_rfl) (by kernel_rfl) (fun _ _ _ h => h) (Or.inl ⟨by rfl, ?_⟩) hh0 ?_
        · rintro w' hSS
          obtain ⟨⟨hbx, hc1⟩, -⟩ := hSS
          go_simp
        simp only [Act.put, List.setIfInBounds_toArray, List.set_cons_zero, List.set_cons_succ]
        refine wpAnyH_take (fuel := 30) (i := 18) (oi := ⟨some 120, _, _, _, _, _⟩) (v := .pointer (some ⟨c, 0, none⟩)) rfl (by kernel_rfl) (by kernel_rfl) (by kernel_rfl) (fun _ _ _ h => h) (Or.inl ⟨by rfl, ?_⟩) hh0 ?_
        · rintro w' hSS
          obtain ⟨⟨hbx, hc1⟩, -⟩ := hSS
          go_simp
        simp only [Act.put, List.setIfInBounds_toArray, List.set_cons_zero, List.set_cons_succ]
        refine wpAnyH_take (fuel := 29) (i := 19) (oi := ⟨some 121, _, _, _, _, _⟩) (v := .pointer (some ⟨c, 1, none⟩)) rfl (by kernel_rfl) (by kernel_rfl) (by kernel_rfl) (fun _ _ _ h => h) (Or.inl ⟨by rfl, ?_⟩) hh0 ?_
        · rintro w' hSS
          obtain ⟨⟨hbx, hc1⟩, -⟩ := hSS
          go_simp
        simp only [Act.put, List.setIfInBounds_toArray, List.set_cons_zero, List.set_cons_succ]
        refine wpAnyH_take (fuel := 28) (i := 20) (oi := ⟨some 122, _, _, _, _, _⟩) (v := .slice q4 R.length cap4) rfl (by kernel_rfl) (by kernel_rfl) (by kernel_rfl) (fun _ _ _ h => h) (Or.inl ⟨by rfl, ?_⟩) hh0 ?_
        · rintro w' hSS
          obtain ⟨⟨hbx, hc1⟩, -⟩ := hSS
          go_simp
        simp only [Act.put, List.setIfInBounds_toArray, List.set_cons_zero, List.set_cons_succ]
        refine wpAnyH_ready (fuel := 27) (rs := [15]) (by kernel_rfl) (by simp) ?_
        refine AllReadyH.cons (o := ⟨some 117, _, _, _, _, _⟩) rfl (fun P hP => ?_) AllReadyH.nil
        go_simp
        refine (HLIST.out V0 HW0.out).mono ?_
        rintro e V1 ⟨p5, c5, N, rfl, hNp, hin, -, hb3⟩
        have HW1 := Lib.hid (bstep HW0.out hb3)
        have HIN := Lib.hid hin
        have HNP := Lib.hid hNp
        have hNl : N.length ≤ 5000 := by have := congrArg List.length hNp; simp only [List.length_map] at this; have := HLM.out; omega
        have HNF := Lib.hid (HNF0.out N hNp)
        clear hin hNp
        clear hb3
        show P _ _
        refine hP.out _ _ (HS.out _ HW1.out) (fun hh1 => ?_)
        clear hP P hh0
        try simp only [Act.put, List.setIfInBounds_toArray, List.set_cons_zero, List.set_cons_succ]
        refine wpAnyH_ready (fuel := 26) (rs := [16]) (by kernel_rfl) (by simp) ?_
        refine AllReadyH.cons (o := ⟨some 118, _, _, _, _, _⟩) rfl (fun P hP => ?_) AllReadyH.nil
        go_simp
        refine (own_any p5 c5 N V1 hNl HIN.out).mono ?_
        rintro e V2 ⟨q6, c6, rfl, hin6, -, -, hb3⟩
        have HW2 := Lib.hid (bstep HW1.out hb3)
        have HIN6 := Lib.hid hin6
        clear hin6 HIN
        clear hb3
        show P _ _
        refine hP.out _ _ (HS.out _ HW2.out) (fun hh2 => ?_)
        clear hP P hh1
        try simp only [Act.put, List.setIfInBounds_toArray, List.set_cons_zero, List.set_cons_succ]
        refine wpAnyH_ready (fuel := 25) (rs := [21]) (by kernel_rfl) (by simp) ?_
        refine AllReadyH.cons (o := ⟨some 123, _, _, _, _, _⟩) rfl (fun P hP => ?_) AllReadyH.nil
        go_simp
        refine (same_eq (same_any q6 q4 c6 cap4 N R V2 hNl HNF.out HIN6.out (HROW.out V2 HW2.out).2) (HNP.out.trans HRM.out.symm)).mono ?_
        rintro e V3 ⟨rfl, hb3⟩
        have HW3 := Lib.hid (bstep HW2.out hb3)
        clear HIN6 HNF HNP hNl
        clear hb3
        show P _ _
        refine hP.out _ _ (HS.out _ HW3.out) (fun hh3 => ?_)
        clear hP P hh2
        try simp only [Act.put, List.setIfInBounds_toArray, List.set_cons_zero, List.set_cons_succ]
        refine wpAnyH_take (fuel := 24) (i := 22) (oi := ⟨some 124, _, _, _, _, _⟩) (v := .bool false) rfl (by kernel_rfl) (by kernel_rfl) (by kernel_rfl) (fun _ _ _ h => h) (Or.inl ⟨by rfl, ?_⟩) hh3 ?_
        · rintro w' hSS
          obtain ⟨⟨hbx, hc1⟩, -⟩ := hSS
          go_simp
        simp only [Act.put, List.setIfInBounds_toArray, List.set_cons_zero, List.set_cons_succ]
        refine wpAnyH_take (fuel := 23) (i := 23) (oi := ⟨some 125, _, _, _, _, _⟩) (v := .bool false) rfl (by kernel_rfl) (by kernel_rfl) (by kernel_rfl) (fun _ _ _ h => h) (Or.inl ⟨by rfl, ?_⟩) hh3 ?_
        · rintro w' hSS
          obtain ⟨⟨hbx, hc1⟩, -⟩ := hSS
          go_simp
        simp only [Act.put, List.setIfInBounds_toArray, List.set_cons_zero, List.set_cons_succ]
        refine wpAnyH_take (fuel := 22) (i := 24) (oi := ⟨some 126, _, _, _, _, _⟩) (v := .bool false) rfl (by kernel_rfl) (by kernel_rfl) (by kernel_rfl) (fun _ _ _ h => h) (Or.inl ⟨by rfl, ?_⟩) hh3 ?_
        · rintro w' hSS
          obtain ⟨⟨hbx, hc1⟩, -⟩ := hSS
          go_simp
        simp only [Act.put, List.setIfInBounds_toArray, List.set_cons_zero, List.set_cons_succ]
        refine wpAnyH_take (fuel := 21) (i := 25) (oi := ⟨some 127, _, _, _, _, _⟩) (v := .pointer (some ⟨b, 0, none⟩)) rfl (by kernel_rfl) (by kernel_rfl) (by kernel_rfl) (fun _ _ _ h => h) (Or.inl ⟨by rfl, ?_⟩) hh3 ?_
        · rintro w' hSS
          obtain ⟨⟨hbx, hc1⟩, -⟩ := hSS
          go_simp
        simp only [Act.put, List.setIfInBounds_toArray, List.set_cons_zero, List.set_cons_succ]
        refine wpAnyH_take (fuel := 20) (i := 27) (oi := ⟨some 129, _, _, _, _, _⟩) (v := .int .i64 room) rfl (by kernel_rfl) (by kernel_rfl) (by kernel_rfl) (fun _ _ _ h => h) (Or.inl ⟨by rfl, ?_⟩) hh3 ?_
        · rintro w' hSS
          obtain ⟨⟨hbx, hc1⟩, -⟩ := hSS
          go_simp
        simp only [Act.put, List.setIfInBounds_toArray, List.set_cons_zero, List.set_cons_succ]
        refine wpAnyH_take (fuel := 19) (i := 28) (oi := ⟨some 130, _, _, _, _, _⟩) (v := .pointer (some ⟨c, 0, none⟩)) rfl (by kernel_rfl) (by kernel_rfl) (by kernel_rfl) (fun _ _ _ h => h) (Or.inl ⟨by rfl, ?_⟩) hh3 ?_
        · rintro w' hSS
          obtain ⟨⟨hbx, hc1⟩, -⟩ := hSS
          go_simp
        simp only [Act.put, List.setIfInBounds_toArray, List.set_cons_zero, List.set_cons_succ]
        refine wpAnyH_take (fuel := 18) (i := 29) (oi := ⟨some 131, _, _, _, _, _⟩) (v := .pointer (some ⟨c, 0, none⟩)) rfl (by kernel_rfl) (by kernel_rfl) (by kernel_rfl) (fun _ _ _ h => h) (Or.inl ⟨by rfl, ?_⟩) hh3 ?_
        · rintro w' hSS
          obtain ⟨⟨hbx, hc1⟩, -⟩ := hSS
          go_simp
        simp only [Act.put, List.setIfInBounds_toArray, List.set_cons_zero, List.set_cons_succ]
        refine wpAnyH_take (fuel := 17) (i := 30) (oi := ⟨some 132, _, _, _, _, _⟩) (v := .pointer (some ⟨c, 1, none⟩)) rfl (by kernel_rfl) (by kernel_rfl) (by kernel_rfl) (fun _ _ _ h => h) (Or.inl ⟨by rfl, ?_⟩) hh3 ?_
        · rintro w' hSS
          obtain ⟨⟨hbx, hc1⟩, -⟩ := hSS
          go_simp
        simp only [Act.put, List.setIfInBounds_toArray, List.set_cons_zero, List.set_cons_succ]
        refine wpAnyH_take (fuel := 16) (i := 31) (oi := ⟨some 133, _, _, _, _, _⟩) (v := .slice q4 R.length cap4) rfl (by kernel_rfl) (by kernel_rfl) (by kernel_rfl) (fun _ _ _ h => h) (Or.inl ⟨by rfl, ?_⟩) hh3 ?_
        · rintro w' hSS
          obtain ⟨⟨hbx, hc1⟩, -⟩ := hSS
          go_simp
        simp only [Act.put, List.setIfInBounds_toArray, List.set_cons_zero, List.set_cons_succ]
        refine wpAnyH_take (fuel := 15) (i := 32) (oi := ⟨some 134, _, _, _, _, _⟩) (v := .int .i64 R.length) rfl (by kernel_rfl) (by kernel_rfl) (by kernel_rfl) (fun _ _ _ h => h) (Or.inl ⟨by rfl, ?_⟩) hh3 ?_
        · rintro w' hSS
          obtain ⟨⟨hbx, hc1⟩, -⟩ := hSS
          go_simp
        simp only [Act.put, List.setIfInBounds_toArray, List.set_cons_zero, List.set_cons_succ]
        refine wpAnyH_take (fuel := 14) (i := 33) (oi := ⟨some 135, _, _, _, _, _⟩) (v := .int .i64 (room - (R.length : Int))) rfl (by kernel_rfl) (by kernel_rfl) (by kernel_rfl) (fun _ _ _ h => h) (Or.inl ⟨by rfl, ?_⟩) hh3 ?_
        · rintro w' hSS
          obtain ⟨⟨hbx, hc1⟩, -⟩ := hSS
          go_simp
        simp only [Act.put, List.setIfInBounds_toArray, List.set_cons_zero, List.set_cons_succ]
        refine wpAnyH_ready (fuel := 13) (rs := [26]) (by kernel_rfl) (by simp) ?_
        refine AllReadyH.cons (o := ⟨some 128, _, _, _, _, _⟩) rfl (fun P hP => ?_) AllReadyH.nil
        go_simp
        refine (HLEFT.out V3 HW3.out).mono ?_
        rintro e V4 ⟨rfl, hb3⟩
        have HW4 := Lib.hid (bstep HW3.out hb3)
        clear hb3
        show P _ _
        refine hP.out _ _ (HS.out _ HW4.out) (fun hh4 => ?_)
        clear hP P hh3
        try simp only [Act.put, List.setIfInBounds_toArray, List.set_cons_zero, List.set_cons_succ]
        refine wpAnyH_take (fuel := 12) (i := 34) (oi := ⟨some 136, _, _, _, _, _⟩) (v := .bool false) rfl (by kernel_rfl) (by kernel_rfl) (by kernel_rfl) (fun _ _ _ h => h) (Or.inl ⟨by rfl, ?_⟩) hh4 ?_
        · rintro w' hSS
          obtain ⟨⟨hbx, hc1⟩, -⟩ := hSS
          go_simp
        simp only [Act.put, List.setIfInBounds_toArray, List.set_cons_zero, List.set_cons_succ]
        refine wpAnyH_take (fuel := 11) (i := 35) (oi := ⟨some 137, _, _, _, _, _⟩) (v := .bool false) rfl (by kernel_rfl) (by kernel_rfl) (by kernel_rfl) (fun _ _ _ h => h) (Or.inl ⟨by rfl, ?_⟩) hh4 ?_
        · rintro w' hSS
          obtain ⟨⟨hbx, hc1⟩, -⟩ := hSS
          go_simp
        simp only [Act.put, List.setIfInBounds_toArray, List.set_cons_zero, List.set_cons_succ]
        refine wpAnyH_take (fuel := 10) (i := 36) (oi := ⟨some 138, _, _, _, _, _⟩) (v := .bool false) rfl (by kernel_rfl) (by kernel_rfl) (by kernel_rfl) (fun _ _ _ h => h) (Or.inl ⟨by rfl, ?_⟩) hh4 ?_
        · rintro w' hSS
          obtain ⟨⟨hbx, hc1⟩, -⟩ := hSS
          go_simp
        simp only [Act.put, List.setIfInBounds_toArray, List.set_cons_zero, List.set_cons_succ]
        refine wpAnyH_take (fuel := 9) (i := 37) (oi := ⟨some 139, _, _, _, _, _⟩) (v := .pointer (some ⟨b, 0, none⟩)) rfl (by kernel_rfl) (by kernel_rfl) (by kernel_rfl) (fun _ _ _ h => h) (Or.inl ⟨by rfl, ?_⟩) hh4 ?_
        · rintro w' hSS
          obtain ⟨⟨hbx, hc1⟩, -⟩ := hSS
          go_simp
        simp only [Act.put, List.setIfInBounds_toArray, List.set_cons_zero, List.set_cons_succ]
        refine wpAnyH_take (fuel := 8) (i := 38) (oi := ⟨some 140, _, _, _, _, _⟩) (v := .pointer (some ⟨ka, 1, none⟩)) rfl (by kernel_rfl) (by kernel_rfl) (by kernel_rfl) (fun _ _ _ h => h) (Or.inl ⟨by rfl, ?_⟩) hh4 ?_
        · rintro w' hSS
          obtain ⟨⟨hbx, hc1⟩, -⟩ := hSS
          go_simp
        simp only [Act.put, List.setIfInBounds_toArray, List.set_cons_zero, List.set_cons_succ]
        refine wpAnyH_take (fuel := 7) (i := 39) (oi := ⟨some 141, _, _, _, _, _⟩) (v := .int .i64 z.n) rfl (by kernel_rfl) (by kernel_rfl) (by kernel_rfl) (fun _ _ _ h => h) (Or.inl ⟨by rfl, ?_⟩) hh4 ?_
        · rintro w' hSS
          obtain ⟨⟨hbx, hc1⟩, -⟩ := hSS
          go_simp
        simp only [Act.put, List.setIfInBounds_toArray, List.set_cons_zero, List.set_cons_succ]
        refine wpAnyH_take (fuel := 6) (i := 41) (oi := ⟨some 143, _, _, _, _, _⟩) (v := .pointer (some ⟨c, 0, none⟩)) rfl (by kernel_rfl) (by kernel_rfl) (by kernel_rfl) (fun _ _ _ h => h) (Or.inl ⟨by rfl, ?_⟩) hh4 ?_
        · rintro w' hSS
          obtain ⟨⟨hbx, hc1⟩, -⟩ := hSS
          go_simp
        simp only [Act.put, List.setIfInBounds_toArray, List.set_cons_zero, List.set_cons_succ]
        refine wpAnyH_take (fuel := 5) (i := 42) (oi := ⟨some 144, _, _, _, _, _⟩) (v := .pointer (some ⟨ka, 1, none⟩)) rfl (by kernel_rfl) (by kernel_rfl) (by kernel_rfl) (fun _ _ _ h => h) (Or.inl ⟨by rfl, ?_⟩) hh4 ?_
        · rintro w' hSS
          obtain ⟨⟨hbx, hc1⟩, -⟩ := hSS
          go_simp
        simp only [Act.put, List.setIfInBounds_toArray, List.set_cons_zero, List.set_cons_succ]
        refine wpAnyH_take (fuel := 4) (i := 43) (oi := ⟨some 145, _, _, _, _, _⟩) (v := .int .i64 z.n) rfl (by kernel_rfl) (by kernel_rfl) (by kernel_rfl) (fun _ _ _ h => h) (Or.inl ⟨by rfl, ?_⟩) hh4 ?_
        · rintro w' hSS
          obtain ⟨⟨hbx, hc1⟩, -⟩ := hSS
          go_simp
        simp only [Act.put, List.setIfInBounds_toArray, List.set_cons_zero, List.set_cons_succ]
        refine wpAnyH_ready (fuel := 3) (rs := [40]) (by kernel_rfl) (by simp) ?_
        refine AllReadyH.cons (o := ⟨some 142, _, _, _, _, _⟩) rfl (fun P hP => ?_) AllReadyH.nil
        go_simp
        refine (HRDP.out V4 HW4.out).mono ?_
        rintro e V5 ⟨rfl, hb3⟩
        have HW5 := Lib.hid (bstep HW4.out hb3)
        clear hb3
        show P _ _
        refine hP.out _ _ (HS.out _ HW5.out) (fun hh5 => ?_)
        clear hP P hh4
        try simp only [Act.put, List.setIfInBounds_toArray, List.set_cons_zero, List.set_cons_succ]
        refine wpAnyH_ready (fuel := 2) (rs := [44]) (by kernel_rfl) (by simp) ?_
        refine AllReadyH.cons (o := ⟨some 146, _, _, _, _, _⟩) rfl (fun P hP => ?_) AllReadyH.nil
        go_simp
        refine (HRDR.out V5 HW5.out).mono ?_
        rintro e V6 ⟨rfl, hb3⟩
        have HW6 := Lib.hid (bstep HW5.out hb3)
        clear hb3
        show P _ _
        refine hP.out _ _ (HS.out _ HW6.out) (fun hh6 => ?_)
        clear hP P hh5
        try simp only [Act.put, List.setIfInBounds_toArray, List.set_cons_zero, List.set_cons_succ]
        refine wpAnyH_take (fuel := 1) (i := 45) (oi := ⟨some 147, _, _, _, _, _⟩) (v := .bool false) rfl (by kernel_rfl) (by kernel_rfl) (by kernel_rfl) (fun _ _ _ h => h) (Or.inl ⟨by rfl, ?_⟩) hh6 ?_
        · rintro w' hSS
          obtain ⟨⟨hbx, hc1⟩, -⟩ := hSS
          go_simp
        simp only [Act.put, List.setIfInBounds_toArray, List.set_cons_zero, List.set_cons_succ]
        refine wpAnyH_take (fuel := 0) (i := 46) (oi := ⟨some 148, _, _, _, _, _⟩) (v := .bool false) rfl (by kernel_rfl) (by kernel_rfl) (by kernel_rfl) (fun _ _ _ h => h) (Or.inl ⟨by rfl, ?_⟩) hh6 ?_
        · rintro w' hSS
          obtain ⟨⟨hbx, hc1⟩, -⟩ := hSS
          go_simp
        simp only [Act.put, List.setIfInBounds_toArray, List.set_cons_zero, List.set_cons_succ]
        refine wpAnyH_done (by kernel_rfl) ?_ _
        refine NoPanic.normal ?_
        clear hh6
        have H7 := Lib.hid (H6.out.step HW6.out)
        have HROW7 := Lib.hid (fun (W : World) (hW : Below V6.heap.size V6 W) => HROW.out W (bstep HW6.out hW))
        clear H6 HS HLIST HLEFT HRDP HRDR HROW hq hw1 HNF0 HW0 HW1 HW2 HW3 HW4 HW5 HW6
        generalize V6 = w8 at *
        as_aux_lemma =>
        rcases at_cases R z.n with ho | ⟨i, u, hzi, hu⟩
        · have ho' : z.n < 0 ∨ ((M.length : Nat) : Int) ≤ z.n := by
            rw [← HRM.out, List.length_map]
            exact ho
          have HG := Lib.hid (getP_out ho')
          have hha : hasP M z.n = false := by rw [← HRM.out]; exact has_out ho
          have HHA := Lib.hid hha
          have hca := H7.out.cells (n := ka) (cs := ocells z) (List.mem_cons_of_mem _ (List.mem_cons_of_mem _ (List.mem_cons_self ..)))
          have c10 : w8.cell? ⟨ka, 1, none⟩ = some (.int .i64 z.n) := hca 1
          obtain ⟨X, hX, -⟩ := H7.out.left
          have HX := Lib.hid hX
          clear ho ho' hha hca hX
          go_wp2_with fail
          refine (HX.out.getQ z.n HG.out).mono ?_
          rintro e w9 ⟨a, rfl, ha, hma, hb9⟩
          have H8 := Lib.hid ((H7.out.step hb9).addRow zec (ecells a) 57)
          have HB10 := Lib.hid (below_box w9 (.cells zec 57) (ecells a))
          have HMA := Lib.hid (hma.step HB10.out)
          have HAE := Lib.hid ha
          clear hb9 H7 HX hma ha HG HB10 c10
          go_wp2_with (first
            | ((with_reducible refine wpList_store_row (o := ⟨none, _, _, _, _, _⟩) rfl 57 (.tmp 17) (.tmp 154) rfl w9.heap.size (ecells a) ?sx ?sy 57 ?old ?sg ?si ?so ?s1 ?_); (case sx => rfl); (case sy => rfl); (case old => exact zec); (case sg => exact heap_alloc_new w9 _); (case si => kernel_rfl); (case so => rfl); (case s1 => kernel_rfl); generalize (w9.alloc (.cells zec 57)).setRow w9.heap.size (ecells a) = w10 at *; generalize w9.heap.size = kd at *)
            | fail)
          have HS2 : Hid (∀ W, Below w10.heap.size w10 W → W.cell? ⟨ka, 1, none⟩ = some (.int .i64 z.n) ∧ W.rangeAt kd 0 (ecells a).toList) := Lib.hid (fun W hW => ⟨(H8.out.step hW).cells (n := ka) (cs := ocells z) (List.mem_cons_of_mem _ (List.mem_cons_of_mem _ (List.mem_cons_of_mem _ (List.mem_cons_self ..)))) 1, box_range ((H8.out.step hW).cells (List.mem_cons_self ..))⟩)
          have HHAS : Hid (∀ W, Below w10.heap.size w10 W → Calls Try.prog 23 #[.pointer (some ⟨c, 0, none⟩), .int .i64 z.n] W fun e W' => e = .returned (.bool false) ∧ Below W.heap.size W W') := Lib.hid (fun W hW => by
            obtain ⟨X, h1, -⟩ := (H8.out.step hW).right
            exact h1.hasR z.n HHA.out)
          have HONE : Hid (∀ W, Below w10.heap.size w10 W → Calls Try.prog 24 #[.agg (ecells a), .agg zec] W fun e W' => e = .returned (.bool true) ∧ Below W.heap.size W W') := Lib.hid (fun W hW => by
            have hal : a.l = [] := by
              have e : a.pl.l = a.l := rfl
              rw [← e, HAE.out]
              rfl
            have h1 := one_any a e0 W (by rw [hal]; simp) (by rw [hal]; exact MIn.nil _ _) (MIn.nil _ _)
            have e2 : decide (a.pl = e0.pl) = true := by rw [HAE.out]; rfl
            rw [e2] at h1
            exact h1)
          clear HMA HAE HHA HROW7 HRF HRM
          refine wp_region_noPanic ?_
          refine wp_region_held_drew (S := fun w' => w'.cell? ⟨ka, 1, none⟩ = some (.int .i64 z.n) ∧ w'.rangeAt kd 0 (ecells a).toList) (by kernel_rfl) (HS2.out _ (Below.refl _ _).drew) (fun hh0 => ?_)
          have HW0 := Lib.hid ((Below.refl w10.heap.size w10).drew)
          generalize World.drew w10 = V0 at *
          refine wpAnyH_take (fuel := 31) (i := 0) (oi := ⟨some 156, _, _, _, _, _⟩) (v := .bool false) rfl (by kernel_rfl) (by kernel_rfl) (by kernel_rfl) (fun _ _ _ h => h) (Or.inl ⟨by rfl, ?_⟩) hh0 ?_
          · rintro w' hSS
            obtain ⟨hbx, -⟩ := hSS
            go_simp
          simp only [Act.put, List.setIfInBounds_toArray, List.set_cons_zero, List.set_cons_succ]
          refine wpAnyH_take (fuel := 30) (i := 1) (oi := ⟨some 157, _, _, _, _, _⟩) (v := .pointer (some ⟨c, 0, none⟩)) rfl (by kernel_rfl) (by kernel_rfl) (by kernel_rfl) (fun _ _ _ h => h) (Or.inl ⟨by rfl, ?_⟩) hh0 ?_
          · rintro w' hSS
            obtain ⟨hbx, -⟩ := hSS
            go_simp
          simp only [Act.put, List.setIfInBounds_toArray, List.set_cons_zero, List.set_cons_succ]
          refine wpAnyH_take (fuel := 29) (i := 2) (oi := ⟨some 158, _, _, _, _, _⟩) (v := .pointer (some ⟨ka, 1, none⟩)) rfl (by kernel_rfl) (by kernel_rfl) (by kernel_rfl) (fun _ _ _ h => h) (Or.inl ⟨by rfl, ?_⟩) hh0 ?_
          · rintro w' hSS
            obtain ⟨hbx, -⟩ := hSS
            go_simp
          simp only [Act.put, List.setIfInBounds_toArray, List.set_cons_zero, List.set_cons_succ]
          refine wpAnyH_take (fuel := 28) (i := 3) (oi := ⟨some 159, _, _, _, _, _⟩) (v := .int .i64 z.n) rfl (by kernel_rfl) (by kernel_rfl) (by kernel_rfl) (fun _ _ _ h => h) (Or.inl ⟨by rfl, ?_⟩) hh0 ?_
          · rintro w' hSS
            obtain ⟨hbx, -⟩ := hSS
            go_simp
          simp only [Act.put, List.setIfInBounds_toArray, List.set_cons_zero, List.set_cons_succ]
          refine wpAnyH_ready (fuel := 27) (rs := [4]) (by kernel_rfl) (by simp) ?_
          refine AllReadyH.cons (o := ⟨some 160, _, _, _, _, _⟩) rfl (fun P hP => ?_) AllReadyH.nil
          go_simp
          refine (HHAS.out V0 HW0.out).mono ?_
          rintro e V1 ⟨rfl, hb3⟩
          have HW1 := Lib.hid (bstep HW0.out hb3)
          clear hb3
          show P _ _
          refine hP.out _ _ (HS2.out _ HW1.out) (fun hh1 => ?_)
          clear hP P hh0
          try simp only [Act.put, List.setIfInBounds_toArray, List.set_cons_zero, List.set_cons_succ]
          refine wpAnyH_take (fuel := 26) (i := 5) (oi := ⟨some 161, _, _, _, _, _⟩) (v := .bool false) rfl (by kernel_rfl) (by kernel_rfl) (by kernel_rfl) (fun _ _ _ h => h) (Or.inl ⟨by rfl, ?_⟩) hh1 ?_
          · rintro w' hSS
            obtain ⟨hbx, -⟩ := hSS
            go_simp
          simp only [Act.put, List.setIfInBounds_toArray, List.set_cons_zero, List.set_cons_succ]
          refine wpAnyH_take (fuel := 25) (i := 6) (oi := ⟨some 162, _, _, _, _, _⟩) (v := .bool false) rfl (by kernel_rfl) (by kernel_rfl) (by kernel_rfl) (fun _ _ _ h => h) (Or.inl ⟨by rfl, ?_⟩) hh1 ?_
          · rintro w' hSS
            obtain ⟨hbx, -⟩ := hSS
            go_simp
          simp only [Act.put, List.setIfInBounds_toArray, List.set_cons_zero, List.set_cons_succ]
          refine wpAnyH_take (fuel := 24) (i := 7) (oi := ⟨some 163, _, _, _, _, _⟩) (v := .bool false) rfl (by kernel_rfl) (by kernel_rfl) (by kernel_rfl) (fun _ _ _ h => h) (Or.inl ⟨by rfl, ?_⟩) hh1 ?_
          · rintro w' hSS
            obtain ⟨hbx, -⟩ := hSS
            go_simp
          simp only [Act.put, List.setIfInBounds_toArray, List.set_cons_zero, List.set_cons_succ]
          refine wpAnyH_take (fuel := 23) (i := 8) (oi := ⟨some 164, _, _, _, _, _⟩) (v := .bool false) rfl (by kernel_rfl) (by kernel_rfl) (by kernel_rfl) (fun _ _ _ h => h) (Or.inl ⟨by rfl, ?_⟩) hh1 ?_
          · rintro w' hSS
            obtain ⟨hbx, -⟩ := hSS
            go_simp
          simp only [Act.put, List.setIfInBounds_toArray, List.set_cons_zero, List.set_cons_succ]
          refine wpAnyH_take (fuel := 22) (i := 9) (oi := ⟨some 165, _, _, _, _, _⟩) (v := undef) rfl (by kernel_rfl) (by kernel_rfl) (by kernel_rfl) (fun _ _ _ h => h) (Or.inr ⟨by rfl, rfl⟩) hh1 ?_
          simp only [Act.put, List.setIfInBounds_toArray, List.set_cons_zero, List.set_cons_succ]
          refine wpAnyH_take (fuel := 21) (i := 10) (oi := ⟨some 166, _, _, _, _, _⟩) (v := undef) rfl (by kernel_rfl) (by kernel_rfl) (by kernel_rfl) (fun _ _ _ h => h) (Or.inr ⟨by rfl, rfl⟩) hh1 ?_
          simp only [Act.put, List.setIfInBounds_toArray, List.set_cons_zero, List.set_cons_succ]
          refine wpAnyH_take (fuel := 20) (i := 11) (oi := ⟨some 167, _, _, _, _, _⟩) (v := undef) rfl (by kernel_rfl) (by kernel_rfl) (by kernel_rfl) (fun _ _ _ h => h) (Or.inr ⟨by rfl, rfl⟩) hh1 ?_
          simp only [Act.put, List.setIfInBounds_toArray, List.set_cons_zero, List.set_cons_succ]
          refine wpAnyH_take (fuel := 19) (i := 12) (oi := ⟨some 168, _, _, _, _, _⟩) (v := undef) rfl (by kernel_rfl) (by kernel_rfl) (by kernel_rfl) (fun _ _ _ h => h) (Or.inr ⟨by rfl, rfl⟩) hh1 ?_
          simp only [Act.put, List.setIfInBounds_toArray, List.set_cons_zero, List.set_cons_succ]
          refine wpAnyH_take (fuel := 18) (i := 13) (oi := ⟨some 169, _, _, _, _, _⟩) (v := undef) rfl (by kernel_rfl) (by kernel_rfl) (by kernel_rfl) (fun _ _ _ h => h) (Or.inr ⟨by rfl, rfl⟩) hh1 ?_
          simp only [Act.put, List.setIfInBounds_toArray, List.set_cons_zero, List.set_cons_succ]
          refine wpAnyH_take (fuel := 17) (i := 14) (oi := ⟨some 170, _, _, _, _, _⟩) (v := undef) rfl (by kernel_rfl) (by kernel_rfl) (by kernel_rfl) (fun _ _ _ h => h) (Or.inr ⟨by rfl, rfl⟩) hh1 ?_
          simp only [Act.put, List.setIfInBounds_toArray, List.set_cons_zero, List.set_cons_succ]
          refine wpAnyH_take (fuel := 16) (i := 15) (oi := ⟨some 171, _, _, _, _, _⟩) (v := undef) rfl (by kernel_rfl) (by kernel_rfl) (by kernel_rfl) (fun _ _ _ h => h) (Or.inr ⟨by rfl, rfl⟩) hh1 ?_
          simp only [Act.put, List.setIfInBounds_toArray, List.set_cons_zero, List.set_cons_succ]
          refine wpAnyH_take (fuel := 15) (i := 16) (oi := ⟨some 172, _, _, _, _, _⟩) (v := undef) rfl (by kernel_rfl) (by kernel_rfl) (by kernel_rfl) (fun _ _ _ h => h) (Or.inr ⟨by rfl, rfl⟩) hh1 ?_
          simp only [Act.put, List.setIfInBounds_toArray, List.set_cons_zero, List.set_cons_succ]
          refine wpAnyH_take (fuel := 14) (i := 17) (oi := ⟨some 173, _, _, _, _, _⟩) (v := undef) rfl (by kernel_rfl) (by kernel_rfl) (by kernel_rfl) (fun _ _ _ h => h) (Or.inr ⟨by rfl, rfl⟩) hh1 ?_
          simp only [Act.put, List.setIfInBounds_toArray, List.set_cons_zero, List.set_cons_succ]
          refine wpAnyH_take (fuel := 13) (i := 18) (oi := ⟨some 174, _, _, _, _, _⟩) (v := undef) rfl (by kernel_rfl) (by kernel_rfl) (by kernel_rfl) (fun _ _ _ h => h) (Or.inr ⟨by rfl, rfl⟩) hh1 ?_
          simp only [Act.put, List.setIfInBounds_toArray, List.set_cons_zero, List.set_cons_succ]
          refine wpAnyH_take (fuel := 12) (i := 19) (oi := ⟨some 175, _, _, _, _, _⟩) (v := undef) rfl (by kernel_rfl) (by kernel_rfl) (by kernel_rfl) (fun _ _ _ h => h) (Or.inr ⟨by rfl, rfl⟩) hh1 ?_
          simp only [Act.put, List.setIfInBounds_toArray, List.set_cons_zero, List.set_cons_succ]
          refine wpAnyH_take (fuel := 11) (i := 20) (oi := ⟨some 176, _, _, _, _, _⟩) (v := .bool false) rfl (by kernel_rfl) (by kernel_rfl) (by kernel_rfl) (fun _ _ _ h => h) (Or.inl ⟨by rfl, ?_⟩) hh1 ?_
          · rintro w' hSS
            obtain ⟨hbx, -⟩ := hSS
            go_simp
          simp only [Act.put, List.setIfInBounds_toArray, List.set_cons_zero, List.set_cons_succ]
          refine wpAnyH_take (fuel := 10) (i := 21) (oi := ⟨some 177, _, _, _, _, _⟩) (v := .bool false) rfl (by kernel_rfl) (by kernel_rfl) (by kernel_rfl) (fun _ _ _ h => h) (Or.inl ⟨by rfl, ?_⟩) hh1 ?_
          · rintro w' hSS
            obtain ⟨hbx, -⟩ := hSS
            go_simp
          simp only [Act.put, List.setIfInBounds_toArray, List.set_cons_zero, List.set_cons_succ]
          refine wpAnyH_take (fuel := 9) (i := 22) (oi := ⟨some 178, _, _, _, _, _⟩) (v := .bool false) rfl (by kernel_rfl) (by kernel_rfl) (by kernel_rfl) (fun _ _ _ h => h) (Or.inl ⟨by rfl, ?_⟩) hh1 ?_
          · rintro w' hSS
            obtain ⟨hbx, -⟩ := hSS
            go_simp
          simp only [Act.put, List.setIfInBounds_toArray, List.set_cons_zero, List.set_cons_succ]
          refine wpAnyH_take (fuel := 8) (i := 23) (oi := ⟨some 179, _, _, _, _, _⟩) (v := .bool false) rfl (by kernel_rfl) (by kernel_rfl) (by kernel_rfl) (fun _ _ _ h => h) (Or.inl ⟨by rfl, ?_⟩) hh1 ?_
          · rintro w' hSS
            obtain ⟨hbx, -⟩ := hSS
            go_simp
          simp only [Act.put, List.setIfInBounds_toArray, List.set_cons_zero, List.set_cons_succ]
          refine wpAnyH_take (fuel := 7) (i := 24) (oi := ⟨some 180, _, _, _, _, _⟩) (v := .bool true) rfl (by kernel_rfl) (by kernel_rfl) (by kernel_rfl) (fun _ _ _ h => h) (Or.inl ⟨by rfl, ?_⟩) hh1 ?_
          · rintro w' hSS
            obtain ⟨hbx, -⟩ := hSS
            go_simp
          simp only [Act.put, List.setIfInBounds_toArray, List.set_cons_zero, List.set_cons_succ]
          refine wpAnyH_take (fuel := 6) (i := 25) (oi := ⟨some 181, _, _, _, _, _⟩) (v := .bool true) rfl (by kernel_rfl) (by kernel_rfl) (by kernel_rfl) (fun _ _ _ h => h) (Or.inl ⟨by rfl, ?_⟩) hh1 ?_
          · rintro w' hSS
            obtain ⟨hbx, -⟩ := hSS
            go_simp
          simp only [Act.put, List.setIfInBounds_toArray, List.set_cons_zero, List.set_cons_succ]
          refine wpAnyH_take (fuel := 5) (i := 26) (oi := ⟨some 182, _, _, _, _, _⟩) (v := .agg (ecells a)) rfl (by kernel_rfl) (by kernel_rfl) (by kernel_rfl) (fun _ _ _ h => h) (yields_at (by rfl) 57 (.tmp 17) rfl kd 0 rfl (ecells a) _ (fun w' h => h.2) Try.underlying57 rfl (by kernel_rfl)) hh1 ?_
          simp only [Act.put, List.setIfInBounds_toArray, List.set_cons_zero, List.set_cons_succ]
          refine wpAnyH_take (fuel := 4) (i := 27) (oi := ⟨some 183, _, _, _, _, _⟩) (v := .agg zec) rfl (by kernel_rfl) (by kernel_rfl) (by kernel_rfl) (fun _ _ _ h => h) (Or.inl ⟨by rfl, ?_⟩) hh1 ?_
          · rintro w' hSS
            obtain ⟨hbx, -⟩ := hSS
            go_simp
          simp only [Act.put, List.setIfInBounds_toArray, List.set_cons_zero, List.set_cons_succ]
          refine wpAnyH_ready (fuel := 3) (rs := [28]) (by kernel_rfl) (by simp) ?_
          refine AllReadyH.cons (o := ⟨some 184, _, _, _, _, _⟩) rfl (fun P hP => ?_) AllReadyH.nil
          go_simp
          refine (HONE.out V1 HW1.out).mono ?_
          rintro e V2 ⟨rfl, hb3⟩
          have HW2 := Lib.hid (bstep HW1.out hb3)
          clear hb3
          show P _ _
          refine hP.out _ _ (HS2.out _ HW2.out) (fun hh2 => ?_)
          clear hP P hh1
          try simp only [Act.put, List.setIfInBounds_toArray, List.set_cons_zero, List.set_cons_succ]
          refine wpAnyH_take (fuel := 2) (i := 29) (oi := ⟨some 185, _, _, _, _, _⟩) (v := .bool false) rfl (by kernel_rfl) (by kernel_rfl) (by kernel_rfl) (fun _ _ _ h => h) (Or.inl ⟨by rfl, ?_⟩) hh2 ?_
          · rintro w' hSS
            obtain ⟨hbx, -⟩ := hSS
            go_simp
          simp only [Act.put, List.setIfInBounds_toArray, List.set_cons_zero, List.set_cons_succ]
          refine wpAnyH_take (fuel := 1) (i := 30) (oi := ⟨some 186, _, _, _, _, _⟩) (v := .bool false) rfl (by kernel_rfl) (by kernel_rfl) (by kernel_rfl) (fun _ _ _ h => h) (Or.inl ⟨by rfl, ?_⟩) hh2 ?_
          · rintro w' hSS
            obtain ⟨hbx, -⟩ := hSS
            go_simp
          simp only [Act.put, List.setIfInBounds_toArray, List.set_cons_zero, List.set_cons_succ]
          refine wpAnyH_take (fuel := 0) (i := 31) (oi := ⟨some 187, _, _, _, _, _⟩) (v := .bool false) rfl (by kernel_rfl) (by kernel_rfl) (by kernel_rfl) (fun _ _ _ h => h) (Or.inl ⟨by rfl, ?_⟩) hh2 ?_
          · rintro w' hSS
            obtain ⟨hbx, -⟩ := hSS
            go_simp
          simp only [Act.put, List.setIfInBounds_toArray, List.set_cons_zero, List.set_cons_succ]
          refine wpAnyH_done (by kernel_rfl) ?_ _
          refine NoPanic.normal ?_
          clear hh2
          have H9 := Lib.hid (H8.out.step HW2.out).drop.drop.drop.drop
          clear H8 HS2 HHAS HONE HW0 HW1 HW2
          generalize V2 = w11 at *
          go_wp2_with fail
          go_roundw
          case rel => exact ⟨k + 1, M, by omega, by go_num, H9.out⟩
          case measure => simp [intOf]; omega
        · have hi := (List.getElem?_eq_some_iff.1 hu).1
          have HG : Hid (getP M (i : Int) = (u.pl, true)) := Lib.hid (by rw [← HRM.out]; exact getP_at (pl_at hu))
          have HHA : Hid (hasP M (i : Int) = true) := Lib.hid (by rw [← HRM.out]; exact has_in hi)
          have hca := H7.out.cells (n := ka) (cs := ocells z) (List.mem_cons_of_mem _ (List.mem_cons_of_mem _ (List.mem_cons_self ..)))
          have HZI := Lib.hid hzi
          have c10 : w8.cell? ⟨ka, 1, none⟩ = some (.int .i64 (i : Int)) := (hca 1).trans (by rw [← hzi]; rfl)
          obtain ⟨⟨g4, o4, rfl, hg4, hr4⟩, hmu⟩ := (HROW7.out w8 (Below.refl _ _)).2.at hu
          have HR4 := Lib.hid hr4
          have HMU := Lib.hid hmu
          have HUL := Lib.hid (HRF.out u (List.mem_of_getElem? hu))
          obtain ⟨X, hX, -⟩ := H7.out.left
          have HX := Lib.hid hX
          clear hca hX hr4 hmu hu hzi
          go_wp2_with fail
          refine (HX.out.getQ (i : Int) HG.out).mono ?_
          rintro e w9 ⟨a, rfl, ha, hma, hb9⟩
          have H8 := Lib.hid ((H7.out.step hb9).addRow zec (ecells a) 57)
          have HB10 := Lib.hid (below_box w9 (.cells zec 57) (ecells a))
          have HMA := Lib.hid (hma.step HB10.out)
          have HB8 := Lib.hid (bstep hb9 HB10.out)
          have HAE := Lib.hid ha
          clear hb9 H7 HX hma ha HG HB10 c10
          go_wp2_with (first
            | ((with_reducible refine wpList_store_row (o := ⟨none, _, _, _, _, _⟩) rfl 57 (.tmp 17) (.tmp 154) rfl w9.heap.size (ecells a) ?sx ?sy 57 ?old ?sg ?si ?so ?s1 ?_); (case sx => rfl); (case sy => rfl); (case old => exact zec); (case sg => exact heap_alloc_new w9 _); (case si => kernel_rfl); (case so => rfl); (case s1 => kernel_rfl); generalize (w9.alloc (.cells zec 57)).setRow w9.heap.size (ecells a) = w10 at *; generalize w9.heap.size = kd at *)
            | fail)
          have HS2 : Hid (∀ W, Below w10.heap.size w10 W → (W.cell? ⟨ka, 1, none⟩ = some (.int .i64 (i : Int)) ∧ W.cell? ⟨c, 1, none⟩ = some (.slice (some ⟨g4, o4, none⟩) R.length cap4)) ∧ W.rangeAt kd 0 (ecells a).toList ∧ W.rangeAt g4 (o4 + i * 17) (ecells u).toList) := Lib.hid (fun W hW => ⟨⟨((H8.out.step hW).cells (n := ka) (cs := ocells z) (List.mem_cons_of_mem _ (List.mem_cons_of_mem _ (List.mem_cons_of_mem _ (List.mem_cons_self ..)))) 1).trans (by rw [← HZI.out]; rfl), (HROW7.out W (bstep HB8.out hW)).1⟩, box_range ((H8.out.step hW).cells (List.mem_cons_self ..)), fun j v hv => ((bstep HB8.out hW).cell (p := ⟨g4, o4 + i * 17 + j, none⟩) hg4).trans (HR4.out j v hv)⟩)
          have HHAS : Hid (∀ W, Below w10.heap.size w10 W → Calls Try.prog 23 #[.pointer (some ⟨c, 0, none⟩), .int .i64 (i : Int)] W fun e W' => e = .returned (.bool true) ∧ Below W.heap.size W W') := Lib.hid (fun W hW => by
            obtain ⟨X, h1, -⟩ := (H8.out.step hW).right
            exact h1.hasR (i : Int) HHA.out)
          have HONE : Hid (∀ W, Below w10.heap.size w10 W → Calls Try.prog 24 #[.agg (ecells a), .agg (ecells u)] W fun e W' => e = .returned (.bool true) ∧ Below W.heap.size W W') := Lib.hid (fun W hW => by
            have hal : a.l = u.l := by
              have e : a.pl.l = a.l := rfl
              rw [← e, HAE.out]
              rfl
            have h1 := one_any a u W (by rw [hal]; exact HUL.out) (HMA.out.step hW) (HMU.out.step (bstep HB8.out hW))
            have e2 : decide (a.pl = u.pl) = true := by rw [HAE.out]; simp
            rw [e2] at h1
            exact h1)
          have hiR : (i : Int) < (R.length : Int) := by omega
          clear HMA HAE HHA HROW7 HRF HRM HUL HMU HR4 HB8
          refine wp_region_noPanic ?_
          refine wp_region_held_drew (S := fun w' => (w'.cell? ⟨ka, 1, none⟩ = some (.int .i64 (i : Int)) ∧ w'.cell? ⟨c, 1, none⟩ = some (.slice (some ⟨g4, o4, none⟩) R.length cap4)) ∧ w'.rangeAt kd 0 (ecells a).toList ∧ w'.rangeAt g4 (o4 + i * 17) (ecells u).toList) (by kernel_rfl) (HS2.out _ (Below.refl _ _).drew) (fun hh0 => ?_)
          have HW0 := Lib.hid ((Below.refl w10.heap.size w10).drew)
          generalize World.drew w10 = V0 at *
          refine wpAnyH_take (fuel := 31) (i := 0) (oi := ⟨some 156, _, _, _, _, _⟩) (v := .bool true) rfl (by kernel_rfl) (by kernel_rfl) (by kernel_rfl) (fun _ _ _ h => h) (Or.inl ⟨by rfl, ?_⟩) hh0 ?_
          · rintro w' hSS
            obtain ⟨⟨hbx, hc1⟩, -⟩ := hSS
            go_simp
          simp only [Act.put, List.setIfInBounds_toArray, List.set_cons_zero, List.set_cons_succ]
          refine wpAnyH_take (fuel := 30) (i := 1) (oi := ⟨some 157, _, _, _, _, _⟩) (v := .pointer (some ⟨c, 0, none⟩)) rfl (by kernel_rfl) (by kernel_rfl) (by kernel_rfl) (fun _ _ _ h => h) (Or.inl ⟨by rfl, ?_⟩) hh0 ?_
          · rintro w' hSS
            obtain ⟨⟨hbx, hc1⟩, -⟩ := hSS
            go_simp
          simp only [Act.put, List.setIfInBounds_toArray, List.set_cons_zero, List.set_cons_succ]
          refine wpAnyH_take (fuel := 29) (i := 2) (oi := ⟨some 158, _, _, _, _, _⟩) (v := .pointer (some ⟨ka, 1, none⟩)) rfl (by kernel_rfl) (by kernel_rfl) (by kernel_rfl) (fun _ _ _ h => h) (Or.inl ⟨by rfl, ?_⟩) hh0 ?_
          · rintro w' hSS
            obtain ⟨⟨hbx, hc1⟩, -⟩ := hSS
            go_simp
          simp only [Act.put, List.setIfInBounds_toArray, List.set_cons_zero, List.set_cons_succ]
          refine wpAnyH_take (fuel := 28) (i := 3) (oi := ⟨some 159, _, _, _, _, _⟩) (v := .int .i64 (i : Int)) rfl (by kernel_rfl) (by kernel_rfl) (by kernel_rfl) (fun _ _ _ h => h) (Or.inl ⟨by rfl, ?_⟩) hh0 ?_
          · rintro w' hSS
            obtain ⟨⟨hbx, hc1⟩, -⟩ := hSS
            go_simp
          simp only [Act.put, List.setIfInBounds_toArray, List.set_cons_zero, List.set_cons_succ]
          refine wpAnyH_ready (fuel := 27) (rs := [4]) (by kernel_rfl) (by simp) ?_
          refine AllReadyH.cons (o := ⟨some 160, _, _, _, _, _⟩) rfl (fun P hP => ?_) AllReadyH.nil
          go_simp
          refine (HHAS.out V0 HW0.out).mono ?_
          rintro e V1 ⟨rfl, hb3⟩
          have HW1 := Lib.hid (bstep HW0.out hb3)
          clear hb3
          show P _ _
          refine hP.out _ _ (HS2.out _ HW1.out) (fun hh1 => ?_)
          clear hP P hh0
          try simp only [Act.put, List.setIfInBounds_toArray, List.set_cons_zero, List.set_cons_succ]
          refine wpAnyH_take (fuel := 26) (i := 5) (oi := ⟨some 161, _, _, _, _, _⟩) (v := .bool false) rfl (by kernel_rfl) (by kernel_rfl) (by kernel_rfl) (fun _ _ _ h => h) (Or.inl ⟨by rfl, ?_⟩) hh1 ?_
          · rintro w' hSS
            obtain ⟨⟨hbx, hc1⟩, -⟩ := hSS
            go_simp
          simp only [Act.put, List.setIfInBounds_toArray, List.set_cons_zero, List.set_cons_succ]
          refine wpAnyH_take (fuel := 25) (i := 6) (oi := ⟨some 162, _, _, _, _, _⟩) (v := .bool false) rfl (by kernel_rfl) (by kernel_rfl) (by kernel_rfl) (fun _ _ _ h => h) (Or.inl ⟨by rfl, ?_⟩) hh1 ?_
          · rintro w' hSS
            obtain ⟨⟨hbx, hc1⟩, -⟩ := hSS
            go_simp
          simp only [Act.put, List.setIfInBounds_toArray, List.set_cons_zero, List.set_cons_succ]
          refine wpAnyH_take (fuel := 24) (i := 7) (oi := ⟨some 163, _, _, _, _, _⟩) (v := .bool true) rfl (by kernel_rfl) (by kernel_rfl) (by kernel_rfl) (fun _ _ _ h => h) (Or.inl ⟨by rfl, ?_⟩) hh1 ?_
          · rintro w' hSS
            obtain ⟨⟨hbx, hc1⟩, -⟩ := hSS
            go_simp
          simp only [Act.put, List.setIfInBounds_toArray, List.set_cons_zero, List.set_cons_succ]
          refine wpAnyH_take (fuel := 23) (i := 8) (oi := ⟨some 164, _, _, _, _, _⟩) (v := .bool true) rfl (by kernel_rfl) (by kernel_rfl) (by kernel_rfl) (fun _ _ _ h => h) (Or.inl ⟨by rfl, ?_⟩) hh1 ?_
          · rintro w' hSS
            obtain ⟨⟨hbx, hc1⟩, -⟩ := hSS
            go_simp
          simp only [Act.put, List.setIfInBounds_toArray, List.set_cons_zero, List.set_cons_succ]
          refine wpAnyH_take (fuel := 22) (i := 9) (oi := ⟨some 165, _, _, _, _, _⟩) (v := .agg (ecells a)) rfl (by kernel_rfl) (by kernel_rfl) (by kernel_rfl) (fun _ _ _ h => h) (yields_at (by rfl) 57 (.tmp 17) rfl kd 0 rfl (ecells a) _ (fun w' h => h.2.1) Try.underlying57 rfl (by kernel_rfl)) hh1 ?_
          simp only [Act.put, List.setIfInBounds_toArray, List.set_cons_zero, List.set_cons_succ]
          refine wpAnyH_take (fuel := 21) (i := 10) (oi := ⟨some 166, _, _, _, _, _⟩) (v := .pointer (some ⟨c, 0, none⟩)) rfl (by kernel_rfl) (by kernel_rfl) (by kernel_rfl) (fun _ _ _ h => h) (Or.inl ⟨by rfl, ?_⟩) hh1 ?_
          · rintro w' hSS
            obtain ⟨⟨hbx, hc1⟩, -⟩ := hSS
            go_simp
          simp only [Act.put, List.setIfInBounds_toArray, List.set_cons_zero, List.set_cons_succ]
          refine wpAnyH_take (fuel := 20) (i := 11) (oi := ⟨some 167, _, _, _, _, _⟩) (v := .pointer (some ⟨c, 0, none⟩)) rfl (by kernel_rfl) (by kernel_rfl) (by kernel_rfl) (fun _ _ _ h => h) (Or.inl ⟨by rfl, ?_⟩) hh1 ?_
          · rintro w' hSS
            obtain ⟨⟨hbx, hc1⟩, -⟩ := hSS
            go_simp
          simp only [Act.put, List.setIfInBounds_toArray, List.set_cons_zero, List.set_cons_succ]
          refine wpAnyH_take (fuel := 19) (i := 12) (oi := ⟨some 168, _, _, _, _, _⟩) (v := .pointer (some ⟨c, 1, none⟩)) rfl (by kernel_rfl) (by kernel_rfl) (by kernel_rfl) (fun _ _ _ h => h) (Or.inl ⟨by rfl, ?_⟩) hh1 ?_
          · rintro w' hSS
            obtain ⟨⟨hbx, hc1⟩, -⟩ := hSS
            go_simp
          simp only [Act.put, List.setIfInBounds_toArray, List.set_cons_zero, List.set_cons_succ]
          refine wpAnyH_take (fuel := 18) (i := 13) (oi := ⟨some 169, _, _, _, _, _⟩) (v := .slice (some ⟨g4, o4, none⟩) R.length cap4) rfl (by kernel_rfl) (by kernel_rfl) (by kernel_rfl) (fun _ _ _ h => h) (Or.inl ⟨by rfl, ?_⟩) hh1 ?_
          · rintro w' hSS
            obtain ⟨⟨hbx, hc1⟩, -⟩ := hSS
            go_simp
          simp only [Act.put, List.setIfInBounds_toArray, List.set_cons_zero, List.set_cons_succ]
          refine wpAnyH_take (fuel := 17) (i := 14) (oi := ⟨some 170, _, _, _, _, _⟩) (v := .pointer (some ⟨ka, 1, none⟩)) rfl (by kernel_rfl) (by kernel_rfl) (by kernel_rfl) (fun _ _ _ h => h) (Or.inl ⟨by rfl, ?_⟩) hh1 ?_
          · rintro w' hSS
            obtain ⟨⟨hbx, hc1⟩, -⟩ := hSS
            go_simp
          simp only [Act.put, List.setIfInBounds_toArray, List.set_cons_zero, List.set_cons_succ]
          refine wpAnyH_take (fuel := 16) (i := 15) (oi := ⟨some 171, _, _, _, _, _⟩) (v := .int .i64 (i : Int)) rfl (by kernel_rfl) (by kernel_rfl) (by kernel_rfl) (fun _ _ _ h => h) (Or.inl ⟨by rfl, ?_⟩) hh1 ?_
          · rintro w' hSS
            obtain ⟨⟨hbx, hc1⟩, -⟩ := hSS
            go_simp
          simp only [Act.put, List.setIfInBounds_toArray, List.set_cons_zero, List.set_cons_succ]
          refine wpAnyH_take (fuel := 15) (i := 16) (oi := ⟨some 172, _, _, _, _, _⟩) (v := .pointer (some ⟨g4, o4 + i * 17, none⟩)) rfl (by kernel_rfl) (by kernel_rfl) (by kernel_rfl) (fun _ _ _ h => h) (Or.inl ⟨by rfl, ?_⟩) hh1 ?_
          · rintro w' hSS
            obtain ⟨⟨hbx, hc1⟩, -⟩ := hSS
            go_simp
          simp only [Act.put, List.setIfInBounds_toArray, List.set_cons_zero, List.set_cons_succ]
          refine wpAnyH_take (fuel := 14) (i := 17) (oi := ⟨some 173, _, _, _, _, _⟩) (v := .agg (ecells u)) rfl (by kernel_rfl) (by kernel_rfl) (by kernel_rfl) (fun _ _ _ h => h) (yields_at (by rfl) 61 (.tmp 172) rfl g4 (o4 + i * 17) rfl (ecells u) _ (fun w' h => h.2.2) Try.underlying61 rfl (by kernel_rfl)) hh1 ?_
          simp only [Act.put, List.setIfInBounds_toArray, List.set_cons_zero, List.set_cons_succ]
          refine wpAnyH_ready (fuel := 13) (rs := [18]) (by kernel_rfl) (by simp) ?_
          refine AllReadyH.cons (o := ⟨some 174, _, _, _, _, _⟩) rfl (fun P hP => ?_) AllReadyH.nil
          go_simp
          refine (HONE.out V1 HW1.out).mono ?_
          rintro e V2 ⟨rfl, hb3⟩
          have HW2 := Lib.hid (bstep HW1.out hb3)
          clear hb3
          show P _ _
          refine hP.out _ _ (HS2.out _ HW2.out) (fun hh2 => ?_)
          clear hP P hh1
          try simp only [Act.put, List.setIfInBounds_toArray, List.set_cons_zero, List.set_cons_succ]
          refine wpAnyH_take (fuel := 12) (i := 19) (oi := ⟨some 175, _, _, _, _, _⟩) (v := .bool false) rfl (by kernel_rfl) (by kernel_rfl) (by kernel_rfl) (fun _ _ _ h => h) (Or.inl ⟨by rfl, ?_⟩) hh2 ?_
          · rintro w' hSS
            obtain ⟨⟨hbx, hc1⟩, -⟩ := hSS
            go_simp
          simp only [Act.put, List.setIfInBounds_toArray, List.set_cons_zero, List.set_cons_succ]
          refine wpAnyH_take (fuel := 11) (i := 20) (oi := ⟨some 176, _, _, _, _, _⟩) (v := .bool false) rfl (by kernel_rfl) (by kernel_rfl) (by kernel_rfl) (fun _ _ _ h => h) (Or.inl ⟨by rfl, ?_⟩) hh2 ?_
          · rintro w' hSS
            obtain ⟨⟨hbx, hc1⟩, -⟩ := hSS
            go_simp
          simp only [Act.put, List.setIfInBounds_toArray, List.set_cons_zero, List.set_cons_succ]
          refine wpAnyH_take (fuel := 10) (i := 21) (oi := ⟨some 177, _, _, _, _, _⟩) (v := .bool false) rfl (by kernel_rfl) (by kernel_rfl) (by kernel_rfl) (fun _ _ _ h => h) (Or.inl ⟨by rfl, ?_⟩) hh2 ?_
          · rintro w' hSS
            obtain ⟨⟨hbx, hc1⟩, -⟩ := hSS
            go_simp
          simp only [Act.put, List.setIfInBounds_toArray, List.set_cons_zero, List.set_cons_succ]
          refine wpAnyH_take (fuel := 9) (i := 22) (oi := ⟨some 178, _, _, _, _, _⟩) (v := .bool false) rfl (by kernel_rfl) (by kernel_rfl) (by kernel_rfl) (fun _ _ _ h => h) (Or.inl ⟨by rfl, ?_⟩) hh2 ?_
          · rintro w' hSS
            obtain ⟨⟨hbx, hc1⟩, -⟩ := hSS
            go_simp
          simp only [Act.put, List.setIfInBounds_toArray, List.set_cons_zero, List.set_cons_succ]
          refine wpAnyH_take (fuel := 8) (i := 23) (oi := ⟨some 179, _, _, _, _, _⟩) (v := .bool true) rfl (by kernel_rfl) (by kernel_rfl) (by kernel_rfl) (fun _ _ _ h => h) (Or.inl ⟨by rfl, ?_⟩) hh2 ?_
          · rintro w' hSS
            obtain ⟨⟨hbx, hc1⟩, -⟩ := hSS
            go_simp
          simp only [Act.put, List.setIfInBounds_toArray, List.set_cons_zero, List.set_cons_succ]
          refine wpAnyH_take (fuel := 7) (i := 24) (oi := ⟨some 180, _, _, _, _, _⟩) (v := .bool false) rfl (by kernel_rfl) (by kernel_rfl) (by kernel_rfl) (fun _ _ _ h => h) (Or.inl ⟨by rfl, ?_⟩) hh2 ?_
          · rintro w' hSS
            obtain ⟨⟨hbx, hc1⟩, -⟩ := hSS
            go_simp
          simp only [Act.put, List.setIfInBounds_toArray, List.set_cons_zero, List.set_cons_succ]
          refine wpAnyH_take (fuel := 6) (i := 25) (oi := ⟨some 181, _, _, _, _, _⟩) (v := .bool false) rfl (by kernel_rfl) (by kernel_rfl) (by kernel_rfl) (fun _ _ _ h => h) (Or.inl ⟨by rfl, ?_⟩) hh2 ?_
          · rintro w' hSS
            obtain ⟨⟨hbx, hc1⟩, -⟩ := hSS
            go_simp
          simp only [Act.put, List.setIfInBounds_toArray, List.set_cons_zero, List.set_cons_succ]
          refine wpAnyH_take (fuel := 5) (i := 26) (oi := ⟨some 182, _, _, _, _, _⟩) (v := undef) rfl (by kernel_rfl) (by kernel_rfl) (by kernel_rfl) (fun _ _ _ h => h) (Or.inr ⟨by rfl, rfl⟩) hh2 ?_
          simp only [Act.put, List.setIfInBounds_toArray, List.set_cons_zero, List.set_cons_succ]
          refine wpAnyH_take (fuel := 4) (i := 27) (oi := ⟨some 183, _, _, _, _, _⟩) (v := undef) rfl (by kernel_rfl) (by kernel_rfl) (by kernel_rfl) (fun _ _ _ h => h) (Or.inr ⟨by rfl, rfl⟩) hh2 ?_
          simp only [Act.put, List.setIfInBounds_toArray, List.set_cons_zero, List.set_cons_succ]
          refine wpAnyH_take (fuel := 3) (i := 28) (oi := ⟨some 184, _, _, _, _, _⟩) (v := undef) rfl (by kernel_rfl) (by kernel_rfl) (by kernel_rfl) (fun _ _ _ h => h) (Or.inr ⟨by rfl, rfl⟩) hh2 ?_
          simp only [Act.put, List.setIfInBounds_toArray, List.set_cons_zero, List.set_cons_succ]
          refine wpAnyH_take (fuel := 2) (i := 29) (oi := ⟨some 185, _, _, _, _, _⟩) (v := undef) rfl (by kernel_rfl) (by kernel_rfl) (by kernel_rfl) (fun _ _ _ h => h) (Or.inr ⟨by rfl, rfl⟩) hh2 ?_
          simp only [Act.put, List.setIfInBounds_toArray, List.set_cons_zero, List.set_cons_succ]
          refine wpAnyH_take (fuel := 1) (i := 30) (oi := ⟨some 186, _, _, _, _, _⟩) (v := .bool false) rfl (by kernel_rfl) (by kernel_rfl) (by kernel_rfl) (fun _ _ _ h => h) (Or.inl ⟨by rfl, ?_⟩) hh2 ?_
          · rintro w' hSS
            obtain ⟨⟨hbx, hc1⟩, -⟩ := hSS
            go_simp
          simp only [Act.put, List.setIfInBounds_toArray, List.set_cons_zero, List.set_cons_succ]
          refine wpAnyH_take (fuel := 0) (i := 31) (oi := ⟨some 187, _, _, _, _, _⟩) (v := .bool false) rfl (by kernel_rfl) (by kernel_rfl) (by kernel_rfl) (fun _ _ _ h => h) (Or.inl ⟨by rfl, ?_⟩) hh2 ?_
          · rintro w' hSS
            obtain ⟨⟨hbx, hc1⟩, -⟩ := hSS
            go_simp
          simp only [Act.put, List.setIfInBounds_toArray, List.set_cons_zero, List.set_cons_succ]
          refine wpAnyH_done (by kernel_rfl) ?_ _
          refine NoPanic.normal ?_
          clear hh2
          have H9 := Lib.hid (H8.out.step HW2.out).drop.drop.drop.drop
          clear H8 HS2 HHAS HONE HW0 HW1 HW2
          generalize V2 = w11 at *
          go_wp2_with fail
          go_roundw
          case rel => exact ⟨k + 1, M, by omega, by go_num, H9.out⟩
          case measure => simp [intOf]; omega
    · clear HL HQ hn60
      have HB1 := Lib.hid H1.out.bl
      go_wp2
      go_ret
      exact ⟨rfl, HB1.out⟩

end Go.Proofs.Ytnpbbkiojoafbaa
