/-
  CacheFills is true: the walk.
-/
import Derived.Test.YtlfhkjjjocmpbaaGreatDoorCcT
import Derived.Test.YtlfhkjjjocmpbaaGreatDoorCcP
import Derived.Test.YtlfhkjjjocmpbaaGreatDoorCcXa
namespace Go.Proofs.YtlfhkjjjocmpbaaGreatDoor.Cc
open Go Go.RowKit

variable {w w1 w' : World} {bx : Bx} {K : Kb} {c : Cfg} {core n : Int} {s : St}
set_option maxRecDepth 100000 in
set_option maxHeartbeats 4000000 in
theorem fills_long (c : Cfg) (core : Int) (q : Option Addr) (cap : Nat) (l : List Stp) (line v v2 ahead : Int) (w : World) (hT : Tb w) (h : 60 < l.length) : Calls Tryz.prog 6 #[cv c, .int .i64 core, .slice q l.length cap, .int .i64 line, .agg #[.int .i64 v, .int .i64 v2], .int .i64 ahead] w fun e w' => e = .returned (.bool true) ∧ Below w.heap.size w w' := by
  have HS0 := Lib.hid (sp_two w (.cells (ccells c) 24) (.cells #[.int .i64 v, .int .i64 v2] 87))
  have HAw := Lib.hid (awake_any ((w.alloc (.cells (ccells c) 24)).alloc (.cells #[.int .i64 v, .int .i64 v2] 87)) (hT.keeps HS0.out.bl))
  have g1 : (60 : Int) < l.length := by omega
  clear hT h
  go_enter Tryz.func6, Tryz.ntmps6
  go_wp2_with fail
  refine HAw.out.mono ?_
  rintro e w1 ⟨rfl, hb1⟩
  have HS1 := Lib.hid (HS0.out.step hb1)
  clear hb1
  go_wp2
  go_ret
  exact ⟨rfl, HS1.out.bl⟩
set_option maxRecDepth 100000 in
set_option maxHeartbeats 4000000 in
theorem fills_large (c : Cfg) (core : Int) (q : Option Addr) (cap : Nat) (l : List Stp) (line v v2 ahead : Int) (w : World) (hT : Tb w) (h : l.length ≤ 60) (hl : largeB c = true) : Calls Tryz.prog 6 #[cv c, .int .i64 core, .slice q l.length cap, .int .i64 line, .agg #[.int .i64 v, .int .i64 v2], .int .i64 ahead] w fun e w' => e = .returned (.bool true) ∧ Below w.heap.size w w' := by
  have HS0 := Lib.hid (sp_two w (.cells (ccells c) 24) (.cells #[.int .i64 v, .int .i64 v2] 87))
  have HAw := Lib.hid (awake_any ((w.alloc (.cells (ccells c) 24)).alloc (.cells #[.int .i64 v, .int .i64 v2] 87)) (hT.keeps HS0.out.bl))
  have g1 : ¬ (60 : Int) < l.length := by omega
  have HL := Lib.hid (large_any c)
  rw [hl] at HL
  clear hT h hl
  go_enter Tryz.func6, Tryz.ntmps6
  go_wp2_with fail
  refine HAw.out.mono ?_
  rintro e w1 ⟨rfl, hb1⟩
  have HS1 := Lib.hid (HS0.out.step hb1)
  clear hb1
  have hcc := c_cell (HS1.out.ok (w.heap.size, (.cells (ccells c) 24)) (by simp)).1
  go_wp2_with fail
  refine (HL.out _).mono ?_
  rintro e w2 ⟨rfl, hb2⟩
  have HS2 := Lib.hid (HS1.out.step hb2)
  clear hb2 hcc
  go_wp2
  go_ret
  exact ⟨rfl, HS2.out.bl⟩
set_option maxRecDepth 100000 in
set_option maxHeartbeats 4000000 in
theorem fills_none (c : Cfg) (core : Int) (q : Option Addr) (cap : Nat) (l : List Stp) (line v v2 ahead : Int) (w : World) (hc : c.fits) (hT : Tb w) (h : l.length ≤ 60) (hl : largeB c = false) (hn : okC c = false ∨ core < 0 ∨ c.co ≤ core) : Calls Tryz.prog 6 #[cv c, .int .i64 core, .slice q l.length cap, .int .i64 line, .agg #[.int .i64 v, .int .i64 v2], .int .i64 ahead] w fun e w' => e = .returned (.bool true) ∧ Below w.heap.size w w' := by
  have HS0 := Lib.hid (sp_two w (.cells (ccells c) 24) (.cells #[.int .i64 v, .int .i64 v2] 87))
  have HAw := Lib.hid (awake_any ((w.alloc (.cells (ccells c) 24)).alloc (.cells #[.int .i64 v, .int .i64 v2] 87)) (hT.keeps HS0.out.bl))
  have g1 : ¬ (60 : Int) < l.length := by omega
  have HL := Lib.hid (large_any c)
  rw [hl] at HL
  have HN : Hid (∀ w, Calls Tryz.prog 10 #[cv c, .int .i64 core] w (NoC w)) := Lib.hid (fun w => by
    rcases Bool.eq_false_or_eq_true (okC c) with ok | ok
    · exact cnew_core c core w hc ok (hn.resolve_left (by simp [ok]))
    · exact cnew_bad c core w hc ok)
  clear hc hT h hl hn
  go_enter Tryz.func6, Tryz.ntmps6
  go_wp2_with fail
  refine HAw.out.mono ?_
  rintro e w1 ⟨rfl, hb1⟩
  have HS1 := Lib.hid (HS0.out.step hb1)
  clear hb1
  have hcc := c_cell (HS1.out.ok (w.heap.size, (.cells (ccells c) 24)) (by simp)).1
  go_wp2_with fail
  refine (HL.out _).mono ?_
  rintro e w2 ⟨rfl, hb2⟩
  have HS2 := Lib.hid (HS1.out.step hb2)
  clear hb2 hcc
  have hcc2 := c_cell (HS2.out.ok (w.heap.size, (.cells (ccells c) 24)) (by simp)).1
  go_wp2_with fail
  refine (HN.out _).mono ?_
  rintro e w3 ⟨rfl, hb3⟩
  have HS3 := Lib.hid (HS2.out.step hb3)
  clear hb3 hcc2
  go_wp2
  go_ret
  exact ⟨rfl, HS3.out.bl⟩
set_option maxRecDepth 100000 in
set_option maxHeartbeats 4000000 in
theorem fills_walk (c : Cfg) (core : Int) (q : Option Addr) (cap : Nat) (l : List Stp) (line v v2 ahead : Int) (w : World) (hc : c.fits) (hT : Tb w) (hs : StpsA w q l) (h : l.length ≤ 60) (hl : largeB c = false) (ok : okC c = true) (h1 : 0 ≤ core) (h2 : core < c.co) : Calls Tryz.prog 6 #[cv c, .int .i64 core, .slice q l.length cap, .int .i64 line, .agg #[.int .i64 v, .int .i64 v2], .int .i64 ahead] w fun e w' => e = .returned (.bool true) ∧ Below w.heap.size w w' := by
  have HS0 := Lib.hid (sp_two w (.cells (ccells c) 24) (.cells #[.int .i64 v, .int .i64 v2] 87))
  have HAw := Lib.hid (awake_any ((w.alloc (.cells (ccells c) 24)).alloc (.cells #[.int .i64 v, .int .i64 v2] 87)) (hT.keeps HS0.out.bl))
  have g1 : ¬ (60 : Int) < l.length := by omega
  have HL := Lib.hid (large_any c)
  rw [hl] at HL
  have HT := Lib.hid hT
  have HN := Lib.hid (fun (w2 w3 : World) (h : Below w2.heap.size w2 w3) (hb : Below w.heap.size w w2) => cnew_ok c core h (hT.keeps hb) hc ok h1 h2)
  have HS := Lib.hid hs
  have HI := Lib.hid (Inv.new ok)
  have HCo := Lib.hid (And.intro h1 h2)
  have HO := Lib.hid ok
  obtain ⟨x, hx⟩ : ∃ x, IntKind.i32.wrap v = x := ⟨_, rfl⟩
  have HX : Hid (-2147483648 ≤ x ∧ x ≤ 2147483647) := Lib.hid (by rw [← hx, IntKind.wrap_i32]; omega)
  have hx2 : IntKind.i64.wrap x = x := by have := HX.out; rw [IntKind.wrap_i64]; omega
  clear hc hT hl ok h1 h2 hs
  go_enter Tryz.func6, Tryz.ntmps6
  go_wp2_with fail
  refine HAw.out.mono ?_
  rintro e w1 ⟨rfl, hb1⟩
  have HS1 := Lib.hid (HS0.out.step hb1)
  clear hb1
  have hcc := c_cell (HS1.out.ok (w.heap.size, (.cells (ccells c) 24)) (by simp)).1
  go_wp2_with fail
  refine (HL.out _).mono ?_
  rintro e w2 ⟨rfl, hb2⟩
  have HS2 := Lib.hid (HS1.out.step hb2)
  clear hb2 hcc
  have hcc2 := c_cell (HS2.out.ok (w.heap.size, (.cells (ccells c) 24)) (by simp)).1
  go_wp2_with fail
  refine (HN.out _ _ (Below.refl _ w2) HS2.out.bl).mono ?_
  rintro e w3 ⟨K, rfl, ho, hb3⟩
  have H3 := Lib.hid (ho.rebase HS2.out HT.out)
  clear ho hb3 hcc2
  go_wp2
  go_loopw [54] (fun i wr => ∃ k : Nat, k ≤ l.length ∧ i = .int .i64 k ∧ ∃ s n, OwnP w K c core n s [(w.heap.size + 1, .cells #[.int .i64 v, .int .i64 v2] 87), (w.heap.size, .cells (ccells c) 24)] wr ∧ Inv c s ∧ n ≤ 2 * (k : Int)) (fun i _ => l.length - (intOf i).toNat)
  case atStart => exact ⟨0, Nat.zero_le _, rfl, _, _, H3.out, HI.out, by omega⟩
  case round =>
    obtain ⟨k, hk, rfl, s, n, ho, hi, hn⟩ := hrel
    have H4 := Lib.hid ho
    have HV := Lib.hid hi
    clear ho hi H3
    by_cases hlt : k < l.length
    · obtain ⟨x, hx⟩ : ∃ x, l[k]? = some x := ⟨_, List.getElem?_eq_getElem hlt⟩
      obtain ⟨gl, off, rfl, hgl, hr⟩ := HS.out.step H4.out.below k x hx
      have HR := Lib.hid hr
      have h5 := H4.out.addRow #[.int .i64 0, .int .i64 0, .int .i64 0, .int .i64 0, .int .i64 0, .int .i64 0, .int .i64 0, .int .i64 0, .int .i64 0, .int .i64 0, .int .i64 0, .int .i64 0, .int .i64 0, .int .i64 0, .int .i64 0, .int .i64 0, .int .i64 0, .int .i64 0, .int .i64 0, .int .i64 0, .int .i64 0] (scells x) 45
      have hb5 := h5.box (List.mem_cons_self ..)
      have H5 := Lib.hid h5
      have HB5 := Lib.hid hb5
      have HNn : Hid (n ≤ 900 ∧ n + 2 ≤ 2 * ((k + 1 : Nat) : Int)) := Lib.hid (by omega)
      clear hr hx h5 hn hb5
      go_wp2_with (first
        | ((with_reducible refine wpList_load_mid (op := ⟨some 57, _, _, _, _, _⟩) rfl 45 (.tmp 56) rfl gl (off + k * 21) ?lx (stc x) _ ?lc Tryz.underlying45 ?ld ?li ?_); (case lx => rfl); (case lc => exact HR.out); (case ld => rfl); (case li => kernel_rfl))
        | ((with_reducible refine wpList_store_row (o := ⟨none, _, _, _, _, _⟩) rfl 45 (.tmp 16) (.tmp 57) rfl wr.heap.size (scells x) ?sx ?sy 45 ?old ?sg ?si ?so ?s1 ?_); (case sx => rfl); (case sy => rfl); (case old => exact #[.int .i64 0, .int .i64 0, .int .i64 0, .int .i64 0, .int .i64 0, .int .i64 0, .int .i64 0, .int .i64 0, .int .i64 0, .int .i64 0, .int .i64 0, .int .i64 0, .int .i64 0, .int .i64 0, .int .i64 0, .int .i64 0, .int .i64 0, .int .i64 0, .int .i64 0, .int .i64 0, .int .i64 0]); (case sg => exact heap_alloc_new wr _); (case si => kernel_rfl); (case so => rfl); (case s1 => kernel_rfl))
        | ((with_reducible refine wpList_load_row (o := ⟨some 59, _, _, _, _, _⟩) rfl 45 (.tmp 16) rfl wr.heap.size ?lx 45 (scells x) (0, 0) _ ?lg Tryz.underlying45 ?ld ?li ?_); (case lx => rfl); (case lg => exact HB5.out); (case ld => rfl); (case li => kernel_rfl))
        | (go_at_call 12; refine (H5.out.stp HNn.out.1 x).mono ?_; rintro e w6 ⟨rfl, ho⟩; have H6 := Lib.hid ho.drop; clear ho))
      go_roundw
      case rel => exact ⟨k + 1, by omega, by go_num, _, _, H6.out, HV.out.stp x, HNn.out.2⟩
      case measure => simp [intOf]; omega
    · clear HS
      by_cases hr : refP c s line 2 = 0
      · obtain ⟨ho1, hh⟩ : (1 ≤ c.co ∧ c.co ≤ 64) ∧ 1 ≤ c.ho ∧ c.ho ≤ 16 := ⟨(ok_sizes HO.out).1, (ok_sizes HO.out).2.1⟩
        have HSt : Hid (∀ st, askP c core s line 2 = ((toHomeP c core 2 line, 0), st) → Calls Tryz.prog 24 #[ptr K.k, .int .i64 line, .int .i64 2] wr (RetA (toHomeP c core 2 line) 0 (OwnP w K c core (n + 2) st [(w.heap.size + 1, .cells #[.int .i64 v, .int .i64 v2] 87), (w.heap.size, .cells (ccells c) 24)]))) := Lib.hid (fun st e => by have q := H4.out.ask line 2; rw [e] at q; exact q)
        have HJ := Lib.hid (fun wr n s bx (h : OwnP w K c core n s bx wr) => split_join h line)
        have HNn : Hid (n ≤ 120) := Lib.hid (by omega)
        obtain ⟨ho1, ho2⟩ := ho1
        obtain ⟨hh1, hh2⟩ := hh
        have hzz : Hid (∃ st, askP c core s line 2 = ((toHomeP c core 2 line, 0), st)) := Lib.hid (by unfold askP; rw [if_neg (by simpa using hr)]; exact ⟨_, rfl⟩)
        have HR0 := Lib.hid hr
        clear hn hr hk
        obtain ⟨st, est⟩ := hzz.out
        clear hzz
        go_wp2_with fail
        refine (HSt.out st est).mono ?_
        rintro e w5 ⟨rfl, ho⟩
        have H5 := Lib.hid (ho.add (.cells (mcells (toHomeP c core 2 line)) 38))
        have hcc := H5.out.cells (List.mem_cons_of_mem _ (List.mem_cons_of_mem _ (List.mem_cons_self ..)))
        have htw := H5.out.cells (List.mem_cons_of_mem _ (List.mem_cons_self ..))
        clear ho H4 HSt
        rcases (show ahead < 0 ∨ ¬ ahead < 0 ∧ c.co - 1 < ahead ∨ ¬ ahead < 0 ∧ ¬ c.co - 1 < ahead by omega) with g2 | ⟨g2, g3⟩ | ⟨g2, g3⟩
        · go_wp2
          go_ret
          exact ⟨rfl, H5.out.below⟩
        · go_wp2
          go_ret
          exact ⟨rfl, H5.out.below⟩
        · by_cases hvx : v = x
          · subst hvx
            obtain ⟨a, rfl⟩ : ∃ a : Nat, ahead = (a : Int) := ⟨ahead.toNat, by omega⟩
            obtain ⟨nn, hnn⟩ : ∃ nn : Nat, c.co - 1 = (nn : Int) := ⟨(c.co - 1).toNat, by omega⟩
            have han : a ≤ nn := by omega
            obtain ⟨R, s2, e1, e2, e3, e4, e5, e6, e7, hln⟩ := HV.out.fills HR0.out HCo.out.1 HCo.out.2 hnn han HX.out
            have hst : st = R 0 := by rw [est] at e1; exact (Prod.mk.inj e1).2
            subst hst
            obtain ⟨_, _, _, _, _, hj1, hj2⟩ := line_addr hln
            rw [hj1, hj2] at HJ
            have hne : (c.ho == 0) = false := by simp; omega
            have h0l : 0 ≤ line := (ok_of_lnOk hln).2.1
            generalize line * c.wo = adr at *
            have HF := Lib.hid (And.intro hnn han)
            have HD1 := Lib.hid (fun (k : Nat) (hk : k ≤ nn) (wr : World) n bx (h : OwnP w K c core n (R k) bx wr) => (by have q := h.doX ⟨3, adr, 3⟩; rw [e2 k hk] at q; exact q : Calls Tryz.prog 20 #[ptr K.k, Pg.ov ⟨3, adr, 3⟩] wr fun e w' => e = .returned (.tuple #[.int .i64 0, .int .i64 5]) ∧ OwnP w K c core n (R k) bx w'))
            have HD2 := Lib.hid (fun (wr : World) n bx (h : OwnP w K c core n (R (nn + 1)) bx wr) => (by have q := h.doX ⟨3, adr, 3⟩; rw [e5] at q; exact q : Calls Tryz.prog 20 #[ptr K.k, Pg.ov ⟨3, adr, 3⟩] wr fun e w' => e = .returned (.tuple #[.int .i64 v, .int .i64 0]) ∧ OwnP w K c core n s2 bx w'))
            have HTa := Lib.hid (fun (k : Nat) (hk : k ≤ nn) (hne : k ≠ a) (fr : Int) (f1 : 0 ≤ fr) (f2 : fr < c.co) (f3 : fr ≠ core) (wr : World) n bx (hn : n ≤ 900) (h : OwnP w K c core n (R k) bx wr) => (by have q := h.take hn (msg 9 line fr core 0 0 0 d0); rw [e3 k hk hne fr f1 f2 f3] at q; exact q : Calls Tryz.prog 23 #[ptr K.k, .agg #[.int .i64 9, .int .i64 line, .int .i64 fr, .int .i64 core, .int .i64 0, .int .i64 0, .int .i64 0, .int .i64 0, .int .i64 0, .int .i64 0, .int .i64 0, .int .i64 0, .int .i64 0, .int .i64 0, .int .i64 0]] wr (RetT (m0, false, 0) (OwnP w K c core (n + 2) (R (k + 1)) bx))))
            have HTd := Lib.hid (fun (wr : World) n bx (hn : n ≤ 900) (h : OwnP w K c core n (R a) bx wr) => (by have q := h.take hn (msg 7 line (line % c.ho) core 0 (c.co - 1) 4 ⟨v, 0, 0, 0, 0, 0, 0, 0⟩); rw [e4] at q; exact q : Calls Tryz.prog 23 #[ptr K.k, .agg #[.int .i64 7, .int .i64 line, .int .i64 (line % c.ho), .int .i64 core, .int .i64 0, .int .i64 (c.co - 1), .int .i64 4, .int .i64 v, .int .i64 0, .int .i64 0, .int .i64 0, .int .i64 0, .int .i64 0, .int .i64 0, .int .i64 0]] wr (RetT (m0, false, 0) (OwnP w K c core (n + 2) (R (a + 1)) bx))))
            have HLk := Lib.hid (fun (wr : World) n bx (h : OwnP w K c core n s2 bx wr) => (by have q := h.look line; rw [e6, e7] at q; exact q : Calls Tryz.prog 16 #[ptr K.k, .int .i64 line] wr fun e w' => e = .returned (.tuple #[.agg #[.int .i64 4, .int .i64 line, .int .i64 3, .int .i64 0, .int .i64 0, .int .i64 0, .int .i64 0, .int .i64 0, .int .i64 0, .int .i64 0, .bool true], .bool true]) ∧ Below wr.heap.size wr w'))
            have hq3 : ∀ w, (binOp .eql 36 (.agg #[.int .i64 3, .int .i64 0, .int .i64 0, .int .i64 0, .int .i64 0, .int .i64 0, .int .i64 0, .int .i64 0]) (.agg #[.int .i64 3, .int .i64 0, .int .i64 0, .int .i64 0, .int .i64 0, .int .i64 0, .int .i64 0, .int .i64 0])).run Tryz.prog w = .ok (.bool true) w := fun w => by kernel_rfl
            have HQ3 := Lib.hid hq3
            clear hq3 e1 e2 e3 e4 e5 e6 e7 hnn han HV HR0 HI hj1 hj2 hln est
            go_wp2_with fail
            refine (HJ.out _ _ _ _ H5.out).mono ?_
            rintro e w6 ⟨rfl, hb6⟩
            have H6 := Lib.hid ((H5.out.step hb6).add (.cells #[.int .i64 3, .int .i64 adr, .int .i64 3] 43))
            clear hb6 hcc htw H5
            go_wp2
            go_loopw [23, 24] (fun f i wr => ∃ k : Nat, k ≤ nn + 1 ∧ i = .int .i64 k ∧ f = .int .i64 (fromI core a k) ∧ OwnP w K c core (n + 2 + 2 * (k : Int)) (R k) [(w6.heap.size, .cells #[.int .i64 3, .int .i64 adr, .int .i64 3] 43), (w5.heap.size, .cells (mcells (toHomeP c core 2 line)) 38), (w.heap.size + 1, .cells #[.int .i64 v, .int .i64 v2] 87), (w.heap.size, .cells (ccells c) 24)] wr) (fun _ i _ => nn + 1 - (intOf i).toNat)
            case atStart => exact ⟨0, by omega, rfl, by rw [from_zero HCo.out.1], by simpa using H6.out⟩
            case round =>
              obtain ⟨k, hk, rfl, rfl, ho⟩ := hrel
              have H7 := Lib.hid ho
              clear ho H6
              have hop := H7.out.cells (List.mem_cons_self ..)
              have hcc := H7.out.cells (List.mem_cons_of_mem _ (List.mem_cons_of_mem _ (List.mem_cons_of_mem _ (List.mem_cons_self ..))))
              have htw := H7.out.cells (List.mem_cons_of_mem _ (List.mem_cons_of_mem _ (List.mem_cons_self ..)))
              by_cases hlt : k ≤ nn
              · have hlt' : (k : Int) ≤ c.co - 1 := by have := HF.out.1; omega
                have HNk : Hid (n + 2 + 2 * (k : Int) ≤ 900 ∧ n + 2 + 2 * (k : Int) + 2 ≤ n + 2 + 2 * ((k + 1 : Nat) : Int)) := Lib.hid (by have := HNn.out; have := HF.out.1; omega)
                have h0k : 0 ≤ (k : Int) := by omega
                have hkm : (k : Int) ≤ 64 := by omega
                by_cases hka : k = a
                · subst hka
                  go_wp2_with fail
                  refine (HD1.out k hlt _ _ _ H7.out).mono ?_
                  rintro e w8 ⟨rfl, ho⟩
                  have H8 := Lib.hid (ho.add (.cells #[.int .i64 9, .int .i64 line, .int .i64 0, .int .i64 core, .int .i64 0, .int .i64 0, .int .i64 0, .int .i64 0, .int .i64 0, .int .i64 0, .int .i64 0, .int .i64 0, .int .i64 0, .int .i64 0, .int .i64 0] 38))
                  clear ho H7 hop hcc htw
                  have hcc := H8.out.cells (List.mem_cons_of_mem _ (List.mem_cons_of_mem _ (List.mem_cons_of_mem _ (List.mem_cons_of_mem _ (List.mem_cons_self ..)))))
                  have htw := H8.out.cells (List.mem_cons_of_mem _ (List.mem_cons_of_mem _ (List.mem_cons_of_mem _ (List.mem_cons_self ..))))
                  go_wp2_with fail
                  clear hcc htw
                  generalize w8.alloc (.cells #[.int .i64 9, .int .i64 line, .int .i64 0, .int .i64 core, .int .i64 0, .int .i64 0, .int .i64 0, .int .i64 0, .int .i64 0, .int .i64 0, .int .i64 0, .int .i64 0, .int .i64 0, .int .i64 0, .int .i64 0] 38) = w9 at *
                  refine wp_region_noPanic ?_
                  refine wp_region_held_drew (S := (fun w' : World => (∀ o, w'.cell? ⟨w.heap.size, o, none⟩ = (ccells c)[o]?) ∧ (∀ o, w'.cell? ⟨w.heap.size + 1, o, none⟩ = (#[.int .i64 v, .int .i64 v2] : Array Value)[o]?))) (by kernel_rfl) ⟨H8.out.cells (List.mem_cons_of_mem _ (List.mem_cons_of_mem _ (List.mem_cons_of_mem _ (List.mem_cons_of_mem _ (List.mem_cons_self ..))))), H8.out.cells (List.mem_cons_of_mem _ (List.mem_cons_of_mem _ (List.mem_cons_of_mem _ (List.mem_cons_self ..))))⟩ (fun hh0 => ?_)
                  replace H8 := Lib.hid H8.out.drew
                  generalize World.drew w9 = w9 at *
                  refine wpAnyH_take (fuel := 11) (i := 0) (oi := ⟨some 119, _, _, _, _, _⟩) (v := .int .i64 line) rfl (by kernel_rfl) (by kernel_rfl) (by kernel_rfl) (fun _ _ _ h => h) (Or.inl ⟨by rfl, ?_⟩) hh0 ?_
                  · intro w' _
                    go_simp
                  simp only [Act.put, List.setIfInBounds_toArray, List.set_cons_zero, List.set_cons_succ]
                  refine wpAnyH_take (fuel := 10) (i := 1) (oi := ⟨some 120, _, _, _, _, _⟩) (v := .int .i64 line) rfl (by kernel_rfl) (by kernel_rfl) (by kernel_rfl) (fun _ _ _ h => h) (Or.inl ⟨by rfl, ?_⟩) hh0 ?_
                  · intro w' _
                    go_simp
                  simp only [Act.put, List.setIfInBounds_toArray, List.set_cons_zero, List.set_cons_succ]
                  refine wpAnyH_take (fuel := 9) (i := 2) (oi := ⟨some 121, _, _, _, _, _⟩) (v := .pointer (some ⟨w.heap.size, 1, none⟩)) rfl (by kernel_rfl) (by kernel_rfl) (by kernel_rfl) (fun _ _ _ h => h) (Or.inl ⟨by rfl, ?_⟩) hh0 ?_
                  · intro w' _
                    go_simp
                  simp only [Act.put, List.setIfInBounds_toArray, List.set_cons_zero, List.set_cons_succ]
                  refine wpAnyH_take (fuel := 8) (i := 3) (oi := ⟨some 122, _, _, _, _, _⟩) (v := .int .i64 c.ho) rfl (by kernel_rfl) (by kernel_rfl) (by kernel_rfl) (fun _ _ _ h => h) (Or.inl ⟨by rfl, ?_⟩) hh0 ?_
                  · rintro w' ⟨hcc, htw⟩
                    go_simp
                  simp only [Act.put, List.setIfInBounds_toArray, List.set_cons_zero, List.set_cons_succ]
                  refine wpAnyH_take (fuel := 7) (i := 4) (oi := ⟨some 123, _, _, _, _, _⟩) (v := .int .i64 (line % c.ho)) rfl (by kernel_rfl) (by kernel_rfl) (by kernel_rfl) (fun _ _ _ h => h) (Or.inl ⟨by rfl, ?_⟩) hh0 ?_
                  · intro w' _
                    go_simp
                    all_goals (first | rfl | (rw [if_neg (show ¬ c.ho = 0 by omega), Int.tmod_eq_emod_of_nonneg h0l]) | (simp [Int.tmod_eq_emod_of_nonneg h0l]; omega))
                  simp only [Act.put, List.setIfInBounds_toArray, List.set_cons_zero, List.set_cons_succ]
                  refine wpAnyH_take (fuel := 6) (i := 5) (oi := ⟨some 124, _, _, _, _, _⟩) (v := .int .i64 core) rfl (by kernel_rfl) (by kernel_rfl) (by kernel_rfl) (fun _ _ _ h => h) (Or.inl ⟨by rfl, ?_⟩) hh0 ?_
                  · intro w' _
                    go_simp
                  simp only [Act.put, List.setIfInBounds_toArray, List.set_cons_zero, List.set_cons_succ]
                  refine wpAnyH_take (fuel := 5) (i := 6) (oi := ⟨some 125, _, _, _, _, _⟩) (v := .int .i64 (c.co - 1)) rfl (by kernel_rfl) (by kernel_rfl) (by kernel_rfl) (fun _ _ _ h => h) (Or.inl ⟨by rfl, ?_⟩) hh0 ?_
                  · intro w' _
                    go_simp
                  simp only [Act.put, List.setIfInBounds_toArray, List.set_cons_zero, List.set_cons_succ]
                  refine wpAnyH_take (fuel := 4) (i := 7) (oi := ⟨some 126, _, _, _, _, _⟩) (v := .pointer (some ⟨w.heap.size + 1, 0, none⟩)) rfl (by kernel_rfl) (by kernel_rfl) (by kernel_rfl) (fun _ _ _ h => h) (Or.inl ⟨by rfl, ?_⟩) hh0 ?_
                  · intro w' _
                    go_simp
                  simp only [Act.put, List.setIfInBounds_toArray, List.set_cons_zero, List.set_cons_succ]
                  refine wpAnyH_take (fuel := 3) (i := 8) (oi := ⟨some 127, _, _, _, _, _⟩) (v := .int .i64 v) rfl (by kernel_rfl) (by kernel_rfl) (by kernel_rfl) (fun _ _ _ h => h) (Or.inl ⟨by rfl, ?_⟩) hh0 ?_
                  · rintro w' ⟨hcc, htw⟩
                    go_simp
                  simp only [Act.put, List.setIfInBounds_toArray, List.set_cons_zero, List.set_cons_succ]
                  refine wpAnyH_take (fuel := 2) (i := 9) (oi := ⟨some 128, _, _, _, _, _⟩) (v := .agg #[.int .i64 v, .int .i64 0, .int .i64 0, .int .i64 0, .int .i64 0, .int .i64 0, .int .i64 0, .int .i64 0]) rfl (by kernel_rfl) (by kernel_rfl) (by kernel_rfl) (fun _ _ _ h => h) (Or.inl ⟨by rfl, ?_⟩) hh0 ?_
                  · intro w' _
                    go_simp
                  simp only [Act.put, List.setIfInBounds_toArray, List.set_cons_zero, List.set_cons_succ]
                  refine wpAnyH_take (fuel := 1) (i := 10) (oi := ⟨some 129, _, _, _, _, _⟩) (v := .agg #[.int .i64 7, .int .i64 line, .int .i64 (line % c.ho), .int .i64 core, .int .i64 0, .int .i64 (c.co - 1), .int .i64 4, .int .i64 v, .int .i64 0, .int .i64 0, .int .i64 0, .int .i64 0, .int .i64 0, .int .i64 0, .int .i64 0]) rfl (by kernel_rfl) (by kernel_rfl) (by kernel_rfl) (fun _ _ _ h => h) (Or.inl ⟨by rfl, ?_⟩) hh0 ?_
                  · intro w' _
                    go_simp
                  simp only [Act.put, List.setIfInBounds_toArray, List.set_cons_zero, List.set_cons_succ]
                  refine wpAnyH_ready (fuel := 0) (rs := [11]) (by kernel_rfl) (by simp) ?_
                  refine AllReadyH.cons (o := ⟨none, _, _, _, _, _⟩) rfl (fun P hP => ?_) AllReadyH.nil
                  rw [if_pos (by rfl)]
                  refine wp_store_row 38 (.tmp 27) (.tmp 129) rfl w8.heap.size (#[.int .i64 7, .int .i64 line, .int .i64 (line % c.ho), .int .i64 core, .int .i64 0, .int .i64 (c.co - 1), .int .i64 4, .int .i64 v, .int .i64 0, .int .i64 0, .int .i64 0, .int .i64 0, .int .i64 0, .int .i64 0, .int .i64 0]) rfl rfl 38 #[.int .i64 9, .int .i64 line, .int .i64 0, .int .i64 core, .int .i64 0, .int .i64 0, .int .i64 0, .int .i64 0, .int .i64 0, .int .i64 0, .int .i64 0, .int .i64 0, .int .i64 0, .int .i64 0, .int .i64 0] (H8.out.box (List.mem_cons_self ..)) (by kernel_rfl) rfl (by kernel_rfl) ?_
                  have H9 := Lib.hid (H8.out.setRow (cs' := #[.int .i64 7, .int .i64 line, .int .i64 (line % c.ho), .int .i64 core, .int .i64 0, .int .i64 (c.co - 1), .int .i64 4, .int .i64 v, .int .i64 0, .int .i64 0, .int .i64 0, .int .i64 0, .int .i64 0, .int .i64 0, .int .i64 0]))
                  refine hP.out _ _ (⟨H9.out.cells (List.mem_cons_of_mem _ (List.mem_cons_of_mem _ (List.mem_cons_of_mem _ (List.mem_cons_of_mem _ (List.mem_cons_self ..))))), H9.out.cells (List.mem_cons_of_mem _ (List.mem_cons_of_mem _ (List.mem_cons_of_mem _ (List.mem_cons_self ..))))⟩) (fun hh1 => ?_)
                  clear hP P hh0
                  simp only [Act.put]
                  refine wpAnyH_done (by kernel_rfl) ?_ _
                  refine NoPanic.normal ?_
                  clear hh1
                  have h9 := H9.out.box (List.mem_cons_self ..)
                  go_wp2_with ((with_reducible refine wpList_load_row (o := ⟨some 141, _, _, _, _, _⟩) rfl 38 (.tmp 27) rfl w8.heap.size ?lx 38 (#[.int .i64 7, .int .i64 line, .int .i64 (line % c.ho), .int .i64 core, .int .i64 0, .int .i64 (c.co - 1), .int .i64 4, .int .i64 v, .int .i64 0, .int .i64 0, .int .i64 0, .int .i64 0, .int .i64 0, .int .i64 0, .int .i64 0]) (0, 0) _ ?lg Tryz.underlying38 ?ld ?li ?_); (case lx => rfl); (case lg => exact h9); (case ld => rfl); (case li => kernel_rfl))
                  clear h9
                  refine (HTd.out _ _ _ HNk.out.1 H9.out).mono ?_
                  rintro e wA ⟨rfl, ho⟩
                  have HA := Lib.hid (ho.add (.cells #[.int .i64 0, .int .i64 0, .int .i64 0, .int .i64 0, .int .i64 0, .int .i64 0, .int .i64 0, .int .i64 0, .int .i64 0, .int .i64 0, .int .i64 0, .int .i64 0, .int .i64 0, .int .i64 0, .int .i64 0] 38))
                  clear ho H9
                  go_wp2
                  go_roundw
                  case rel => exact ⟨k + 1, by omega, by go_num, by rw [from_same], HA.out.drop.drop.more HNk.out.2⟩
                  case measure => simp [intOf]; omega
                · have hkb : ((k : Int) == (a : Int)) = false := by simp; omega
                  by_cases hfc : fromI core a k = core
                  · obtain ⟨q1, q2⟩ := from_core hlt hka HF.out.2 HF.out.1 hfc
                    rw [hfc]
                    have h0c : 0 ≤ core := HCo.out.1
                    have HFr : Hid (0 ≤ core + 1 ∧ core + 1 < c.co ∧ core + 1 ≠ core ∧ fromI core a (k + 1) = core + 1 + 1) := Lib.hid ⟨by omega, q1, by omega, q2⟩
                    clear hfc q2
                    clear hk
                    go_wp2_with fail
                    refine (HD1.out k hlt _ _ _ H7.out).mono ?_
                    rintro e w8 ⟨rfl, ho⟩
                    have H8 := Lib.hid (ho.add (.cells #[.int .i64 9, .int .i64 line, .int .i64 (core + 1), .int .i64 core, .int .i64 0, .int .i64 0, .int .i64 0, .int .i64 0, .int .i64 0, .int .i64 0, .int .i64 0, .int .i64 0, .int .i64 0, .int .i64 0, .int .i64 0] 38))
                    have h9 := H8.out.box (List.mem_cons_self ..)
                    clear ho H7 hop hcc htw
                    go_wp2_with ((with_reducible refine wpList_load_row (o := ⟨some 141, _, _, _, _, _⟩) rfl 38 (.tmp 27) rfl w8.heap.size ?lx 38 (#[.int .i64 9, .int .i64 line, .int .i64 (core + 1), .int .i64 core, .int .i64 0, .int .i64 0, .int .i64 0, .int .i64 0, .int .i64 0, .int .i64 0, .int .i64 0, .int .i64 0, .int .i64 0, .int .i64 0, .int .i64 0]) (0, 0) _ ?lg Tryz.underlying38 ?ld ?li ?_); (case lx => rfl); (case lg => exact h9); (case ld => rfl); (case li => kernel_rfl))
                    clear h9
                    refine (HTa.out k hlt hka (core + 1) HFr.out.1 HFr.out.2.1 HFr.out.2.2.1 _ _ _ HNk.out.1 H8.out).mono ?_
                    rintro e wA ⟨rfl, ho⟩
                    have HA := Lib.hid (ho.add (.cells #[.int .i64 0, .int .i64 0, .int .i64 0, .int .i64 0, .int .i64 0, .int .i64 0, .int .i64 0, .int .i64 0, .int .i64 0, .int .i64 0, .int .i64 0, .int .i64 0, .int .i64 0, .int .i64 0, .int .i64 0] 38))
                    clear ho H8
                    go_wp2
                    go_roundw
                    case rel => exact ⟨k + 1, Nat.succ_le_succ hlt, by go_num, by rw [HFr.out.2.2.2], HA.out.drop.drop.more HNk.out.2⟩
                    case measure => simp [intOf]; omega
                  · obtain ⟨q0, q1, q2⟩ := from_other hlt hka HF.out.2 HF.out.1 hfc
                    have HFr : Hid (0 ≤ fromI core a k ∧ fromI core a k < c.co ∧ fromI core a k ≠ core ∧ fromI core a (k + 1) = fromI core a k + 1) := Lib.hid ⟨q0, q1, hfc, q2⟩
                    clear q2
                    generalize fromI core a k = fr at *
                    have hfb : (fr == core) = false := by simpa using hfc
                    clear hk
                    go_wp2_with fail
                    refine (HD1.out k hlt _ _ _ H7.out).mono ?_
                    rintro e w8 ⟨rfl, ho⟩
                    have H8 := Lib.hid (ho.add (.cells #[.int .i64 9, .int .i64 line, .int .i64 fr, .int .i64 core, .int .i64 0, .int .i64 0, .int .i64 0, .int .i64 0, .int .i64 0, .int .i64 0, .int .i64 0, .int .i64 0, .int .i64 0, .int .i64 0, .int .i64 0] 38))
                    have h9 := H8.out.box (List.mem_cons_self ..)
                    clear ho H7 hop hcc htw
                    go_wp2_with ((with_reducible refine wpList_load_row (o := ⟨some 141, _, _, _, _, _⟩) rfl 38 (.tmp 27) rfl w8.heap.size ?lx 38 (#[.int .i64 9, .int .i64 line, .int .i64 fr, .int .i64 core, .int .i64 0, .int .i64 0, .int .i64 0, .int .i64 0, .int .i64 0, .int .i64 0, .int .i64 0, .int .i64 0, .int .i64 0, .int .i64 0, .int .i64 0]) (0, 0) _ ?lg Tryz.underlying38 ?ld ?li ?_); (case lx => rfl); (case lg => exact h9); (case ld => rfl); (case li => kernel_rfl))
                    clear h9
                    refine (HTa.out k hlt hka fr HFr.out.1 HFr.out.2.1 HFr.out.2.2.1 _ _ _ HNk.out.1 H8.out).mono ?_
                    rintro e wA ⟨rfl, ho⟩
                    have HA := Lib.hid (ho.add (.cells #[.int .i64 0, .int .i64 0, .int .i64 0, .int .i64 0, .int .i64 0, .int .i64 0, .int .i64 0, .int .i64 0, .int .i64 0, .int .i64 0, .int .i64 0, .int .i64 0, .int .i64 0, .int .i64 0, .int .i64 0] 38))
                    clear ho H8
                    go_wp2
                    go_roundw
                    case rel => exact ⟨k + 1, Nat.succ_le_succ hlt, by go_num, by rw [HFr.out.2.2.2], HA.out.drop.drop.more HNk.out.2⟩
                    case measure => simp [intOf]; omega
              · obtain rfl : k = nn + 1 := by omega
                have hlt' : ¬ ((nn + 1 : Nat) : Int) ≤ c.co - 1 := by have := HF.out.1; omega
                clear hlt
                go_wp2_with fail
                refine (HD2.out _ _ _ H7.out).mono ?_
                rintro e w8 ⟨rfl, ho⟩
                have H8 := Lib.hid ho
                clear ho H7 hop hcc htw
                go_wp2_with fail
                refine (HLk.out _ _ _ H8.out).mono ?_
                rintro e w9 ⟨rfl, hb9⟩
                have H9 := Lib.hid ((H8.out.step hb9).add (.cells #[.int .i64 4, .int .i64 line, .int .i64 3, .int .i64 0, .int .i64 0, .int .i64 0, .int .i64 0, .int .i64 0, .int .i64 0, .int .i64 0, .bool true] 66))
                have htw := H9.out.cells (List.mem_cons_of_mem _ (List.mem_cons_of_mem _ (List.mem_cons_of_mem _ (List.mem_cons_self ..))))
                have hq3 := HQ3.out
                clear hb9 H8
                go_wp2
                go_ret
                exact ⟨rfl, H9.out.below⟩
          · have hvx' : (v != x) = true := by simpa using hvx
            clear hvx
            go_wp2
            go_ret
            exact ⟨rfl, H5.out.below⟩
      · have HSt : Hid (Calls Tryz.prog 24 #[ptr K.k, .int .i64 line, .int .i64 2] wr (RetA m0 (refP c s line 2) (OwnP w K c core (n + 2) s [(w.heap.size + 1, .cells #[.int .i64 v, .int .i64 v2] 87), (w.heap.size, .cells (ccells c) 24)]))) := Lib.hid (by have q := H4.out.ask line 2; unfold askP at q; rw [if_pos hr] at q; exact q)
        have hrb : (refP c s line 2 != 0) = true := by simpa using hr
        generalize refP c s line 2 = er at *
        have hq0 : ∀ w, (binOp .eql 38 (.agg #[.int .i64 0, .int .i64 0, .int .i64 0, .int .i64 0, .int .i64 0, .int .i64 0, .int .i64 0, .int .i64 0, .int .i64 0, .int .i64 0, .int .i64 0, .int .i64 0, .int .i64 0, .int .i64 0, .int .i64 0]) (.agg #[.int .i64 0, .int .i64 0, .int .i64 0, .int .i64 0, .int .i64 0, .int .i64 0, .int .i64 0, .int .i64 0, .int .i64 0, .int .i64 0, .int .i64 0, .int .i64 0, .int .i64 0, .int .i64 0, .int .i64 0])).run Tryz.prog w = .ok (.bool true) w := fun w => msg_eql m0 w
        clear hn hr hk
        go_wp2_with fail
        refine HSt.out.mono ?_
        rintro e w5 ⟨rfl, ho⟩
        have H5 := Lib.hid (ho.add (.cells #[.int .i64 0, .int .i64 0, .int .i64 0, .int .i64 0, .int .i64 0, .int .i64 0, .int .i64 0, .int .i64 0, .int .i64 0, .int .i64 0, .int .i64 0, .int .i64 0, .int .i64 0, .int .i64 0, .int .i64 0] 38))
        have h5 := H5.out.box (List.mem_cons_self ..)
        clear ho H4 HSt
        go_wp2_with ((with_reducible refine wpList_load_row (o := ⟨some 70, _, _, _, _, _⟩) rfl 38 (.tmp 17) rfl w5.heap.size ?lx 38 (#[.int .i64 0, .int .i64 0, .int .i64 0, .int .i64 0, .int .i64 0, .int .i64 0, .int .i64 0, .int .i64 0, .int .i64 0, .int .i64 0, .int .i64 0, .int .i64 0, .int .i64 0, .int .i64 0, .int .i64 0]) (0, 0) _ ?lg Tryz.underlying38 ?ld ?li ?_); (case lx => rfl); (case lg => exact h5); (case ld => rfl); (case li => kernel_rfl))
        go_ret
        exact ⟨rfl, H5.out.below⟩

/-- CacheFills. -/
theorem cacheFills_any (c : Cfg) (core : Int) (q : Option Addr) (cap : Nat) (l : List Stp) (line v v2 ahead : Int) (w : World) (hc : c.fits) (hT : Tb w) (hs : StpsA w q l) (_ : -9223372036854775808 ≤ v ∧ v ≤ 9223372036854775807) : Calls Tryz.prog 6 #[cv c, .int .i64 core, .slice q l.length cap, .int .i64 line, .agg #[.int .i64 v, .int .i64 v2], .int .i64 ahead] w fun e w' => e = .returned (.bool true) ∧ Below w.heap.size w w' := by
  by_cases h : 60 < l.length
  · exact fills_long c core q cap l line v v2 ahead w hT h
  · rcases Bool.eq_false_or_eq_true (largeB c) with hl | hl
    · exact fills_large c core q cap l line v v2 ahead w hT (by omega) hl
    · by_cases hn : okC c = false ∨ core < 0 ∨ c.co ≤ core
      · exact fills_none c core q cap l line v v2 ahead w hc hT (by omega) hl hn
      · have ok : okC c = true := by
          rcases Bool.eq_false_or_eq_true (okC c) with e | e
          · exact e
          · exact absurd (.inl e) hn
        exact fills_walk c core q cap l line v v2 ahead w hc hT hs (by omega) hl ok (by omega) (by omega)

end Go.Proofs.YtlfhkjjjocmpbaaGreatDoor.Cc
