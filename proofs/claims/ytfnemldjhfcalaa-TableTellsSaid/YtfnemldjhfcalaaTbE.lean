/-
  What is laid behind a write: whoever else may share the line is sent a message.
-/
import Derived.Test.YtfnemldjhfcalaaTbD
namespace Go.Proofs.Ytfnemldjhfcalaa
open Go Go.RowKit Go.Sort

theorem others_len (e : En) (r : Int) : (e.others r).length ≤ 64 := by
  unfold En.others targetsS
  split
  · rename_i h
    have := pickS_len e.s.l e.s.al [r, e.ow] e.s.c.toNat
    have := (may_bounds h).2.1
    omega
  · simp
def invs (m : Msg) (L : List Int) : List Msg := L.map fun x => sendM m (invM m x)
theorem invs_len (m : Msg) (L : List Int) : (invs m L).length = L.length := by simp [invs]
theorem invs_succ (m : Msg) (L : List Int) (k : Nat) (hk : k < L.length) : invs m (L.take (k + 1)) = invs m (L.take k) ++ [sendM m (invM m (L.getD k 0))] := by
  unfold invs
  rw [List.take_add_one, List.map_append]
  congr 1
  simp [List.getElem?_eq_getElem hk, List.getD_eq_getElem?_getD]

/-- So many of the others have been sent their message. -/
structure Tk (w : World) (B b : Nat) (t : Tn) (v : Value) (A : Array Value) (pt : Option Addr) (L : List Int) (m : Msg) (k : Nat) (p' : Option Addr) (cap' : Nat) (v' : Value) (wr : World) : Prop where
  tu : Tu wr B b ⟨t.e, t.sent ++ invs m (L.take k), t.wr⟩ p' cap' v'
  chg : Chg b v w wr
  frs : Frs w v v'
  bx : ∀ o, wr.cell? ⟨w.heap.size, o, none⟩ = A[o]?
  lt : w.heap.size < wr.heap.size
  off : v'.ownBlock ≠ some w.heap.size
  nums : NumsIn wr pt L
  sep : L ≠ [] → ∀ a, pt = some a → a.block ≠ b ∧ v'.ownBlock ≠ some a.block
  bw : b < w.heap.size
theorem Tk.next {w : World} {B b : Nat} {t : Tn} {v : Value} {A : Array Value} {pt : Option Addr} {L : List Int} {m : Msg} {k : Nat} {p' : Option Addr} {cap' : Nat} {v' : Value} {wr w2 : World} {r : Ending} (h : Tk w B b t v A pt L m k p' cap' v' wr) (hk : k < L.length)
    (hg : TuGave wr B b v' (Tn.send ⟨t.e, t.sent ++ invs m (L.take k), t.wr⟩ m (invM m (L.getD k 0))) r w2) : ∃ p2 cap2 v2, Tk w B b t v A pt L m (k + 1) p2 cap2 v2 w2 := by
  obtain ⟨-, p2, cap2, v2, h1, h2, h3⟩ := hg
  have hg0 := h.lt
  have hbw := h.bw
  have hne : w.heap.size ≠ b := by omega
  refine ⟨p2, cap2, v2, ⟨?_, h.chg.trans h2 h.frs, h.frs.trans h3 h.chg.size, fun o => (World.cell?_of_block (a := ⟨w.heap.size, o, none⟩) (h2.other w.heap.size h.lt hne h.off)).trans (h.bx o), Nat.lt_of_lt_of_le h.lt h2.size, fun e => ?_, ?_, fun hl a ha => ?_, h.bw⟩⟩
  · rw [invs_succ m L k hk, ← List.append_assoc]
    exact h1
  · rcases h3 _ e with e | e
    · exact h.off e
    · omega
  · exact h.nums.keep h2.size fun hl a ha hlt => h2.other _ hlt (h.sep hl a ha).1 (h.sep hl a ha).2
  · refine ⟨(h.sep hl a ha).1, fun e => ?_⟩
    obtain ⟨g', off', e', hg', _⟩ := h.nums k hk
    rw [ha] at e'
    cases e'
    rcases h3 _ e with e | e
    · exact (h.sep hl _ ha).2 e
    · simp only at e; omega
theorem Tk.start {w w1 : World} {B b : Nat} {t : Tn} {p : Option Addr} {cap : Nat} {v : Value} (h : Tu w B b t p cap v) {A : Array Value} (K : Kp w A w1) {pt : Option Addr} {L : List Int} (m : Msg) (hn : NumsIn w1 pt L) (hf : ∀ a, pt = some a → w.heap.size ≤ a.block) : Tk w B b t v A pt L m 0 p cap v w1 := by
  have hb := h.lt
  refine ⟨?_, .of_below K.2.2, .refl _ _, K.1, K.2.1, fun e => by have := (h.row.lt _ e).2; omega, hn, fun _ a ha => ?_, hb⟩
  · have := h.step K.2.2
    simpa [invs] using this
  · have h1 := hf a ha
    exact ⟨by omega, fun e => by have := (h.row.lt _ e).2; omega⟩
theorem Tk.drew {w : World} {B b : Nat} {t : Tn} {v : Value} {A : Array Value} {pt : Option Addr} {L : List Int} {m : Msg} {k : Nat} {p' : Option Addr} {cap' : Nat} {v' : Value} {wr w2 : World} (h : Tk w B b t v A pt L m k p' cap' v' wr) (hb : Below wr.heap.size wr w2) : Tk w B b t v A pt L m k p' cap' v' w2 :=
  ⟨h.tu.step hb, h.chg.trans (.of_below hb) h.frs, h.frs, fun o => (hb.cell (p := ⟨w.heap.size, o, none⟩) h.lt).trans (h.bx o), Nat.lt_of_lt_of_le h.lt hb.size, h.off, h.nums.step hb, h.sep, h.bw⟩
/-- All of them are; who asked is the owner, and there are no sharers. -/
theorem Tk.finish {w : World} {B b : Nat} {t : Tn} {v : Value} {A : Array Value} {pt : Option Addr} {L : List Int} {m : Msg} {p' : Option Addr} {cap' : Nat} {v' : Value} {wr w2 w3 : World} {e' : En} {pq : Option Addr} {cq : Nat} (h : Tk w B b t v A pt L m L.length p' cap' v' wr)
    (hb : Below wr.heap.size wr w2) (hs : Stb b (tcells ⟨e', t.sent ++ invs m L, t.wr⟩ pq cq v') 42 w2 w3) (hn : NumsIn w2 pq e'.s.l) (hf : ∀ a, pq = some a → wr.heap.size ≤ a.block) (u : Value) : TuGave w B b v ⟨e', t.sent ++ invs m L, t.wr⟩ (.returned u) w3 := by
  have h1 := h.tu
  rw [List.take_length] at h1
  obtain ⟨-, p2, c2, v2, h2, h3, h4⟩ := h1.set hb (e' := e') (r' := t.wr) hs hn (fun _ a ha => by have h5 := hf a ha; have h6 := h1.lt; exact ⟨by omega, fun e => by have := (h1.row.lt _ e).2; omega, by have := h1.big; omega⟩)
  exact ⟨⟨u, rfl⟩, p2, c2, v2, h2, h.chg.trans h3 h.frs, h.frs.trans h4 h.chg.size⟩

set_option maxRecDepth 100000 in
set_option maxHeartbeats 4000000 in
theorem take_any {w : World} {B b : Nat} {t : Tn} {p : Option Addr} {cap : Nat} {v : Value} (h : Tu w B b t p cap v) (e : En) (pe : Option Addr) (ce : Nat) (m : Msg) (u : W8) (hB : B ≤ w.heap.size) (hs : t.sent.length ≤ 100) (hl : e.s.l.length ≤ 5000) (hn : NumsIn w pe e.s.l) :
    Calls Try.prog 37 #[qv e pe ce m u, .pointer (some ⟨b, 0, none⟩)] w (TuGave w B b v (takeT e m t)) := by
  have K := Kp.box w (qcells e pe ce m u) 68
  have hc := K.1
  have HO := Lib.hid (others_fresh e pe ce m u _ hl (hn.step K.2.2))
  have hle := others_len e m.fr
  have HT : Hid (takeT e m t = ⟨⟨m.fr, (newS e.s.c e.s.m).1⟩, t.sent ++ invs m (e.others m.fr), t.wr⟩) := Lib.hid rfl
  generalize e.others m.fr = L at *
  have HS := Lib.hid hs
  have HC := Lib.hid (fun w => clear_any e.s pe e.s.l.length ce w)
  have H := Lib.hid h
  clear h hn hs
  go_enter Try.func37, Try.ntmps37
  go_wp2_with (first
    | ((with_reducible refine wpList_load_at (op := ⟨some 6, _, _, _, _, _⟩) rfl 68 (.tmp 2) rfl w.heap.size 0 ?sx (qcells e pe ce m u) _ ?sc Try.underlying68 ?sd ?si ?_); (case sx => rfl); (case sc => exact range_of hc); (case sd => rfl); (case si => kernel_rfl))
    | (go_at_call 48; refine HO.out.mono ?_; rintro _ w1 ⟨pt, ct, rfl, hi1, hb1, hf1⟩; have K2 := K.step hb1; have T0 := Tk.start H.out K2 m hi1 (fun a ha => Nat.le_trans K.2.2.size (hf1 a ha)); have hbw := T0.bw; clear hc hb1 hi1 hf1 K2 K))
  go_loopw [9] (fun i wr => ∃ k : Nat, k ≤ L.length ∧ i = .int .i64 k ∧ ∃ p' cap' v', Tk w B b t v (qcells e pe ce m u) pt L m k p' cap' v' wr) (fun i _ => L.length - (intOf i).toNat)
  case atStart => exact ⟨0, Nat.zero_le _, rfl, _, _, _, T0⟩
  case round =>
    obtain ⟨k, hk, rfl, p', cap', v', T1⟩ := hrel
    clear T0
    have hc1 := T1.bx
    have hlt1 := T1.lt
    by_cases hlt : k < L.length
    · obtain ⟨g, off, rfl, hg, hcx⟩ := T1.nums k hlt
      obtain ⟨x, hx⟩ : ∃ x, x = L.getD k 0 := ⟨_, rfl⟩
      rw [← hx] at hcx
      have HG := Lib.hid (fun r w2 (hg : TuGave wr B b v' (Tn.send ⟨t.e, t.sent ++ invs m (L.take k), t.wr⟩ m (invM m x)) r w2) => T1.next hlt (hx ▸ hg))
      have HX : Hid _ := Lib.hid (send_any T1.tu e pe ce m u (invM m x) (Nat.le_trans hB T1.chg.size) (by have := HS.out; simp only [List.length_append, invs_len, List.length_take]; omega))
      clear hx T1
      go_wp2_with (first
        | ((with_reducible refine wpList_load_at (op := ⟨some 13, _, _, _, _, _⟩) rfl 68 (.tmp 2) rfl w.heap.size 0 ?sx (qcells e pe ce m u) _ ?sc Try.underlying68 ?sd ?si ?_); (case sx => rfl); (case sc => exact range_of hc1); (case sd => rfl); (case si => kernel_rfl))
        | (go_at_call 22; refine HX.out.mono ?_; rintro _ w2 hg2; obtain ⟨p2, cap2, v2, T2⟩ := HG.out _ _ hg2; obtain ⟨⟨u2, rfl⟩, -⟩ := hg2; clear hc1))
      go_roundw
      case rel => exact ⟨k + 1, by omega, by go_num, p2, cap2, v2, T2⟩
      case measure => simp [intOf]; omega
    · have hke : k = L.length := by omega
      subst hke
      have TD := T1.drew (below_drew _)
      have hcD := TD.bx
      have HD := Lib.hid TD
      have hbD := TD.tu.blk
      rw [List.take_length] at hbD
      have HB := Lib.hid hbD
      clear T1 TD hc1 hbD
      go_wp2_with fail
      refine wp_region_noPanic ?_
      refine wp_region_held_drew (S := fun w' => ∀ o, w'.cell? ⟨w.heap.size, o, none⟩ = (qcells e pe ce m u)[o]?) (by kernel_rfl) hcD (fun hh => ?_)
      refine wpAnyH_take (fuel := 11) (i := 0) (oi := ⟨some 22, _, _, _, _, _⟩) (v := .pointer (some ⟨b, 0, none⟩)) rfl (by kernel_rfl) (by kernel_rfl) (by kernel_rfl) (fun _ _ _ h => h) (Or.inl ⟨by rfl, ?_⟩) hh ?_
      · intro w' _
        go_simp
      simp only [Act.put, List.setIfInBounds_toArray, List.set_cons_zero, List.set_cons_succ]
      refine wpAnyH_take (fuel := 10) (i := 1) (oi := ⟨some 23, _, _, _, _, _⟩) (v := .pointer (some ⟨w.heap.size, 5, none⟩)) rfl (by kernel_rfl) (by kernel_rfl) (by kernel_rfl) (fun _ _ _ h => h) (Or.inl ⟨by rfl, ?_⟩) hh ?_
      · intro w' _
        go_simp
      simp only [Act.put, List.setIfInBounds_toArray, List.set_cons_zero, List.set_cons_succ]
      refine wpAnyH_take (fuel := 9) (i := 2) (oi := ⟨some 24, _, _, _, _, _⟩) (v := .pointer (some ⟨w.heap.size, 7, none⟩)) rfl (by kernel_rfl) (by kernel_rfl) (by kernel_rfl) (fun _ _ _ h => h) (Or.inl ⟨by rfl, ?_⟩) hh ?_
      · intro w' _
        go_simp
      simp only [Act.put, List.setIfInBounds_toArray, List.set_cons_zero, List.set_cons_succ]
      refine wpAnyH_take (fuel := 8) (i := 3) (oi := ⟨some 25, _, _, _, _, _⟩) (v := .int .i64 m.fr) rfl (by kernel_rfl) (by kernel_rfl) (by kernel_rfl) (fun _ _ _ h => h) (Or.inl ⟨by rfl, ?_⟩) hh ?_
      · rintro w' c0
        go_simp
      simp only [Act.put, List.setIfInBounds_toArray, List.set_cons_zero, List.set_cons_succ]
      refine wpAnyH_take (fuel := 7) (i := 4) (oi := ⟨some 26, _, _, _, _, _⟩) (v := .pointer (some ⟨w.heap.size, 0, none⟩)) rfl (by kernel_rfl) (by kernel_rfl) (by kernel_rfl) (fun _ _ _ h => h) (Or.inl ⟨by rfl, ?_⟩) hh ?_
      · intro w' _
        go_simp
      simp only [Act.put, List.setIfInBounds_toArray, List.set_cons_zero, List.set_cons_succ]
      refine wpAnyH_take (fuel := 6) (i := 5) (oi := ⟨some 27, _, _, _, _, _⟩) (v := .pointer (some ⟨w.heap.size, 1, none⟩)) rfl (by kernel_rfl) (by kernel_rfl) (by kernel_rfl) (fun _ _ _ h => h) (Or.inl ⟨by rfl, ?_⟩) hh ?_
      · intro w' _
        go_simp
      simp only [Act.put, List.setIfInBounds_toArray, List.set_cons_zero, List.set_cons_succ]
      refine wpAnyH_take (fuel := 5) (i := 6) (oi := ⟨some 28, _, _, _, _, _⟩) (v := .agg (sval e.s pe ce)) rfl (by kernel_rfl) (by kernel_rfl) (by kernel_rfl) (fun _ _ _ h => h) (Or.inl ⟨by rfl, ?_⟩) hh ?_
      · rintro w' c0
        go_simp
      simp only [Act.put, List.setIfInBounds_toArray, List.set_cons_zero, List.set_cons_succ]
      refine wpAnyH_ready (fuel := 4) (rs := [7]) (by kernel_rfl) (by simp) ?_
      refine AllReadyH.cons (o := ⟨some 29, _, _, _, _, _⟩) rfl (fun K hK => ?_) AllReadyH.nil
      go_simp
      refine (HC.out _).mono ?_
      rintro _ w2 ⟨_, rfl, pq, cq, rfl, hi2, hb2, hf2⟩
      have T2 := HD.out.drew hb2
      generalize (newS e.s.c e.s.m).1 = s' at *
      show K _ _
      refine hK.out _ _ (T2.bx) (fun hh2 => ?_)
      clear hK K hh
      try simp only [Act.put, List.setIfInBounds_toArray, List.set_cons_zero, List.set_cons_succ]
      refine wpAnyH_take (fuel := 3) (i := 8) (oi := ⟨some 30, _, _, _, _, _⟩) (v := .agg #[.int .i64 m.fr, .int .i64 s'.c, .int .i64 s'.m, .slice pq s'.l.length cq, .bool s'.al]) rfl (by kernel_rfl) (by kernel_rfl) (by kernel_rfl) (fun _ _ _ h => h) (Or.inl ⟨by rfl, ?_⟩) hh2 ?_
      · intro w' _
        go_simp
      simp only [Act.put, List.setIfInBounds_toArray, List.set_cons_zero, List.set_cons_succ]
      refine wpAnyH_take (fuel := 2) (i := 9) (oi := ⟨some 31, _, _, _, _, _⟩) (v := .pointer (some ⟨b, 0, none⟩)) rfl (by kernel_rfl) (by kernel_rfl) (by kernel_rfl) (fun _ _ _ h => h) (Or.inl ⟨by rfl, ?_⟩) hh2 ?_
      · intro w' _
        go_simp
      simp only [Act.put, List.setIfInBounds_toArray, List.set_cons_zero, List.set_cons_succ]
      refine wpAnyH_take (fuel := 1) (i := 10) (oi := ⟨some 32, _, _, _, _, _⟩) (v := .pointer (some ⟨b, 0, none⟩)) rfl (by kernel_rfl) (by kernel_rfl) (by kernel_rfl) (fun _ _ _ h => h) (Or.inl ⟨by rfl, ?_⟩) hh2 ?_
      · intro w' _
        go_simp
      simp only [Act.put, List.setIfInBounds_toArray, List.set_cons_zero, List.set_cons_succ]
      refine wpAnyH_ready (fuel := 0) (rs := [11]) (by kernel_rfl) (by simp) ?_
      refine AllReadyH.cons (o := ⟨none, _, _, _, _, _⟩) rfl (fun K hK => ?_) AllReadyH.nil
      rw [if_pos (by rfl)]
      have hb3 := T2.tu.blk
      rw [List.take_length] at hb3
      refine wp_store_blk 26 (.tmp 32) (.tmp 30) rfl b 0 #[.int .i64 m.fr, .int .i64 s'.c, .int .i64 s'.m, .slice pq s'.l.length cq, .bool s'.al] rfl rfl 42 (tcells ⟨t.e, t.sent ++ invs m L, t.wr⟩ p' cap' v') (tcells ⟨⟨m.fr, s'⟩, t.sent ++ invs m L, t.wr⟩ pq cq v') hb3 (by simp) rfl (by intro i hi; match i, hi with | 0, _ => rfl | 1, _ => rfl | 2, _ => rfl | 3, _ => rfl | 4, _ => rfl | 5, _ => rfl | 6, _ => rfl) (by kernel_rfl) (by kernel_rfl) (fun w3 hst => ?_)
      have hc3 : ∀ o, w3.cell? ⟨w.heap.size, o, none⟩ = (qcells e pe ce m u)[o]? := fun o => (World.cell?_of_block (a := ⟨w.heap.size, o, none⟩) (hst.other w.heap.size (by omega))).trans (T2.bx o)
      refine hK.out _ _ hc3 (fun hh3 => ?_)
      clear hK K hh2
      simp only [Act.put]
      refine wpAnyH_done (by kernel_rfl) ?_ _
      refine NoPanic.normal ?_
      clear hh3
      have R := HD.out.finish hb2 hst hi2 hf2
      have HR := Lib.hid R
      clear hc3 hst hi2 hf2 hb2 T2 R hb3
      go_wp2_with fail
      go_end0
      rw [HT.out]
      exact HR.out _

end Go.Proofs.Ytfnemldjhfcalaa
