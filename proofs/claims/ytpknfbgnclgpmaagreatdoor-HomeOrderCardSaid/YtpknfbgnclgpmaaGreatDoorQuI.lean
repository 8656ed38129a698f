/-
  Sent.
-/
import Derived.Test.YtpknfbgnclgpmaaGreatDoorQuG
import Derived.Test.YtpknfbgnclgpmaaGreatDoorQuH
import Derived.StillTailTactics
namespace Go.Proofs.YtpknfbgnclgpmaaGreatDoor.Qu
open Go Go.RowKit

set_option maxHeartbeats 1000000 in
theorem sent_out {w : World} {B b : Nat} {room : Int} {l : List Ep} {v : Value} (h : BgP w B b room l v) (at_ : Int) (hn : at_ < 0 ∨ (l.length : Int) ≤ at_) :
    Calls Tryz.prog 63 #[.pointer (some ⟨b, 0, none⟩), .int .i64 at_] w fun e w' => e = .returned (.int .i64 5) ∧ Below w.heap.size w w' := by
  have HP := Lib.hid (entry_out h at_ hn)
  clear h hn
  go_enter Tryz.func63, Tryz.ntmps63
  go_wp2_with fail
  refine HP.out.mono ?_
  rintro e w1 ⟨rfl, rfl⟩
  go_wp2
  go_ret
  exact ⟨rfl, Below.refl _ _⟩
set_option maxHeartbeats 1000000 in
theorem sent_no {w : World} {B b : Nat} {room : Int} {l : List Ep} {v : Value} (h : BgP w B b room l v) (i : Nat) (x : Ep) (hx : l[i]? = some x) (hs : x.l = []) :
    Calls Tryz.prog 63 #[.pointer (some ⟨b, 0, none⟩), .int .i64 i] w fun e w' => e = .returned (.int .i64 7) ∧ Below w.heap.size w w' := by
  have hi := (List.getElem?_eq_some_iff.1 hx).1
  obtain ⟨g, cap, rfl, hbg, hgl, hBg, hr, hfz, _, _⟩ := h.one hx
  have HP := Lib.hid (entry_at h i hi)
  have c16 := hr 16 _ rfl
  rw [hs] at c16
  simp at c16
  clear h hx hr hfz hs
  go_enter Tryz.func63, Tryz.ntmps63
  go_wp2_with fail
  refine HP.out.mono ?_
  rintro e w1 ⟨rfl, rfl⟩
  go_wp2
  go_ret
  exact ⟨rfl, Below.refl _ _⟩

theorem A35s : (Tryz.prog.info? 38).map (·.size) = some 15 := by kernel_rfl
/-- What is left of a list without its first, and without room for more. -/
theorem slice3 (g o n c : Nat) (h : n + 1 ≤ c) : ∃ D : Addr, (∀ w, (Instr.slice 78 (.slice (some ⟨g, o, none⟩) (n + 1) c) (some (.int .i64 1)) (some (.int .i64 ((n : Int) + 1))) (some (.int .i64 ((n : Int) + 1)))).run Tryz.prog w = .ok (.slice (some D) n n) w) ∧ D.block = g ∧ (n ≠ 0 → D = ⟨g, o + 15, none⟩) := by
  have he : Tryz.prog.elem 78 = 38 := by kernel_rfl
  have hs : ∀ w, (sizeOf 38).run Tryz.prog w = .ok 15 w := fun w => by kernel_rfl
  have hu : Tryz.prog.underlying 78 = some (.slice (Tryz.prog.elem 78)) := by rw [he]; exact Tryz.underlying78
  have hr := fun w => run_slice_lhm (P := Tryz.prog) w 78 (some ⟨g, o, none⟩) (n + 1) c hu .i64 .i64 .i64 1 ((n : Int) + 1) ((n : Int) + 1) (by omega) (by omega) (by omega) (by omega)
  have e1 : ((n : Int) + 1).toNat = n + 1 := by omega
  by_cases h0 : n = 0
  · subst h0
    refine ⟨⟨g, o, none⟩, fun w => ?_, rfl, fun h => absurd rfl h⟩
    rw [hr w, he, hs]
    rfl
  · refine ⟨⟨g, o + 15, none⟩, fun w => ?_, rfl, fun _ => rfl⟩
    rw [hr w, he, hs]
    simp only [Result.andThen, sliced, e1]
    rw [if_neg (by simp; omega)]
    simp [Addr.add_lit]

/-- An entry with its first message gone. -/
abbrev cutE (x : Ep) (r : List Msg) (D : Addr) : Ep := ⟨x.m, x.st, r, some D, r.length⟩
theorem MIn.cut {w : World} {g o : Nat} {m : Msg} {r : List Msg} {D : Addr} (h : MIn w (some ⟨g, o, none⟩) (m :: r)) (hD : r.length ≠ 0 → D = ⟨g, o + 15, none⟩) : MIn w (some D) r := fun i x hx => by
  obtain ⟨g', o', e, hg, hr⟩ := h (i + 1) x hx
  cases e
  have := (List.getElem?_eq_some_iff.1 hx).1
  rw [hD (by omega)]
  refine ⟨g, o + 15, rfl, hg, ?_⟩
  rw [show o + 15 + i * 15 = o + (i + 1) * 15 by omega]
  exact hr
section
variable {w w1 : World} {B b : Nat} {room : Int} {l : List Ep} {g cap : Nat}
theorem cut_gave (h : QuP w B b room l (.slice (some ⟨g, 0, none⟩) l.length cap)) (hb : Below w.heap.size w w1) {i : Nat} {x : Ep} (hx : l[i]? = some x) {r : List Msg} (D : Addr) :
    PutGave 140 80 17 ec w B b room (l.set i (cutE x r D)) (.slice (some ⟨g, 0, none⟩) l.length cap) (w1.setCell ⟨g, i * 17 + 16, none⟩ (.slice (some D) r.length r.length)) ∧ BgP (w1.setCell ⟨g, i * 17 + 16, none⟩ (.slice (some D) r.length r.length)) B b room (l.set i (cutE x r D)) (.slice (some ⟨g, 0, none⟩) (l.set i (cutE x r D)).length cap) := by
  have hin : ∀ m, m < [Value.slice (some D) r.length r.length].length → (ec (cutE x r D))[16 + m]? = [Value.slice (some D) r.length r.length][m]? := fun m hm => by
    simp at hm
    subst hm
    rfl
  have hout : ∀ m, m < 17 → m < 16 ∨ 16 + [Value.slice (some D) r.length r.length].length ≤ m → (ec (cutE x r D))[m]? = (ec x)[m]? := fun m hm hm2 => by
    simp at hm2
    rcases (show m = 0 ∨ m = 1 ∨ m = 2 ∨ m = 3 ∨ m = 4 ∨ m = 5 ∨ m = 6 ∨ m = 7 ∨ m = 8 ∨ m = 9 ∨ m = 10 ∨ m = 11 ∨ m = 12 ∨ m = 13 ∨ m = 14 ∨ m = 15 by omega) with rfl | rfl | rfl | rfl | rfl | rfl | rfl | rfl | rfl | rfl | rfl | rfl | rfl | rfl | rfl | rfl
    all_goals rfl
  refine ⟨gave_store h.bg hb hx (cutE x r D) 16 [.slice (some D) r.length r.length] (by simp) hin hout, ?_⟩
  rw [List.length_set]
  exact (h.bg.below hb).store hx (cutE x r D) 16 [.slice (some D) r.length r.length] (by simp) hin hout
theorem cut_sd (h : QuP w B b room l (.slice (some ⟨g, 0, none⟩) l.length cap)) {i : Nat} {x : Ep} (hx : l[i]? = some x) {m : Msg} {r : List Msg} (hs : x.l = m :: r) {g2 o2 : Nat} (hp : x.p = some ⟨g2, o2, none⟩) {D : Addr} (hD1 : D.block = g2) (hD2 : r.length ≠ 0 → D = ⟨g2, o2 + 15, none⟩) : MIn w (cutE x r D).p (cutE x r D).l ∧ ∀ a, (cutE x r D).p = some a → Rf l a.block := by
  have hm := List.mem_of_getElem? hx
  have h1 := (h.sd x hm).1
  rw [hp, hs] at h1
  exact ⟨h1.cut hD2, fun a ha => ⟨x, hm, by simp [hs], ⟨g2, o2, none⟩, hp, by cases ha; exact hD1.symm⟩⟩
end

theorem PutGave.later {T e : TypeId} {w w1 w2 : World} {B b : Nat} {room : Int} {l : List Ep} {v : Value} (h : PutGave T e 17 ec w B b room l v w1) (hb : Below w1.heap.size w1 w2) : PutGave T e 17 ec w B b room l v w2 := by
  obtain ⟨v', h1, h2, h3⟩ := h
  exact ⟨v', h1.below hb, h2.trans (.of_below hb) h3, h3⟩
theorem PutGave.then_ {T e : TypeId} {w w4 w5 : World} {B b : Nat} {room : Int} {m l4 : List Ep} {v : Value} (h4 : PutGave T e 17 ec w B b room l4 v w4) (h5 : PutGave T e 17 ec w4 B b room m v w5) : PutGave T e 17 ec w B b room m v w5 := by
  obtain ⟨v4, -, h2, -⟩ := h4
  obtain ⟨v5, k1, k2, k3⟩ := h5
  exact ⟨v5, k1, h2.trans k2 (Fresh.refl _ _), fun k hk => (k3 k hk).imp id fun h => Nat.le_trans h2.size h⟩

set_option maxRecDepth 100000 in
set_option maxHeartbeats 4000000 in
theorem sent_yes {w : World} {B b : Nat} {room : Int} {l : List Ep} {g cap : Nat} (h : QuP w B b room l (.slice (some ⟨g, 0, none⟩) l.length cap)) (i : Nat) (x : Ep) (hx : l[i]? = some x) (hl : l.length ≤ 5000) (hf : x.l.length ≤ 5000) (hst : x.st = true) {m : Msg} {r : List Msg} (hs : x.l = m :: r) :
    Calls Tryz.prog 63 #[.pointer (some ⟨b, 0, none⟩), .int .i64 i] w (GaveN w B b room l (.slice (some ⟨g, 0, none⟩) l.length cap) (sentP (l.map Ep.pl) i)) := by
  have hi := (List.getElem?_eq_some_iff.1 hx).1
  have hgl := (h.bg.row.lt g rfl).2
  have hlc := h.cp x (List.mem_of_getElem? hx)
  obtain ⟨g', cap', e0, -, -, -, hr, hfz, -, -⟩ := h.bg.one hx
  obtain ⟨rfl, rfl⟩ : g = g' ∧ cap = cap' := by simpa using e0
  have HP := Lib.hid (entry_at h.bg i hi)
  obtain ⟨g2, o2, hp, hg2, -⟩ := (h.sd x (List.mem_of_getElem? hx)).1 0 m (by rw [hs]; rfl)
  have c16 := hr 16 _ rfl
  have f16 := hfz (i * 17 + 16)
  rw [hp] at c16
  obtain ⟨n, hn⟩ : ∃ n, n = r.length := ⟨_, rfl⟩
  have hxl : x.l.length = n + 1 := by rw [hs, hn]; rfl
  rw [hxl] at c16 hf hlc
  obtain ⟨c, hc⟩ : ∃ c, c = x.c := ⟨_, rfl⟩
  rw [← hc] at c16 hlc
  obtain ⟨D, hsl, hD1, hD2⟩ := slice3 g2 o2 n c hlc
  obtain ⟨y, hy⟩ : ∃ y : Ep, y = cutE x r D := ⟨_, rfl⟩
  have hyl : y.l = r := by rw [hy]
  have hyi : (l.set i y)[i]? = some y := by rw [List.getElem?_set_self hi]
  have HC : Hid (∀ w1, Below w.heap.size w w1 → PutGave 140 80 17 ec w B b room (l.set i y) (.slice (some ⟨g, 0, none⟩) l.length cap) (w1.setCell ⟨g, i * 17 + 16, none⟩ (.slice (some D) n n)) ∧ BgP (w1.setCell ⟨g, i * 17 + 16, none⟩ (.slice (some D) n n)) B b room (l.set i y) (.slice (some ⟨g, 0, none⟩) (l.set i y).length cap)) := Lib.hid (fun w1 hb => by rw [hy, hn]; exact cut_gave h hb hx D)
  have HR : Hid (∀ w1, Below w.heap.size w w1 → (w1.setCell ⟨g, i * 17 + 16, none⟩ (.slice (some D) n n)).rangeAt g (i * 17) (ec y)) := Lib.hid (fun w1 hb => by
    obtain ⟨g', cap', e0, -, -, -, hr, -⟩ := (HC.out w1 hb).2.one hyi
    obtain ⟨rfl, -⟩ : g = g' ∧ cap = cap' := by simpa using e0
    exact hr)
  have HS := Lib.hid (cut_sd h hx hs hp hD1 (by rw [← hn]; exact hD2))
  rw [← hy] at HS
  have HYl : Hid (l.set i y = l.set i (cutE x r D)) := Lib.hid (by rw [hy])
  have hym : y.m.kd = x.m.kd := by rw [hy]
  have hya : sentAll y.pl = r.isEmpty := by
    have e : sentAll y.pl = (y.st && y.l.isEmpty) := rfl
    rw [e, hyl, hy]
    simp [hst]
  have HA := Lib.hid hya
  have HN := Lib.hid hn
  have HK := Lib.hid hym
  have HYI := Lib.hid hyi
  have H := Lib.hid h
  have HX := Lib.hid hx
  have HXS := Lib.hid hs
  have HST := Lib.hid hst
  have HCP : Hid (∀ z ∈ l.set i y, z.l.length ≤ z.c) := Lib.hid (fun z hz => by
    rcases List.mem_or_eq_of_mem_set hz with hz | rfl
    · exact h.cp z hz
    · rw [hy]; exact Nat.le_refl _)
  have HPL : Hid ((l.set i y).map Ep.pl = (l.map Ep.pl).set i ⟨x.m, x.st, r⟩) := Lib.hid (by rw [List.map_set, hy]; rfl)
  clear h hx hr hfz hs hp hxl e0 hn hc hD1 hD2 hym hya hyi hy hyl hst
  go_enter Tryz.func63, Tryz.ntmps63
  go_wp2_with fail
  refine HP.out.mono ?_
  rintro e w1 ⟨rfl, rfl⟩
  go_wp2_with fail
  go_still_tail 16, (by kernel_rfl)
  change wpList _ _ _ _ _ (World.drew _)
  have hbd : Below w1.heap.size w1 w1.drew := (Below.refl _ _).drew
  have c16' : w1.drew.cell? ⟨g, i * 17 + 16, none⟩ = some (.slice (some ⟨g2, o2, none⟩) (n + 1) c) := c16
  have f16' : w1.drew.frozen? ⟨g, i * 17 + 16, none⟩ = false := f16
  have HC2 := Lib.hid (HC.out _ hbd)
  have HR2 := Lib.hid (HR.out _ hbd)
  have HBD := Lib.hid hbd
  clear c16 f16 hbd HC HR HP
  generalize w1.drew = w2 at *
  go_wp2_with (first
    | ((with_reducible refine wpList_load_at (op := ⟨some 39, _, _, _, _, _⟩) rfl 80 (.tmp 38) rfl g (i * 17) ?lx (ecells y) _ ?lc Tryz.underlying80 ?ld ?li ?_); (case lx => rfl); (case lc => exact HR2.out); (case ld => rfl); (case li => kernel_rfl))
    | fail)
  obtain ⟨w3, hw3⟩ : ∃ w3, w3 = w2.setCell ⟨g, i * 17 + 16, none⟩ (.slice (some D) n n) := ⟨_, rfl⟩
  rw [← hw3] at HC2 HR2 ⊢
  clear c16' f16' hw3
  refine (all_any y w3).mono ?_
  rintro e w4 ⟨rfl, hb4⟩
  have k0 : w4.cell? ⟨g, i * 17, none⟩ = some (.int .i64 y.m.kd) := by
    obtain ⟨g', cap', e0, -, hgl3, -, hr, -⟩ := HC2.out.2.one HYI.out
    obtain ⟨rfl, -⟩ : g = g' ∧ cap = cap' := by simpa using e0
    exact (hb4.cell (p := ⟨g, i * 17, none⟩) hgl3).trans (hr 0 _ rfl)
  have HQ : Hid (∀ w5, PutGave 140 80 17 ec w1 B b room (l.set i y) (.slice (some ⟨g, 0, none⟩) l.length cap) w5 → ¬ (r = [] ∧ x.m.kd = 3) → GaveN w1 B b room l (.slice (some ⟨g, 0, none⟩) l.length cap) (sentP (l.map Ep.pl) i) (.returned (.int .i64 0)) w5) := Lib.hid (fun w5 hp hk => by
    rw [sentP_yes (pl_at HX.out) HXS.out hk]
    refine ⟨rfl, ?_⟩
    have := H.out.gaveOld hp HCP.out fun z hz hne => by
      rcases List.mem_or_eq_of_mem_set hz with hz | rfl
      · exact H.out.of_mem hz hne
      · exact HS.out
    rw [HPL.out] at this
    exact this)
  have HP4 := Lib.hid (HC2.out.1.later hb4)
  rcases Bool.eq_false_or_eq_true (sentAll y.pl) with ha | ha
  · rcases Bool.eq_false_or_eq_true (y.m.kd == 3) with hk | hk
    · have hr0 : r = [] := by have := HA.out; rw [ha] at this; exact List.isEmpty_iff.1 this.symm
      have hk3 : x.m.kd = 3 := by have := HK.out; rw [← this]; simpa using hk
      have HR4 := Lib.hid (rem_at (HC2.out.2.below hb4) i (by rw [List.length_set]; exact hi) (by rw [List.length_set]; exact hl))
      have HF : Hid (∀ w5, PutGave 140 80 17 ec w1 B b room (l.eraseIdx i) (.slice (some ⟨g, 0, none⟩) l.length cap) w5 → GaveN w1 B b room l (.slice (some ⟨g, 0, none⟩) l.length cap) (sentP (l.map Ep.pl) i) (.returned (.int .i64 0)) w5) := Lib.hid (fun w5 hp => by
        have hs := HXS.out
        rw [hr0] at hs
        rw [sentP_gone (pl_at HX.out) hs hk3]
        refine ⟨rfl, ?_⟩
        have := H.out.gaveOld hp (fun z hz => H.out.cp z (List.mem_of_mem_eraseIdx hz)) fun z hz hne => H.out.of_mem (List.mem_of_mem_eraseIdx hz) hne
        rw [map_erase] at this
        exact this)
      rw [ha]
      clear hr0 hk3 hb4 ha HQ
      go_wp2_with fail
      refine HR4.out.mono ?_
      rintro e w5 ⟨⟨u, rfl⟩, R⟩
      rw [List.length_set] at R
      have R5 := Lib.hid (HP4.out.then_ R)
      clear R
      go_wp2
      go_ret
      refine HF.out _ ?_
      have := R5.out
      rw [List.eraseIdx_set_eq] at this
      exact this
    · have HF := Lib.hid (HQ.out _ HP4.out (fun ⟨_, h3⟩ => by have := HK.out; rw [h3] at this; simp [this] at hk))
      rw [ha]
      clear hb4 ha HQ
      go_wp2
      go_ret
      exact HF.out
  · have HF := Lib.hid (HQ.out _ HP4.out (fun ⟨h3, _⟩ => by have := HA.out; rw [ha, h3] at this; cases this))
    rw [ha]
    clear hb4 ha HQ
    go_wp2
    go_ret
    exact HF.out
/-- Sent. -/
theorem sent_any {w : World} {B b : Nat} {room : Int} {l : List Ep} {v : Value} (h : QuP w B b room l v) (at_ : Int) (hl : l.length ≤ 5000) (hf : ∀ x ∈ l, x.l.length ≤ 5000) (hst : ∀ x ∈ l, x.l ≠ [] → x.st = true) :
    Calls Tryz.prog 63 #[.pointer (some ⟨b, 0, none⟩), .int .i64 at_] w (GaveN w B b room l v (sentP (l.map Ep.pl) at_)) := by
  rcases at_cases l at_ with ho | ⟨i, x, rfl, hx⟩
  · rw [sentP_out (by rwa [pl_len])]
    exact (sent_out h.bg at_ ho).mono fun e w' ⟨he, hb⟩ => ⟨he, h.gave_same hb⟩
  · have hm := List.mem_of_getElem? hx
    rcases hs : x.l with _ | ⟨m, r⟩
    · rw [sentP_no (pl_at hx) hs]
      exact (sent_no h.bg i x hx hs).mono fun e w' ⟨he, hb⟩ => ⟨he, h.gave_same hb⟩
    · obtain ⟨g, cap, rfl, -⟩ := h.bg.one hx
      exact sent_yes h i x hx hl (hf x hm) (hst x hm (by simp [hs])) hs

end Go.Proofs.YtpknfbgnclgpmaaGreatDoor.Qu
