/-
  A new home: what is known of its lines at first.
-/
import Derived.Test.YtpknfbgnclgpmaaGreatDoorHoG
import Derived.Test.YtpknfbgnclgpmaaGreatDoorSplitLn
import Derived.Test.YtpknfbgnclgpmaaGreatDoorLayMe
namespace Go.Proofs.YtpknfbgnclgpmaaGreatDoor.Ho
open Go Go.RowKit Go.Maps

/-- A line's entry at first, and a home at first. -/
def e0 (c : Cfg) : Sh.En := ⟨-1, ⟨c.co, c.po, [], false⟩⟩
def s0 (c : Cfg) : Hs := ⟨fun _ => e0 c, List.replicate (c.wo * c.li).toNat 0, [], 0⟩
theorem e0_new {c : Cfg} (h : okC c = true) : Sh.newE c.co c.po = (e0 c, 0) := by
  have hs := sizes h
  unfold Sh.newE
  rw [if_pos (Sh.may_new.2 ⟨hs.1.1, hs.1.2, hs.2.2.2.1.1, hs.2.2.2.1.2⟩)]
  rfl
theorem e0_may {c : Cfg} (h : okC c = true) : Et c (e0 c) := by
  have hs := sizes h
  refine ⟨?_, rfl, rfl⟩
  have : Sh.mayB c.co c.po [] false = true := Sh.may_new.2 ⟨hs.1.1, hs.1.2, hs.2.2.2.1.1, hs.2.2.2.1.2⟩
  simp only [Sh.En.may, Sh.St.may, e0, this]
  rfl
theorem good0 {c : Cfg} {n : Int} (h : okC c = true) (h0 : 0 ≤ n) (h1 : n < c.ho) : Good c n (s0 c) := by
  have hs := sizes h
  exact ⟨h, h0, h1, Qu.Good.new hs.2.2.2.2.1 hs.2.2.2.2.2, fun x hx => (by cases hx), fun x hx => (by cases hx), fun y _ => e0_may h⟩
/-- Which lines are a home's. -/
theorem lns_own {c : Cfg} {n y : Int} (h : okC c = true) : (lns c n).contains y = ownB c n y := by
  rw [Bool.eq_iff_iff, List.contains_iff_mem]
  have hs := sizes h
  unfold lns
  rw [if_pos h]
  unfold lnsK
  simp only [List.mem_filter, List.mem_map, List.mem_range, beq_iff_eq]
  constructor
  · rintro ⟨⟨j, hj, rfl⟩, e⟩
    exact own_yes (by omega) (by omega) e
  · intro e
    have := own_of e
    exact ⟨⟨y.toNat, by omega, by omega⟩, this.2.2⟩

/-! unknown. -/
theorem map_none {o : Obj} {mb : Nat} {D : DataW Ec} (h : MapO o mb D) {W : World} (hW : W.heap[mb]? = some o) (j : Nat) : W.cell? ⟨mb, j, none⟩ = none := by
  obtain ⟨es, clock, h1, -⟩ := h W hW
  simp [World.cell?, h1]
/-- What has been told of the first k lines. -/
structure Unk (w : World) (c : Cfg) (L : List Int) (p : Option Addr) (k : Nat) (wr : World) : Prop where
  bx : wr.heap[w.heap.size]? = some (.cells #[.int .i64 c.co, .int .i64 c.ho, .int .i64 c.se, .int .i64 c.wa, .int .i64 c.wo, .int .i64 c.li, .int .i64 c.po, .int .i64 c.ms, .int .i64 c.bu, .int .i64 c.wb, .int .i64 c.r0, .int .i64 c.r1, .int .i64 c.r2] 24 (0, 0))
  bl : Below w.heap.size w wr
  ln : Sh.NumsIn wr p L
  mp : ∃ o D f g, wr.heap[w.heap.size + 1]? = some o ∧ MapO o (w.heap.size + 1) D ∧ Mp D f g ∧ Maps.size D ≤ k ∧ (∀ y, f y = (L.take k).contains y) ∧ (∀ y, f y = true → ∃ p cap, g y = ecOf (e0 c) p cap) ∧ ∀ y, f y = false → g y = z
theorem Unk.step {w wr wr' : World} {c : Cfg} {L : List Int} {p : Option Addr} {k : Nat} (h : Unk w c L p k wr) (hb : Below wr.heap.size wr wr') : Unk w c L p k wr' := by
  obtain ⟨o, D, f, g, h1, h2⟩ := h.mp
  exact ⟨(hb.block _ (Qu.lt_of_block h.bx)).trans h.bx, bstep h.bl hb, h.ln.step hb, o, D, f, g, (hb.block _ (Qu.lt_of_block h1)).trans h1, h2⟩
theorem take_more (L : List Int) (k : Nat) (hk : k < L.length) (y : Int) : (L.take (k + 1)).contains y = if y = L.getD k 0 then true else (L.take k).contains y := by
  rw [List.take_succ_eq_append_getElem hk, List.getD_eq_getElem?_getD, List.getElem?_eq_getElem hk, Option.getD_some]
  rw [Bool.eq_iff_iff, List.contains_iff_mem, List.mem_append, List.mem_singleton]
  by_cases e : y = L[k]
  · rw [if_pos e]; exact ⟨fun _ => rfl, fun _ => .inr e⟩
  · rw [if_neg e, List.contains_iff_mem]; exact ⟨fun h => h.resolve_right e, .inl⟩
/-- One line more. -/
theorem Unk.next {w wr : World} {c : Cfg} {L : List Int} {p : Option Addr} {k : Nat} (h : Unk w c L p k wr) (hk : k < L.length) (hn : L.length ≤ 1024) {y : Int} (hy : L.getD k 0 = y) (hx : (Lit.int .i64 y).wf = true) (q : Option Addr) (cap : Nat) :
    ∃ w', (Instr.mapUpdate 92 (.map (some (w.heap.size + 1))) (.int .i64 y) (Sh.ev (e0 c) q cap)).run Tryz.prog wr = .ok () w' ∧ Unk w c L p (k + 1) w' := by
  obtain ⟨o, D, f, g, h1, h2, h3, h4, h5, h6, h7⟩ := h.mp
  obtain ⟨w', o', D', k1, k2, k3, k4, k5, k6⟩ := h2.upd h1 h3 (by omega) hx (ecOf (e0 c) q cap)
  have hsz := Qu.lt_of_block h.bx
  refine ⟨w', k1, ⟨(k5.block _ hsz (by simp)).trans h.bx, h.bl.grown k5 h.bl.size (fun j hj => by cases hj; omega), ?_, o', D', _, _, k2, k3, k4, ?_, fun y' => ?_, fun y' hy' => ?_, fun y' hy' => ?_⟩⟩
  · refine h.ln.keep k5.size fun hl a ha hlt => k5.block _ hlt fun e => ?_
    have h0 : 0 < L.length := by omega
    obtain ⟨gg, off, e2, -, hc⟩ := h.ln 0 h0
    rw [ha] at e2
    cases e2
    have e' : gg = w.heap.size + 1 := by simpa using e
    rw [e', map_none h2 h1] at hc
    cases hc
  · rw [k6]; split <;> omega
  · rw [take_more L k hk, hy, h5]
  · by_cases e : y' = y
    · exact ⟨q, cap, by simp [e]⟩
    · rw [if_neg e] at hy' ⊢
      exact h6 y' hy'
  · by_cases e : y' = y
    · rw [if_pos e] at hy'; cases hy'
    · rw [if_neg e] at hy' ⊢
      exact h7 y' hy'
theorem nums_of_row {w : World} {B : Nat} {v : Value} {L : List Int} (h : Row w B v L) (hB : B ≤ w.heap.size) : ∃ p cap, v = .slice p L.length cap ∧ Sh.NumsIn w p L := by
  rcases h with ⟨rfl, rfl⟩ | ⟨g, cap, rfl, hg, hc⟩
  · exact ⟨none, 0, rfl, Sh.NumsIn.nil _ _⟩
  · exact ⟨_, cap, rfl, fun j hj => ⟨g, 0, rfl, by omega, by rw [Nat.zero_add]; exact hc j hj⟩⟩
theorem hWk {L : List Int} (h : ∀ k, k < L.length → (Lit.int .i64 (L.getD k 0)).wf = true) (k : Nat) (hk : k < L.length) {y : Int} (hy : L.getD k 0 = y) : (Lit.int .i64 y).wf = true := hy ▸ h k hk
/-- What unknown gives. -/
def UnkG (c : Cfg) (n : Int) (w : World) (e : Ending) (w' : World) : Prop := ∃ mb o D g, e = .returned (.map (some mb)) ∧ w'.heap[mb]? = some o ∧ w.heap.size ≤ mb ∧ Ents (ownB c n) (fun _ => e0 c) o mb [] D g ∧ Below w.heap.size w w'
set_option maxRecDepth 100000 in
set_option maxHeartbeats 4000000 in
theorem unknown_any (c : Cfg) (n : Int) (w : World) (hc : c.fits) (hT : Tb w) (ok : okC c = true) :
    Calls Tryz.prog 30 #[cv c, .int .i64 n] w (UnkG c n w) := by
  have hll := lns_le c n
  have HLn := Lib.hid (fun w1 (hb : Below w.heap.size w w1) => lines_any c n w1 hc (hT.keeps hb))
  have HTn := Lib.hid (fun w1 => Sh.tnew_any c.co c.po w1)
  rw [e0_new ok] at HTn
  have HO := Lib.hid (fun y => lns_own (n := n) (y := y) ok)
  have HWf : Hid (∀ k, k < (lns c n).length → (Lit.int .i64 ((lns c n).getD k 0)).wf = true) := Lib.hid (fun k hk => own_wf ok (by
    rw [← lns_own (n := n) ok, List.contains_iff_mem, List.getD_eq_getElem?_getD, List.getElem?_eq_getElem hk, Option.getD_some]
    exact List.getElem_mem hk))
  have HM := Lib.hid (MapO.new (w.heap.size + 1))
  have hmm := @run_makeMap Tryz.prog
  have K0 := H2.box w (.cells #[.int .i64 c.co, .int .i64 c.ho, .int .i64 c.se, .int .i64 c.wa, .int .i64 c.wo, .int .i64 c.li, .int .i64 c.po, .int .i64 c.ms, .int .i64 c.bu, .int .i64 c.wb, .int .i64 c.r0, .int .i64 c.r1, .int .i64 c.r2] 24) (.map #[] 0)
  have hk0 := Qu.blk_cell K0.a
  clear hc hT ok
  generalize lns c n = L at *
  go_enter Tryz.func30, Tryz.ntmps30
  go_wp2_with (first
    | (go_at_call 67; refine (HLn.out _ K0.below).mono ?_; rintro _ w1 ⟨v, rfl, hrow, hb1⟩; obtain ⟨p, cap, rfl, hn1⟩ := nums_of_row hrow (Nat.le_refl _); have U1 : Hid (Unk w c L p 0 w1) := Lib.hid ⟨(K0.step hb1).a, (K0.step hb1).below, hn1, .map #[] 0, _, _, _, (K0.step hb1).b, HM.out, Mp.empty, Nat.zero_le _, fun _ => rfl, fun _ h => (by cases h), fun _ _ => rfl⟩; clear hrow hb1 hn1 K0 hk0 hmm))
  go_loopw [13] (fun i wr => ∃ k : Nat, k ≤ L.length ∧ i = .int .i64 k ∧ Hid (Unk w c L p k wr)) (fun i _ => L.length - (intOf i).toNat)
  case atStart => exact ⟨0, Nat.zero_le _, rfl, U1⟩
  case round =>
    obtain ⟨k, hk, rfl, hU⟩ := hrel
    by_cases hlt : k < L.length
    · obtain ⟨g, off, rfl, -, hcl⟩ := hU.out.ln k hlt
      have hcb := Qu.blk_cell hU.out.bx
      obtain ⟨y, hy⟩ : ∃ y, L.getD k 0 = y := ⟨_, rfl⟩
      rw [hy] at hcl
      have HWy := Lib.hid (hWk HWf.out k hlt hy)
      have HY := Lib.hid hy
      clear hy
      go_wp2_with (first
        | (go_at_call 68; refine (HTn.out _).mono ?_; rintro _ w2 ⟨q2, c2, rfl, -, hb2⟩; obtain ⟨w3, hup, hU3⟩ := (hU.out.step hb2).next hlt hll HY.out HWy.out q2 c2; have HU3 := Lib.hid hU3; clear hU3 hb2 hcb hcl))
      go_roundw
      case rel => exact ⟨k + 1, by omega, by go_num, HU3⟩
      case measure => simp [intOf]; omega
    · obtain rfl : k = L.length := by omega
      obtain ⟨o, D, f, g, h1, h2, h3, h4, h5, h6, h7⟩ := hU.out.mp
      have HE : Hid (UnkG c n w (.returned (.map (some (w.heap.size + 1)))) wr) := Lib.hid ⟨_, o, D, g, rfl, h1, Nat.le_succ _, ⟨h2, h3.congr (fun y => by rw [h5, List.take_length, HO.out]) (fun _ => rfl), by omega, fun y hy => by
        obtain ⟨p', cap', e⟩ := h6 y (by rw [h5, List.take_length, HO.out]; exact hy)
        exact ⟨p', cap', e, NumsAt.nil _ _⟩, fun y hy => h7 y (by rw [h5, List.take_length, HO.out]; exact hy)⟩, hU.out.bl⟩
      clear h1 h2 h3 h4 h5 h6 h7
      go_wp2
      go_ret
      exact HE.out

end Go.Proofs.YtpknfbgnclgpmaaGreatDoor.Ho
