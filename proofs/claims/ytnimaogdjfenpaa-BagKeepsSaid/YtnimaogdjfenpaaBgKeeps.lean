/-
  BagKeeps, its walk.
-/
import Derived.Test.YtnimaogdjfenpaaBgP
import Derived.Test.YtnimaogdjfenpaaBgFirst
import Derived.Test.YtnimaogdjfenpaaBgOpenW
namespace Go.Proofs.Ytnimaogdjfenpaa
open Go Go.RowKit Go.Maps

theorem wpList_built {P : Program} {ops : Array Oper} {rest : List Oper} {o : Oper} {a : Act} {w : World} {Q : Exit → Act → World → Prop} (hg : o.guard = none) (t : TypeId) (parts : Array (Nat × Operand)) (ho : o.op = .build t parts)
    (vs : Array Value) (hv : P.built t (parts.map fun (i, x) => (i, a.eval x)).toList = some vs)
    (h : wpList P ops Q rest (a.put o.dst (.agg vs)) w) : wpList P ops Q (o :: rest) a w :=
  wpList_build hg t parts ho (by rw [hv]; rfl) (by rw [hv]; exact h)
theorem wpList_load_at {P : Program} {ops : Array Oper} {rest : List Oper} {op : Oper} {a : Act} {w : World} {Q : Exit → Act → World → Prop} (hgd : op.guard = none) (ty : TypeId) (x : Operand) (ho : op.op = .load ty x)
    (b o : Nat) (hx : a.eval x = .pointer (some ⟨b, o, none⟩)) (cs : Array Value) (d : TypeDesc) (hc : w.rangeAt b o cs.toList)
    (hu : P.underlying ty = some d) (hd : d.isRow = true) (hi : (P.info? ty).map (·.size) = some cs.toList.length)
    (h : wpList P ops Q rest (a.put op.dst (.agg cs)) w) : wpList P ops Q (op :: rest) a w :=
  wpList_load_mid hgd ty x ho b o hx cs.toList d hc hu hd hi (by simpa using h)
theorem keeps_long (room : Int) (p : Option Addr) (cap : Nat) (l : List Op3) (w : World) (hm : l.length ≤ 9223372036854775807) (h : 100 < l.length) :
    Calls Try.prog 4 #[.int .i64 room, .slice p l.length cap] w (Holds w) := by
  go_enter Try.func4, Try.ntmps4
  go_wp2_with (go_at_call 6; refine (awake_any _).mono ?_; rintro e w1 ⟨rfl, hb⟩)
  go_ret
  exact ⟨rfl, hb⟩
set_option maxRecDepth 100000 in
set_option maxHeartbeats 2000000 in
theorem keeps_no (room : Int) (p : Option Addr) (cap : Nat) (l : List Op3) (w : World) (h : l.length ≤ 100) (hr : room < 1 ∨ 4096 < room) :
    Calls Try.prog 4 #[.int .i64 room, .slice p l.length cap] w (Holds w) := by
  have HR := Lib.hid hr
  clear hr
  go_enter Try.func4, Try.ntmps4
  go_wp2_with (first
    | (go_at_call 6; refine (awake_any _).mono ?_; rintro e w1 ⟨rfl, hb⟩)
    | (go_at_call 19; refine (newM_no room _ HR.out).mono ?_; rintro e w1 ⟨rfl, rfl⟩))
  go_ret
  exact ⟨rfl, hb⟩

/-- How often a line is there. -/
def cn (s : List Mg) (q : Int) : Int := ((s.map (·.l)).count q : Nat)
/-- What holds at each round's head. -/
def KpRel (w : World) (b mb : Nat) (room : Int) (l : List Op3) (all t : Value) (wr : World) : Prop :=
  ∃ k : Nat, k ≤ l.length ∧ t = .int .i64 k ∧ ∃ (s : List Mg) (n : Nat), s.length ≤ k ∧ n ≤ k ∧ (s.length : Int) ≤ room ∧ all = .int .i64 s.length ∧ (∀ m ∈ s, (Lit.int .i64 m.l).wf = true) ∧ KS w b mb room s (cn s) n wr
/-- Behind the first half of a round. -/
def KpSt (w : World) (b mb : Nat) (room : Int) (k : Nat) (all : Value) (wr : World) : Prop :=
  ∃ (s : List Mg) (n : Nat), s.length ≤ k + 1 ∧ n ≤ k + 1 ∧ (s.length : Int) ≤ room ∧ all = .int .i64 s.length ∧ (∀ m ∈ s, (Lit.int .i64 m.l).wf = true) ∧ KS w b mb room s (cn s) n wr

/-- What holds at each round's head of the second loop. -/
def SubRel (w : World) (b mb : Nat) (room : Int) (s : List Mg) (p : Option Addr) (t : Value) (wr : World) : Prop :=
  ∃ j m : Nat, j ≤ s.length ∧ m ≤ 200 + j ∧ t = .int .i64 j ∧ KS w b mb room s (cn (s.drop j)) m wr ∧ MgsIn wr p s
abbrev mgl (x : Int) : Mg := ⟨0, x, 0, 0, 0, 0, 0, 0, 0, 0, 0, 0, 0, 0, 0⟩
theorem cn_bound (s : List Mg) (q : Int) : 0 ≤ cn s q ∧ cn s q ≤ s.length := by
  unfold cn
  have := List.count_le_length (a := q) (l := s.map (·.l))
  rw [List.length_map] at this
  omega
theorem cn_nil : cn [] = fun _ => 0 := by funext q; simp [cn]
theorem cn_snoc (s : List Mg) (m : Mg) : cn (s ++ [m]) = bump (cn s) m.l (cn s m.l + 1) := by
  funext q
  unfold cn bump
  rw [List.map_append, List.count_append]
  by_cases h : q = m.l
  · subst h
    simp
  · rw [if_neg h]
    have : List.count q [m.l] = 0 := by rw [List.count_eq_zero]; simpa using h
    simp [this]
theorem cn_erase (s : List Mg) (i : Nat) (m : Mg) (h : s[i]? = some m) : cn (s.eraseIdx i) = bump (cn s) m.l (cn s m.l - 1) ∧ 1 ≤ cn s m.l := by
  obtain ⟨hi, e⟩ := List.getElem?_eq_some_iff.1 h
  have hs : s = s.take i ++ m :: s.drop (i + 1) := by rw [← e, ← List.drop_eq_getElem_cons hi, List.take_append_drop]
  have hc : ∀ q, (s.map (·.l)).count q = ((s.eraseIdx i).map (·.l)).count q + [m.l].count q := fun q => by
    conv => lhs; rw [hs]
    rw [List.eraseIdx_eq_take_drop_succ, List.map_append, List.map_append, List.map_cons, List.count_append, List.count_append, List.count_cons, List.count_cons, List.count_nil]
    omega
  refine ⟨?_, ?_⟩
  · funext q
    unfold cn bump
    by_cases hq : q = m.l
    · subst hq
      rw [if_pos rfl, hc]
      simp
    · rw [if_neg hq]
      show _ = (((s.map (·.l)).count q : Nat) : Int)
      rw [hc]
      have : List.count q [m.l] = 0 := by rw [List.count_eq_zero]; simpa using hq
      simp [this]
  · unfold cn
    rw [hc]
    simp
    omega
theorem wf_small {c : Int} (h0 : -1000 ≤ c) (h1 : c ≤ 1000) : (Lit.int .i64 c).wf = true := by
  have e : IntKind.i64.min = -9223372036854775808 := by decide
  have e2 : IntKind.i64.max = 9223372036854775807 := by decide
  simp only [Lit.wf, Bool.and_eq_true, decide_eq_true_eq]
  omega
set_option maxRecDepth 1000000 in
set_option maxHeartbeats 4000000 in
theorem keeps_yes (room : Int) (p : Option Addr) (cap : Nat) (l : List Op3) (w : World) (hin : OpsInW w p l) (h : l.length ≤ 100) (h1 : 1 ≤ room) (h2 : room ≤ 4096) :
    Calls Try.prog 4 #[.int .i64 room, .slice p l.length cap] w (Holds w) := by
  have HI := Lib.hid hin
  have hmm := @run_makeMap Try.prog
  clear hin
  go_enter Try.func4, Try.ntmps4
  go_wp2_with (go_at_call 6; refine (awake_any _).mono ?_; rintro e w1 ⟨rfl, hb⟩)
  refine (KS.new w w1 room hb h1 h2).mono ?_
  rintro e w2 ⟨rfl, hk⟩
  have HK := Lib.hid hk
  clear hk hb
  go_wp2
  generalize w1.heap.size = b at HK ⊢
  obtain ⟨w3, hw3⟩ : ∃ w3, w3 = w2.alloc (.map #[] 0) := ⟨_, rfl⟩
  rw [← hw3] at HK ⊢
  clear hw3 hmm
  generalize w2.heap.size = mb at HK ⊢
  go_loopw [8, 35] (fun all t wr => KpRel w b mb room l all t wr) (fun _ t _ => l.length - (intOf t).toNat)
  case atStart => exact ⟨0, Nat.zero_le _, rfl, [], 0, Nat.le_refl _, Nat.le_refl _, by simp; omega, rfl, by simp, HK.out⟩
  case round =>
    obtain ⟨k, hk, rfl, s, n, hs1, hn1, hs2, rfl, hs3, hks⟩ := hrel
    have HB := Lib.hid hks
    have HJ := Lib.hid (HI.out.step hks.below)
    have HW := Lib.hid hs3
    clear hks hs3 HK
    by_cases hlt : k < l.length
    · obtain ⟨g, off, rfl, hg, hd, hx⟩ := HJ.out k hlt
      generalize l[k] = o at hd hx
      obtain ⟨d, x, hxw⟩ := o
      simp only at hd hx
      have HXW := Lib.hid hxw
      clear hxw
      rcases Decidable.em (d = 0) with rfl | hd0
      · by_cases hf : room = s.length
        · have HP := Lib.hid (fun o => (HB.out.step ((Below.refl _ wr).alloc (Nat.le_refl _) o)).full (mgl x) h2 hf)
          have hne : ((s.length : Int) != room) = false := by simp; omega
          have hgt : decide (room < (s.length : Int)) = false := by simp; omega
          clear hf
          as_aux_lemma =>
          go_wp2_with (first
            | ((with_reducible refine wpList_built (o := ⟨some 45, _, _, _, _, _⟩) rfl 52 _ rfl (mga (mgl x)) ?bv ?_); (case bv => kernel_rfl))
            | (go_at_call 20; refine (HP.out _).mono ?_; rintro e wa ⟨rfl, hk4⟩; have HK4 := Lib.hid hk4; clear hk4)
            | (go_at_call 22; refine (HK4.out.listN (by omega) s.length rfl).mono ?_; rintro e w5 ⟨⟨p5, c5, rfl, -⟩, hk5⟩; have HK5 := Lib.hid hk5; clear hk5)
            | (go_at_call 23; refine (HK5.out.leftN (by omega) h2 (by omega) (s.length : Int) rfl).mono ?_; rintro e w6 ⟨rfl, hk6⟩; have HK6 := Lib.hid hk6; clear hk6))
          go_roundw
          case rel => exact ⟨k + 1, by omega, by go_num, s, n, by omega, by omega, hs2, rfl, HW.out, HK6.out⟩
          case measure => simp [intOf]; omega
        · have hf' : (s.length : Int) < room := by omega
          clear hf
          have HP := Lib.hid (fun o => HB.out.putX o (mgl x) h2 hf')
          have hcb := cn_bound s x
          have hc0 := hcb.1
          have hc1 : cn s x ≤ 100 := by have := hcb.2; omega
          have HWF := Lib.hid (wf_small (c := cn s x + 1) (by omega) (by omega))
          clear hcb
          as_aux_lemma =>
          go_wp2_with (first
            | ((with_reducible refine wpList_built (o := ⟨some 45, _, _, _, _, _⟩) rfl 52 _ rfl (mga (mgl x)) ?bv ?_); (case bv => kernel_rfl))
            | (go_at_call 20; refine (HP.out _).mono ?_; rintro e wa ⟨rfl, ⟨v, D, hst⟩, hxb⟩; have HS := Lib.hid hst; have cx := blk_cell hxb 1; simp at cx; clear hst hxb)
            | (at_lookup; refine wpList_lookup_own_int _ rfl (.tmp 49) (.tmp 51) 53 rfl 3 3 .i64 law3 Try.underlying53 Try.underlying3 (zero3 _) mb n D rfl HS.out.map (.int .i64 x) (.int .i64 x) rfl (keyOf_int_mk Try.underlying3 HXW.out) ?_; intro c hat hwc; obtain rfl : c = cn s x := (by simpa using ((HS.out.cnt x).symm.trans hat).symm); clear hat hwc)
            | (at_mapUpdate; refine wpList_mapUpdate_own _ rfl (.tmp 49) (.tmp 51) (.tmp 53) 53 rfl 3 3 law3 Try.underlying53 _ mb n D rfl HS.out.map (by unfold maxLen; omega) (.int .i64 x) (.int .i64 (cn s x + 1)) (.int .i64 x) rfl rfl (keyOf_int_mk Try.underlying3 HXW.out) (.lit (.int .i64 (cn s x + 1))) [] (plainElem_int Try.underlying3 HWF.out) ?_))
          intro w4 hm4 hg4
          have HK4 : Hid (KS w b mb room (s ++ [mgl x]) (cn (s ++ [mgl x])) (n + 1) w4) := Lib.hid (by rw [cn_snoc]; exact HS.out.stored x (cn s x + 1) hm4 hg4)
          have HL := Lib.hid (show (s ++ [mgl x]).length = s.length + 1 by simp)
          have hgt : decide (room < (s.length : Int) + 1) = false := by simp; omega
          clear hm4 hg4 cx
          go_wp2_with (first
            | (go_at_call 22; refine (HK4.out.listN (by have := HL.out; omega) (s.length + 1) HL.out).mono ?_; rintro e w5 ⟨⟨p5, c5, rfl, -⟩, hk5⟩; have HK5 := Lib.hid hk5; clear hk5)
            | (go_at_call 23; refine (HK5.out.leftN (by omega) h2 (by have := HL.out; omega) ((s.length : Int) + 1) (by have := HL.out; omega)).mono ?_; rintro e w6 ⟨rfl, hk6⟩; have HK6 := Lib.hid hk6; clear hk6))
          go_roundw
          case rel => exact ⟨k + 1, by omega, by go_num, s ++ [mgl x], n + 1, by have := HL.out; omega, by omega, by have := HL.out; omega, by rw [HL.out]; go_num, fun m hm => by rcases List.mem_append.1 hm with h | h; exact HW.out m h; (rw [List.mem_singleton.1 h]; exact HXW.out), HK6.out⟩
          case measure => simp [intOf]; omega
      · have e0 : (d == 0) = false := by simpa using hd0
        clear hd0
        by_cases hf : x < 0 ∨ (s.length : Int) ≤ x
        · have HP := Lib.hid (fun o => (HB.out.step ((Below.refl _ wr).alloc (Nat.le_refl _) o)).takeNoX x (by omega) hf)
          have HBO := Lib.hid (fun o => (HB.out.step ((Below.refl _ wr).alloc (Nat.le_refl _) o)))
          have hgt : decide (room < (s.length : Int)) = false := by simp; omega
          rcases hf with hf | hf
          · have hx0 : decide ((0 : Int) ≤ x) = false := by simpa using hf
            as_aux_lemma =>
            go_wp2_with (first
              | (go_at_call 21; refine (HP.out _).mono ?_; rintro e wa ⟨rfl, hba⟩; have cx := (hba.cell (p := ⟨wr.heap.size, 1, none⟩) (by simp)).trans (blk_cell (heap_alloc_new wr _) 1); simp at cx; have HK4 := Lib.hid (((HBO.out _).step hba).step ((Below.refl _ wa).alloc (Nat.le_refl _) (.cells (mga m0) 52))); have cx2 := Lib.cell?_alloc_some (.cells (mga m0) 52) cx; clear hba)
              | (go_at_call 22; refine (HK4.out.listN (by omega) s.length rfl).mono ?_; rintro e w5 ⟨⟨p5, c5, rfl, -⟩, hk5⟩; have HK5 := Lib.hid hk5; clear hk5)
              | (go_at_call 23; refine (HK5.out.leftN (by omega) h2 (by omega) (s.length : Int) rfl).mono ?_; rintro e w6 ⟨rfl, hk6⟩; have HK6 := Lib.hid hk6; clear hk6))
            go_roundw
            case rel => exact ⟨k + 1, by omega, by go_num, s, n, by omega, by omega, hs2, rfl, HW.out, HK6.out⟩
            case measure => simp [intOf]; omega
          · have hx0 : decide ((0 : Int) ≤ x) = true := by simp; omega
            have hx1 : decide (x < (s.length : Int)) = false := by simp; omega
            as_aux_lemma =>
            go_wp2_with (first
              | (go_at_call 21; refine (HP.out _).mono ?_; rintro e wa ⟨rfl, hba⟩; have cx := (hba.cell (p := ⟨wr.heap.size, 1, none⟩) (by simp)).trans (blk_cell (heap_alloc_new wr _) 1); simp at cx; have HK4 := Lib.hid (((HBO.out _).step hba).step ((Below.refl _ wa).alloc (Nat.le_refl _) (.cells (mga m0) 52))); have cx2 := Lib.cell?_alloc_some (.cells (mga m0) 52) cx; clear hba)
              | (go_at_call 22; refine (HK4.out.listN (by omega) s.length rfl).mono ?_; rintro e w5 ⟨⟨p5, c5, rfl, -⟩, hk5⟩; have HK5 := Lib.hid hk5; clear hk5)
              | (go_at_call 23; refine (HK5.out.leftN (by omega) h2 (by omega) (s.length : Int) rfl).mono ?_; rintro e w6 ⟨rfl, hk6⟩; have HK6 := Lib.hid hk6; clear hk6))
            go_roundw
            case rel => exact ⟨k + 1, by omega, by go_num, s, n, by omega, by omega, hs2, rfl, HW.out, HK6.out⟩
            case measure => simp [intOf]; omega
        · obtain ⟨i, rfl⟩ : ∃ i : Nat, (i : Int) = x := ⟨x.toNat, by omega⟩
          obtain ⟨y, hy⟩ : ∃ y, s[i]? = some y := ⟨_, List.getElem?_eq_getElem (by omega)⟩
          have HP := Lib.hid (fun o => (HB.out.step ((Below.refl _ wr).alloc (Nat.le_refl _) o)).take i y (by omega) hy)
          obtain ⟨hce, hcy1⟩ := cn_erase s i y hy
          have HCE := Lib.hid hce
          have hcy2 : cn s y.l ≤ 100 := by have := (cn_bound s y.l).2; omega
          have HYW := Lib.hid (HW.out y (List.mem_of_getElem? hy))
          obtain ⟨N, hN⟩ : ∃ N, s.length = N + 1 := ⟨s.length - 1, by have := (List.getElem?_eq_some_iff.1 hy).1; omega⟩
          have HN := Lib.hid hN
          have HL := Lib.hid (show (s.eraseIdx i).length = N by rw [List.length_eraseIdx_of_lt (List.getElem?_eq_some_iff.1 hy).1]; omega)
          have hNe : (s.length : Int) - 1 = (N : Int) := by omega
          have hgt : decide (room < (N : Int)) = false := by simp; omega
          have hc0 := (cn_bound (s.eraseIdx i) y.l).1
          have HWF := Lib.hid (wf_small (c := cn s y.l - 1) (by omega) (by omega))
          have HSE := Lib.hid (fun m (hm : m ∈ s.eraseIdx i) => HW.out m (List.mem_of_mem_eraseIdx hm))
          have hNr : (N : Int) ≤ room := by omega
          clear hf hce hy hN
          as_aux_lemma =>
          go_wp2_with (first
            | (go_at_call 21; refine (HP.out _).mono ?_; rintro e wa ⟨rfl, hka⟩; have hmbl : mb < wa.heap.size := (by obtain ⟨_, _, h⟩ := hka; exact own_map_lt h.map); obtain ⟨v, D, hst⟩ := hka.step ((Below.refl _ wa).alloc (Nat.le_refl _) (.cells (mga y) 52)); have HS := Lib.hid hst; clear hst hka)
            | (at_lookup; refine wpList_lookup_own_int _ rfl (.tmp 72) (.tmp 74) 53 rfl 3 3 .i64 law3 Try.underlying53 Try.underlying3 (zero3 _) mb n D rfl HS.out.map (.int .i64 y.l) (.int .i64 y.l) rfl (keyOf_int_mk Try.underlying3 HYW.out) ?_; intro c hat hwc; obtain rfl : c = cn s y.l := (by simpa using ((HS.out.cnt y.l).symm.trans hat).symm); clear hat hwc)
            | (at_mapUpdate; refine wpList_mapUpdate_own _ rfl (.tmp 72) (.tmp 74) (.tmp 76) 53 rfl 3 3 law3 Try.underlying53 _ mb n D rfl HS.out.map (by unfold maxLen; omega) (.int .i64 y.l) (.int .i64 (cn s y.l - 1)) (.int .i64 y.l) rfl rfl (keyOf_int_mk Try.underlying3 HYW.out) (.lit (.int .i64 (cn s y.l - 1))) [] (plainElem_int Try.underlying3 HWF.out) ?_))
          intro w4 hm4 hg4
          have cy := blk_cell ((hg4.block wa.heap.size (by simp) (by simp; omega)).trans (heap_alloc_new wa _)) 1
          simp at cy
          have hk4 : KS w b mb room (s.eraseIdx i) (cn (s.eraseIdx i)) (n + 1) w4 := by rw [HCE.out]; exact HS.out.stored y.l (cn s y.l - 1) hm4 hg4
          obtain ⟨v4, D4, hst4⟩ := hk4
          have HS4 := Lib.hid hst4
          have HK4 : Hid (KS w b mb room (s.eraseIdx i) (cn (s.eraseIdx i)) (n + 1) w4) := Lib.hid ⟨v4, D4, hst4⟩
          clear hm4 hg4 hst4 HS
          go_wp2_with (first
            | (at_lookup; refine wpList_lookup_own_int _ rfl (.tmp 79) (.tmp 81) 53 rfl 3 3 .i64 law3 Try.underlying53 Try.underlying3 (zero3 _) mb (n + 1) D4 rfl HS4.out.map (.int .i64 y.l) (.int .i64 y.l) rfl (keyOf_int_mk Try.underlying3 HYW.out) ?_; intro c hat hwc; obtain rfl : c = cn (s.eraseIdx i) y.l := (by simpa using ((HS4.out.cnt y.l).symm.trans hat).symm); clear hat hwc)
            | (go_at_call 22; refine (HK4.out.listN (by have := HL.out; omega) N HL.out).mono ?_; rintro e w5 ⟨⟨p5, c5, rfl, -⟩, hk5⟩; have HK5 := Lib.hid hk5; clear hk5)
            | (go_at_call 23; refine (HK5.out.leftN (by omega) h2 (by have := HL.out; omega) (N : Int) (by have := HL.out; omega)).mono ?_; rintro e w6 ⟨rfl, hk6⟩; have HK6 := Lib.hid hk6; clear hk6))
          go_roundw
          case rel => exact ⟨k + 1, by omega, by go_num, s.eraseIdx i, n + 1, by have := HL.out; have := HN.out; omega, by omega, by have := HL.out; omega, by rw [HL.out], HSE.out, HK6.out⟩
          case measure => simp [intOf]; omega
    · obtain ⟨wo, rfl⟩ : ∃ wo : World, wo = wr := ⟨_, rfl⟩
      clear HJ
      as_aux_lemma =>
      go_wp2_with (go_at_call 22; refine (HB.out.list (by omega)).mono ?_; rintro e w5 ⟨⟨p5, c5, rfl, hin5⟩, hk5⟩; have HK5 := Lib.hid hk5; have HI5 := Lib.hid hin5; clear hk5 hin5)
      go_loopw [115] (fun t wr => SubRel w b mb room s p5 t wr) (fun t _ => s.length - (intOf t).toNat)
      case atStart => exact ⟨0, n, Nat.zero_le _, by omega, rfl, by simpa using HK5.out, HI5.out⟩
      case round =>
        obtain ⟨j, m, hj, hm, rfl, hks, hmi⟩ := hrel
        have HK := Lib.hid hks
        have HM := Lib.hid hmi
        clear hks hmi HK5 HI5 HB
        by_cases hlj : j < s.length
        · obtain ⟨y, hy⟩ : ∃ y, s[j]? = some y := ⟨_, List.getElem?_eq_getElem hlj⟩
          obtain ⟨g5, rfl, hg5, hr5⟩ := HM.out j y hy
          have hdr : (s.drop j)[0]? = some y := by rw [List.getElem?_drop]; exact hy
          obtain ⟨hce, hcy1⟩ := cn_erase (s.drop j) 0 y hdr
          rw [List.eraseIdx_zero, List.tail_drop] at hce
          have HCE := Lib.hid hce
          have hcy2 : cn (s.drop j) y.l ≤ 100 := by have := (cn_bound (s.drop j) y.l).2; rw [List.length_drop] at this; omega
          have HYW := Lib.hid (HW.out y (List.mem_of_getElem? hy))
          have HWF := Lib.hid (wf_small (c := cn (s.drop j) y.l - 1) (by omega) (by omega))
          have HR5 := Lib.hid hr5
          obtain ⟨v, D, hst⟩ := HK.out.step ((Below.refl _ wr).alloc (Nat.le_refl _) (.cells (mga y) 52))
          have HS := Lib.hid hst
          clear hce hdr hr5 hst hy
          go_wp2_with (first
            | ((with_reducible refine wpList_load_at (op := ⟨some 118, _, _, _, _, _⟩) rfl 52 (.tmp 117) rfl g5 (j * 15) ?lx (mga y) _ ?lc Try.underlying52 ?ld ?li ?_); (case lx => rfl); (case lc => exact HR5.out); (case ld => rfl); (case li => kernel_rfl))
            | (at_lookup; refine wpList_lookup_own_int _ rfl (.tmp 119) (.tmp 121) 53 rfl 3 3 .i64 law3 Try.underlying53 Try.underlying3 (zero3 _) mb m D rfl HS.out.map (.int .i64 y.l) (.int .i64 y.l) rfl (keyOf_int_mk Try.underlying3 HYW.out) ?_; intro c hat hwc; obtain rfl : c = cn (s.drop j) y.l := (by simpa using ((HS.out.cnt y.l).symm.trans hat).symm); clear hat hwc)
            | (at_mapUpdate; refine wpList_mapUpdate_own _ rfl (.tmp 119) (.tmp 121) (.tmp 123) 53 rfl 3 3 law3 Try.underlying53 _ mb m D rfl HS.out.map (by unfold maxLen; omega) (.int .i64 y.l) (.int .i64 (cn (s.drop j) y.l - 1)) (.int .i64 y.l) rfl rfl (keyOf_int_mk Try.underlying3 HYW.out) (.lit (.int .i64 (cn (s.drop j) y.l - 1))) [] (plainElem_int Try.underlying3 HWF.out) ?_))
          intro w6 hm6 hg6
          have HK6 : Hid (KS w b mb room s (cn (s.drop (j + 1))) (m + 1) w6) := Lib.hid (by rw [HCE.out]; exact HS.out.stored y.l (cn (s.drop j) y.l - 1) hm6 hg6)
          have HM6 : Hid (MgsIn w6 (some ⟨g5, 0, none⟩) s) := Lib.hid ((HM.out.step ((Below.refl _ wr).alloc (Nat.le_refl _) _)).stored HS.out.map hg6)
          clear hm6 hg6
          go_wp2
          go_roundw
          case rel => exact ⟨j + 1, m + 1, by omega, by omega, by go_num, HK6.out, HM6.out⟩
          case measure => simp [intOf]; omega
        · have hjl : j = s.length := by omega
          have HK0 : Hid (KS w b mb room s (fun _ => 0) m wr) := Lib.hid (by have := HK.out; rw [hjl, List.drop_length, cn_nil] at this; exact this)
          clear hjl
          obtain ⟨wp, rfl⟩ : ∃ wp : World, wp = wr := ⟨_, rfl⟩
          obtain ⟨v, D, hst⟩ := HK0.out
          have HS := Lib.hid hst
          clear hst HK HM
          go_wp2_with (at_range; refine wpList_range_own _ rfl (.tmp 125) 53 rfl 3 3 law3 Try.underlying53 _ mb m D rfl HS.out.map ?_; intro w0 hrg0 hg0 hs0)
          have HG0 := Lib.hid (HS.out.below.grown hg0 HS.out.below.size (by intro k hk; cases hk))
          have hsz := HS.out.below.size
          have HCN := Lib.hid HS.out.cnt
          have HR0 := Lib.hid hrg0
          clear hg0 hs0 hrg0
          go_frame
          go_loopw [] (fun wr => ∃ (left : Lit → Bool) (cnt : Nat), wr.ranges Try.prog 3 (plainElem (H := Unit) Try.prog 3) mb wp.heap.size m D left cnt ∧ Below w.heap.size w wr) (fun wr => wr.rangeLeft mb wp.heap.size)
          case atStart => exact ⟨_, _, HR0.out, HG0.out⟩
          case round =>
            obtain ⟨left, cnt, hrg, hbw⟩ := hrel
            have HRG := Lib.hid hrg
            have HBW := Lib.hid hbw
            clear hrg hbw HR0 HG0
            go_wp2_with (at_next; refine wpList_next_ranges_ii _ rfl (.tmp 126) rfl 3 3 .i64 .i64 law3 Try.underlying3 Try.underlying3 mb wp.heap.size m D left cnt rfl HRG.out ?_ ?_)
            · intro _ hl0
              go_wp2
              go_ret
              exact ⟨rfl, HBW.out⟩
            · intro x c w1 cnt1 hwx hwc hlx hat hrg1 hlt1 hg1 hs1' hen
              have hc0 : c = 0 := by have := (HCN.out x).symm.trans (hat (.lit (.int .i64 0))); simpa using this.symm
              subst hc0
              have HB1 := Lib.hid (HBW.out.grown hg1 HBW.out.size (by intro k hk; cases hk; exact hsz))
              have HR1 := Lib.hid hrg1
              clear hwx hwc hlx hat hg1 hs1' hrg1
              go_wp2
              go_roundw
              case rel => exact ⟨_, cnt1, HR1.out, HB1.out⟩
              case measure => rw [HR1.out.left_eq, HRG.out.left_eq]; exact hlt1

/-- BagKeeps, all ways. -/
theorem bagKeeps_any (room : Int) (p : Option Addr) (cap : Nat) (l : List Op3) (w : World) (hin : OpsInW w p l) (hm : l.length ≤ 9223372036854775807) :
    Calls Try.prog 4 #[.int .i64 room, .slice p l.length cap] w (Holds w) := by
  rcases Nat.lt_or_ge 100 l.length with h | h
  · exact keeps_long room p cap l w hm h
  · rcases (show (room < 1 ∨ 4096 < room) ∨ (1 ≤ room ∧ room ≤ 4096) by omega) with hr | ⟨h1, h2⟩
    · exact keeps_no room p cap l w h hr
    · exact keeps_yes room p cap l w hin h h1 h2

end Go.Proofs.Ytnimaogdjfenpaa
