/-
  What allMay, write and Print do, the program's: one contract each.
-/
import Derived.Test.YtjnbpohjdgnknaaDoorPgH
import Derived.Test.YtjnbpohjdgnknaaDoorPgG
import Derived.Laws.IdiomStrings
namespace Go.Proofs.YtjnbpohjdgnknaaDoor
open Go Go.RowKit

theorem opCells_at (l : List Op) (j : Nat) (h : j < l.length) : (opCells l)[j * 3]? = some (.int .i64 (l.getD j ⟨0, 0, 0⟩).k) ∧ (opCells l)[j * 3 + 1]? = some (.int .i64 (l.getD j ⟨0, 0, 0⟩).a) ∧ (opCells l)[j * 3 + 2]? = some (.int .i64 (l.getD j ⟨0, 0, 0⟩).v) := by
  induction l generalizing j with
  | nil => simp at h
  | cons x l ih =>
    cases j with
    | zero => simp [opCells]
    | succ j =>
      have := ih j (by simpa using h)
      have e : opCells (x :: l) = .int .i64 x.k :: .int .i64 x.a :: .int .i64 x.v :: opCells l := rfl
      rw [e, show (j + 1) * 3 = j * 3 + 3 by omega, show j * 3 + 3 + 1 = j * 3 + 1 + 3 by omega, show j * 3 + 3 + 2 = j * 3 + 2 + 3 by omega]
      simpa using this

/-- Where a slice's operations lie. -/
def OpsIn (w : World) (p : Option Addr) (l : List Op) : Prop :=
  ∀ j, j < l.length → ∃ g off, p = some ⟨g, off, none⟩ ∧ g < w.heap.size ∧ w.cell? ⟨g, off + j * 3, none⟩ = some (.int .i64 (l.getD j ⟨0, 0, 0⟩).k) ∧ w.cell? ⟨g, off + j * 3 + 1, none⟩ = some (.int .i64 (l.getD j ⟨0, 0, 0⟩).a) ∧ w.cell? ⟨g, off + j * 3 + 2, none⟩ = some (.int .i64 (l.getD j ⟨0, 0, 0⟩).v)
theorem OpsIn.step {w w' : World} {p : Option Addr} {l : List Op} (h : OpsIn w p l) (hb : Below w.heap.size w w') : OpsIn w' p l := fun j hj => by
  obtain ⟨g, off, e, hg, h0, h1, h2⟩ := h j hj
  exact ⟨g, off, e, Nat.lt_of_lt_of_le hg hb.size, (hb.cell (p := ⟨g, off + j * 3, none⟩) hg).trans h0, (hb.cell (p := ⟨g, off + j * 3 + 1, none⟩) hg).trans h1, (hb.cell (p := ⟨g, off + j * 3 + 2, none⟩) hg).trans h2⟩
theorem OpsAt.in_ {w : World} {v : Value} {l : List Op} (h : OpsAt w v l) : ∃ p cap, v = .slice p l.length cap ∧ OpsIn w p l := by
  rcases h with ⟨p, cap, rfl, _, rfl⟩ | ⟨g, off, cap, rfl, hg, hc⟩
  · exact ⟨p, cap, rfl, fun j hj => by simp at hj⟩
  · refine ⟨_, cap, rfl, fun j hj => ?_⟩
    have := opCells_at l j hj
    exact ⟨g, off, rfl, hg, hc _ _ this.1, hc _ _ this.2.1, hc _ _ this.2.2⟩

/-- The first so many may be. -/
def mayK (l : List Op) (k : Nat) : Prop := ∀ j, j < k → mayB (l.getD j ⟨0, 0, 0⟩) = true
theorem all_of {l : List Op} (h : mayK l l.length) : l.all mayB = true := by
  rw [List.all_eq_true]
  intro x hx
  obtain ⟨j, hj, rfl⟩ := List.getElem_of_mem hx
  have := h j hj
  rwa [List.getD_eq_getElem?_getD, List.getElem?_eq_getElem hj] at this
theorem all_no {l : List Op} {j : Nat} (hj : j < l.length) (h : mayB (l.getD j ⟨0, 0, 0⟩) = false) : l.all mayB = false := by
  rw [List.all_eq_false]
  refine ⟨l[j], List.getElem_mem hj, ?_⟩
  rw [List.getD_eq_getElem?_getD, List.getElem?_eq_getElem hj] at h
  simpa using h
theorem mayK_of {l : List Op} (h : l.all mayB = true) (j : Nat) (hj : j < l.length) : mayB (l.getD j ⟨0, 0, 0⟩) = true := by
  rw [List.getD_eq_getElem?_getD, List.getElem?_eq_getElem hj]
  exact List.all_eq_true.1 h _ (List.getElem_mem hj)

set_option maxHeartbeats 2000000 in
theorem allMay_any (l : List Op) (v : Value) (w : World) (hv : OpsAt w v l) (hl : l.length ≤ 5000) :
    Calls Tryd.prog 27 #[v] w fun e w' => e = .returned (.bool (l.all mayB)) ∧ Below w.heap.size w w' := by
  obtain ⟨p, cap, rfl, hin⟩ := hv.in_
  have HI := Lib.hid hin
  clear hv hin
  go_enter Tryd.func27, Tryd.ntmps27
  go_wp2
  go_loopw [7] (fun i wr => ∃ k : Nat, k ≤ l.length ∧ i = .int .i64 k ∧ Hid (mayK l k) ∧ Below w.heap.size w wr) (fun i _ => l.length - (intOf i).toNat)
  case atStart => exact ⟨0, Nat.zero_le _, rfl, Lib.hid (fun j hj => by omega), Below.refl _ _⟩
  case round =>
    obtain ⟨k, hk, rfl, HK, hb⟩ := hrel
    by_cases hlt : k < l.length
    · obtain ⟨g, off, rfl, hg, c0, c1, c2⟩ := (HI.out.step hb) k hlt
      rcases Bool.eq_false_or_eq_true (mayB (l.getD k ⟨0, 0, 0⟩)) with hm | hm
      · have HK2 : Hid (mayK l (k + 1)) := Lib.hid (fun j hj => by
          by_cases e : j = k
          · rw [e]; exact hm
          · exact HK.out j (by omega))
        have HM := Lib.hid hm
        clear hm HK
        generalize l.getD k ⟨0, 0, 0⟩ = x at *
        go_wp2_with (go_at_call 42; refine (may_any x _).mono ?_; rintro e w1 ⟨rfl, hb1⟩; rw [HM.out])
        go_roundw
        case rel => exact ⟨k + 1, by omega, by go_num, HK2, hb.trans ((bbox hb1).mono hb.size)⟩
        case measure => simp [intOf]; omega
      · have HN := Lib.hid (all_no hlt hm)
        have HM := Lib.hid hm
        clear hm HK
        generalize l.getD k ⟨0, 0, 0⟩ = x at *
        go_wp2_with (go_at_call 42; refine (may_any x _).mono ?_; rintro e w1 ⟨rfl, hb1⟩; rw [HM.out])
        go_ret
        exact ⟨by rw [HN.out]; rfl, hb.trans ((bbox hb1).mono hb.size)⟩
    · have HN : Hid (l.all mayB = true) := Lib.hid (by
        have : k = l.length := by omega
        subst this
        exact all_of HK.out)
      go_wp2
      go_ret
      exact ⟨by rw [HN.out]; rfl, hb⟩

theorem take_more (l : List Op) (k : Nat) (h : k < l.length) : l.take (k + 1) = l.take k ++ [l.getD k ⟨0, 0, 0⟩] := by
  rw [List.take_succ_eq_append_getElem h, List.getD_eq_getElem?_getD, List.getElem?_eq_getElem h]
  rfl
theorem text_first (l : List Op) (h : 0 < l.length) : text (l.take (0 + 1)) = [] ++ txt (l.getD 0 ⟨0, 0, 0⟩) := by
  rw [take_more l 0 h]
  simp [text]
theorem text_next (l : List Op) (k : Nat) (h : k < l.length) (hk : 0 < k) : text (l.take (k + 1)) = text (l.take k) ++ [32] ++ txt (l.getD k ⟨0, 0, 0⟩) := by
  rw [take_more l k h, text_more _ _ (by
    intro e
    have : (l.take k).length = 0 := by rw [e]; rfl
    rw [List.length_take] at this
    omega)]
  simp
theorem text_le (l : List Op) (h : l.all mayB = true) (k : Nat) : (text (l.take k)).length ≤ 18 * l.length := by
  have h1 := text_len (l.take k) (fun x hx => List.all_eq_true.1 h x (List.mem_of_mem_take hx))
  have h2 : (l.take k).length ≤ l.length := List.length_take_le' k l
  omega
theorem byte_new1 (w : World) (o : Obj) (c : Int) : ((w.alloc o).alloc (.cells #[.int .u8 c] 5)).heap[w.heap.size + 1]? = some (.cells #[.int .u8 c] 5 (0, 0)) := byte_new2 w o c

theorem pow_at {w w1 : World} (h : Pow w.heap.size w) (hb : Below w.heap.size w w1) : Pow w1.heap.size w1 := Lib.tabBelow_of_tabIs (h w1 hb)
theorem convert_nil (w : World) : (convert 47 9 (.slice none 0 0)).run Tryd.prog w = .ok (.string ⟨#[]⟩) w := by kernel_rfl

set_option maxRecDepth 100000 in
set_option maxHeartbeats 4000000 in
theorem write_any (l : List Op) (v : Value) (w : World) (hv : OpsAt w v l) (hl : l.length ≤ 200) (hm : l.all mayB = true) (hT : Pow w.heap.size w) :
    Calls Tryd.prog 52 #[v] w fun e w' => e = .returned (.string ⟨(text l).toArray⟩) ∧ Below w.heap.size w w' := by
  obtain ⟨i0, hi0, hz0, hz1, hz2⟩ := info_parts Tryd.infoByte
  obtain ⟨p, cap, rfl, hin⟩ := hv.in_
  have HI := Lib.hid hin
  have HM := Lib.hid hm
  have HT := Lib.hid hT
  clear hv hin hm hT
  go_enter Tryd.func52, Tryd.ntmps52
  go_wp2
  go_loopw [3, 8] (fun t i wr => ∃ k : Nat, k ≤ l.length ∧ i = .int .i64 k ∧ Hid (Txt wr w.heap.size t (text (l.take k))) ∧ Below w.heap.size w wr) (fun _ i _ => l.length - (intOf i).toNat)
  case atStart => exact ⟨0, Nat.zero_le _, rfl, Lib.hid (World.ownsRow_nil _ _ _ _), Below.refl _ _⟩
  case round =>
    obtain ⟨k, hk, rfl, HX, hb⟩ := hrel
    have hsz := hb.size
    by_cases hlt : k < l.length
    · obtain ⟨g, off, rfl, hg, c0, c1, c2⟩ := (HI.out.step hb) k hlt
      have hmx := Lib.hid (mayK_of HM.out k hlt)
      have hle := text_le l HM.out k
      have HP := Lib.hid (HT.out.on hb)
      rcases Nat.eq_zero_or_pos k with hk0 | hk0
      · have HE : Hid (text (l.take (k + 1)) = [] ++ txt (l.getD k ⟨0, 0, 0⟩)) := Lib.hid (by subst hk0; exact text_first l hlt)
        have HX0 : Hid (Txt wr w.heap.size _ []) := Lib.hid (by have e := HX.out; rw [hk0] at e; exact e)
        have hk1 : k ≤ 0 := by omega
        clear HX hle hk0
        generalize l.getD k ⟨0, 0, 0⟩ = x at *
        have L0 := Lib.hid (Lay.new (x := x) hsz HP.out)
        have T0 := Lib.hid (HX0.out.alloc (.cells #[.int .i64 x.k, .int .i64 x.a, .int .i64 x.v] 52))
        go_wp2_with (go_at_call 56; refine (appendOp_any w.heap.size _ [] x _ T0.out (by simp; omega) (by simp) hmx.out L0.out.pow).mono ?_; rintro e w1 ⟨v1, rfl, T1, b1, k1⟩)
        have hbw := hb.trans ((L0.out.call b1 k1).below)
        have T1' : Hid (Txt w1 w.heap.size v1 (text (l.take (k + 1)))) := Lib.hid (by rw [HE.out]; exact T1)
        clear T1 b1 k1
        go_roundw
        case rel => exact ⟨k + 1, by omega, by go_num, T1', hbw⟩
        case measure => simp [intOf]; omega
      · have HE := Lib.hid (text_next l k hlt hk0)
        generalize l.getD k ⟨0, 0, 0⟩ = x at *
        generalize text (l.take k) = bs at *
        have L0 := Lib.hid (Lay.new (x := x) hsz HP.out)
        have T0 := Lib.hid (HX.out.alloc (.cells #[.int .i64 x.k, .int .i64 x.a, .int .i64 x.v] 52))
        go_wp2_with (at_builtin; refine wpList_append_own _ rfl _ _ 47 rfl w.heap.size 5 i0 (.int .u8 0) 1 1 Tryd.underlying47 hi0 hz0 hz1 hz2 rfl (by decide) _ _ _ rfl (T0.out.alloc _) ⟨wr.heap.size + 1, 0, none⟩ 1 1 [Value.int .u8 32] rfl rfl (World.news_of_block (cs := #[.int .u8 32]) (t := 5) (fr := (0, 0)) (byte_new1 wr _ 32)) (by simp [Value.oneCell']) (by unfold maxLen; omega) (by omega) (by simp; omega) ?_)
        intro v1 w1 hown1 hg1 _
        have L1 := Lib.hid ((L0.out.alloc hsz _).grown hsz (T0.out.alloc _) hg1)
        have T1 := Lib.hid (Txt.more (c := 32) rfl hown1)
        clear hown1 hg1
        have d0 := L1.out.box.c0
        have d1 := L1.out.box.c1
        have d2 := L1.out.box.c2
        go_wp2_with (go_at_call 56; refine (appendOp_any w.heap.size _ (bs ++ [32]) x _ T1.out (L1.out.size hsz) (by simp; omega) hmx.out L1.out.pow).mono ?_; rintro e w2 ⟨v2, rfl, T2, b2, k2⟩)
        have hbw := hb.trans ((L1.out.call b2 k2).below)
        have T2' : Hid (Txt w2 w.heap.size v2 (text (l.take (k + 1)))) := Lib.hid (by rw [HE.out]; exact T2)
        clear T2 b2 k2
        go_roundw
        case rel => exact ⟨k + 1, by omega, by go_num, T2', hbw⟩
        case measure => simp [intOf]; omega
    · have HX1 : Hid (Txt wr w.heap.size _ (text l)) := Lib.hid (by
        have e := HX.out
        rwa [List.take_of_length_le (by omega)] at e)
      clear HX
      obtain ⟨bs, hbs⟩ : ∃ bs, bs = text l := ⟨_, rfl⟩
      rw [← hbs] at HX1
      have HB := Lib.hid hbs
      clear hbs
      rcases HX1.out.2 with ⟨rfl, h0⟩ | ⟨g, cap', cur, rfl, -, -, -, -, -, -⟩
      · have hnil : bs = [] := List.eq_nil_of_length_eq_zero h0
        subst hnil
        have hcv := convert_nil wr
        go_wp2
        go_ret
        exact ⟨by rw [← HB.out]; rfl, hb⟩
      · have hcv := run_convert_bytes_back (P := Tryd.prog) wr 47 9 5 ⟨g, 0, none⟩ cap' bs Tryd.underlying47 Tryd.underlying5 Tryd.underlying9 (fun j hj => HX1.out.cells (g := g) rfl j _ (by simp [Lib.byteCells, hj]))
        go_wp2
        go_ret
        exact ⟨by rw [← HB.out]; rfl, hb⟩

/-- What a call gives that tells a text and an error's number. -/
def RetS (w : World) (bs : List UInt8) (n : Int) (e : Ending) (w' : World) : Prop := e = .returned (.tuple #[.string ⟨bs.toArray⟩, .int .i64 n]) ∧ Below w.heap.size w w'

set_option maxHeartbeats 1000000 in
/-- Print, the program's. -/
theorem print_any (l : List Op) (v : Value) (w : World) (hv : OpsAt w v l) (hl : l.length ≤ 9223372036854775807) (hT : Pow w.heap.size w) :
    Calls Tryd.prog 44 #[v] w (RetS w (prt l).1 (prt l).2) := by
  have HV := Lib.hid hv
  have HT := Lib.hid hT
  obtain ⟨p, cap, rfl, -⟩ := hv.in_
  clear hv hT
  by_cases h64 : 64 < l.length
  · have HE : Hid (prt l = ([], 4)) := Lib.hid (by unfold prt; rw [if_pos h64])
    go_enter Tryd.func44, Tryd.ntmps44
    go_wp2
    go_ret2
    exact ⟨by rw [HE.out]; rfl, Below.refl _ _⟩
  · rcases Bool.eq_false_or_eq_true (l.all mayB) with hm | hm
    · have HE : Hid (prt l = (text l, 0)) := Lib.hid (by unfold prt; rw [if_neg h64, if_pos hm])
      have HM := Lib.hid hm
      clear hm
      go_enter Tryd.func44, Tryd.ntmps44
      go_wp2_with (first
        | (go_at_call 27; refine (allMay_any l _ _ HV.out (by omega)).mono ?_; rintro e w1 ⟨rfl, hb1⟩; rw [HM.out])
        | (go_at_call 52; refine (write_any l _ _ (HV.out.step hb1) (by omega) HM.out (pow_at HT.out hb1)).mono ?_; rintro e w2 ⟨rfl, hb2⟩))
      go_ret2
      exact ⟨by rw [HE.out]; rfl, bstep hb1 hb2⟩
    · have HE : Hid (prt l = ([], 1)) := Lib.hid (by unfold prt; rw [if_neg h64, hm]; rfl)
      have HM := Lib.hid hm
      clear hm
      go_enter Tryd.func44, Tryd.ntmps44
      go_wp2_with (go_at_call 27; refine (allMay_any l _ _ HV.out (by omega)).mono ?_; rintro e w1 ⟨rfl, hb1⟩; rw [HM.out])
      go_ret2
      exact ⟨by rw [HE.out]; rfl, hb1⟩

end Go.Proofs.YtjnbpohjdgnknaaDoor
