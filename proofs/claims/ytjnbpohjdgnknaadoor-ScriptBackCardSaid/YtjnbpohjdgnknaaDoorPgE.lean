/-
  What the program's reader does at an operation's end, and with any rune: one contract each.
-/
import Derived.Test.YtjnbpohjdgnknaaDoorPgD
namespace Go.Proofs.YtjnbpohjdgnknaaDoor
open Go Go.RowKit

set_option maxHeartbeats 1000000 in
theorem finNo_0 (b base : Nat) (x : Op) (pl : Nat) (num : Num) (v : Value) (w : World) (h : At w b (rdL v x pl num)) (hp : pl ≠ 1 ∧ pl ≠ 2 ∧ pl ≠ 3) :
    Calls Tryd.prog 58 #[.pointer (some ⟨b, 0, none⟩)] w (Gave b base none w) := by
  have e1 : ((pl : Int) == 1) = false := by simp; omega
  have e2 : ((pl : Int) == 2) = false := by simp; omega
  have e3 : ((pl : Int) == 3) = false := by simp; omega
  have hc1 := h.cell 1
  have hc2 := h.cell 2
  have hc3 := h.cell 3
  have hc4 := h.cell 4
  have H := Lib.hid h
  clear h
  simp at hc1 hc2 hc3 hc4
  clear hp
  go_enter Tryd.func58, Tryd.ntmps58
  go_wp2
  go_ret
  exact gave_false rfl (Kept.refl _ _ _)

theorem finNo_k (b base : Nat) (x : Op) (num : Num) (v : Value) (w : World) (h : At w b (rdL v x 1 num)) (hk : (x.k == 1) = false) :
    Calls Tryd.prog 58 #[.pointer (some ⟨b, 0, none⟩)] w (Gave b base none w) := by
  have hc1 := h.cell 1
  have hc2 := h.cell 2
  have hc3 := h.cell 3
  have hc4 := h.cell 4
  have H := Lib.hid h
  clear h
  simp at hc1 hc2 hc3 hc4
  go_enter Tryd.func58, Tryd.ntmps58
  go_wp2
  go_ret
  exact gave_false rfl (Kept.refl _ _ _)

theorem finNo_3 (b base : Nat) (x : Op) (num : Num) (v : Value) (w : World) (hb : b < base) (hbase : base ≤ w.heap.size) (h : At w b (rdL v x 3 num)) (hm : mayB x = false) :
    Calls Tryd.prog 58 #[.pointer (some ⟨b, 0, none⟩)] w (Gave b base none w) := by
  have hc1 := h.cell 1
  have hc2 := h.cell 2
  have hc3 := h.cell 3
  have hc4 := h.cell 4
  have H := Lib.hid h
  clear h
  simp at hc1 hc2 hc3 hc4
  have HM := Lib.hid hm
  clear hm
  go_enter Tryd.func58, Tryd.ntmps58
  go_wp2_with (go_at_call 42; refine (may_any x _).mono ?_; rintro e w1 ⟨rfl, hb1⟩; rw [HM.out])
  go_ret
  exact gave_false rfl (kept_step (Kept.refl _ _ _) hb hbase hb1)

set_option maxRecDepth 100000 in
set_option maxHeartbeats 2000000 in
theorem finNo_1 (b base : Nat) (x : Op) (num : Num) (v : Value) (w : World) (hb : b < base) (hbase : base ≤ w.heap.size) (h : At w b (rdL v x 1 num)) (hs : num.sz ≤ 2147483648) (hk : (x.k == 1) = true) (hv : num.val.isSome = false ∨ (num.val.isSome = true ∧ mayB ⟨x.k, num.val.getD 0, x.v⟩ = false)) :
    Calls Tryd.prog 58 #[.pointer (some ⟨b, 0, none⟩)] w (Gave b base none w) := by
  have hc1 := h.cell 1
  have hc2 := h.cell 2
  have hc3 := h.cell 3
  have hc4 := h.cell 4
  have H := Lib.hid h
  clear h
  simp at hc1 hc2 hc3 hc4
  have HS := Lib.hid hs
  have HV := Lib.hid hv
  clear hs hv
  go_enter Tryd.func58, Tryd.ntmps58
  go_wp2_with fail
  refine (endAddr_any b v x 1 num _ H.out HS.out).mono ?_
  rintro e wB ⟨rfl, ho, ha⟩
  have HK := Lib.hid (ho.kept base)
  have hbaseB : base ≤ wB.heap.size := by rw [ho.size]; exact hbase
  have c1 := ha.cell 1
  have c2 := ha.cell 2
  have c3 := ha.cell 3
  simp at c1 c2 c3
  clear ha ho hc1 hc2 hc3 hc4
  rcases HV.out with hv | ⟨hv, hm⟩
  · rw [hv]
    clear hv
    go_wp2
    go_ret
    exact gave_false rfl HK.out
  · rw [hv]
    clear hv
    have HM := Lib.hid hm
    clear hm
    go_wp2_with (go_at_call 42; refine (may_any ⟨x.k, num.val.getD 0, x.v⟩ _).mono ?_; rintro e w1 ⟨rfl, hb1⟩; rw [HM.out])
    go_ret
    exact gave_false rfl (kept_step HK.out hb hbaseB hb1)

set_option maxRecDepth 100000 in
set_option maxHeartbeats 2000000 in
theorem finNo_2 (b base : Nat) (x : Op) (num : Num) (v : Value) (w : World) (hb : b < base) (hbase : base ≤ w.heap.size) (h : At w b (rdL v x 2 num)) (hs : num.sz ≤ 2147483648) (hv : num.val.isSome = false ∨ (num.val.isSome = true ∧ mayB ⟨x.k, x.a, num.val.getD 0⟩ = false)) :
    Calls Tryd.prog 58 #[.pointer (some ⟨b, 0, none⟩)] w (Gave b base none w) := by
  have hc1 := h.cell 1
  have hc2 := h.cell 2
  have hc3 := h.cell 3
  have hc4 := h.cell 4
  have H := Lib.hid h
  clear h
  simp at hc1 hc2 hc3 hc4
  have HS := Lib.hid hs
  have HV := Lib.hid hv
  clear hs hv
  go_enter Tryd.func58, Tryd.ntmps58
  go_wp2_with fail
  refine (endVal_any b v x 2 num _ H.out HS.out).mono ?_
  rintro e wB ⟨rfl, ho, ha⟩
  have HK := Lib.hid (ho.kept base)
  have hbaseB : base ≤ wB.heap.size := by rw [ho.size]; exact hbase
  have c1 := ha.cell 1
  have c2 := ha.cell 2
  have c3 := ha.cell 3
  simp at c1 c2 c3
  clear ha ho hc1 hc2 hc3 hc4
  rcases HV.out with hv | ⟨hv, hm⟩
  · rw [hv]
    clear hv
    go_wp2
    go_ret
    exact gave_false rfl HK.out
  · rw [hv]
    clear hv
    have HM := Lib.hid hm
    clear hm
    go_wp2_with (go_at_call 42; refine (may_any ⟨x.k, x.a, num.val.getD 0⟩ _).mono ?_; rintro e w1 ⟨rfl, hb1⟩; rw [HM.out])
    go_ret
    exact gave_false rfl (kept_step HK.out hb hbaseB hb1)

theorem fin_any (b base : Nat) (σ : St) (w : World) (hb : b < base) (hbase : base ≤ w.heap.size) (h : Rd b base w σ) (hs : σ.num.sz ≤ 2147483648) (hl : σ.ops.length ≤ 5000) :
    Calls Tryd.prog 58 #[.pointer (some ⟨b, 0, none⟩)] w (Gave b base σ.fin w) := by
  obtain ⟨v, h, hown⟩ := h
  obtain ⟨ops, x, pl, num⟩ := σ
  have hl' : ops.length ≤ 5000 := hl
  have hs' : num.sz ≤ 2147483648 := hs
  have h' : At w b (rdL v x pl num) := h
  have hown' : w.ownsRow base 52 3 v ops.length (opCells ops) := hown
  clear h hown hl hs
  by_cases p1 : pl = 1
  · subst p1
    by_cases hk : x.k = 1
    · cases hv : num.val with
      | none =>
        have e : St.fin ⟨ops, x, 1, num⟩ = none := by simp [St.fin, St.whole, hk, hv]
        rw [e]
        exact finNo_1 b base x num v w hb hbase h' hs' (by simpa using hk) (.inl (by rw [hv]; rfl))
      | some q =>
        cases hm : mayB ⟨x.k, q, x.v⟩ with
        | false =>
          have e : St.fin ⟨ops, x, 1, num⟩ = none := by rw [hk] at hm; simp [St.fin, St.whole, hk, hv, hm]
          rw [e]
          exact finNo_1 b base x num v w hb hbase h' hs' (by simpa using hk) (.inr ⟨by rw [hv]; rfl, by rw [hv]; exact hm⟩)
        | true =>
          have e : St.fin ⟨ops, x, 1, num⟩ = some ⟨ops ++ [⟨x.k, q, x.v⟩], ⟨0, 0, 0⟩, 0, num0⟩ := by rw [hk] at hm ⊢; simp [St.fin, St.whole, hk, hv, hm]
          rw [e]
          exact fin_1 b base ops x ⟨x.k, q, x.v⟩ num v w hb hbase h' hown' (by rw [hv]; rfl) hs' (by simpa using hk) (by rw [hv]; rfl) hm hl'
    · have e : St.fin ⟨ops, x, 1, num⟩ = none := by simp [St.fin, St.whole, hk]
      rw [e]
      exact finNo_k b base x num v w h' (by simpa using hk)
  · by_cases p2 : pl = 2
    · subst p2
      cases hv : num.val with
      | none =>
        have e : St.fin ⟨ops, x, 2, num⟩ = none := by simp [St.fin, St.whole, hv]
        rw [e]
        exact finNo_2 b base x num v w hb hbase h' hs' (.inl (by rw [hv]; rfl))
      | some q =>
        cases hm : mayB ⟨x.k, x.a, q⟩ with
        | false =>
          have e : St.fin ⟨ops, x, 2, num⟩ = none := by simp [St.fin, St.whole, hv, hm]
          rw [e]
          exact finNo_2 b base x num v w hb hbase h' hs' (.inr ⟨by rw [hv]; rfl, by rw [hv]; exact hm⟩)
        | true =>
          have e : St.fin ⟨ops, x, 2, num⟩ = some ⟨ops ++ [⟨x.k, x.a, q⟩], ⟨0, 0, 0⟩, 0, num0⟩ := by simp [St.fin, St.whole, hv, hm]
          rw [e]
          exact fin_2 b base ops x ⟨x.k, x.a, q⟩ num v w hb hbase h' hown' (by rw [hv]; rfl) hs' (by rw [hv]; rfl) hm hl'
    · by_cases p3 : pl = 3
      · subst p3
        cases hm : mayB x with
        | false =>
          have e : St.fin ⟨ops, x, 3, num⟩ = none := by simp [St.fin, St.whole, hm]
          rw [e]
          exact finNo_3 b base x num v w hb hbase h' hm
        | true =>
          have e : St.fin ⟨ops, x, 3, num⟩ = some ⟨ops ++ [x], ⟨0, 0, 0⟩, 0, num⟩ := by simp [St.fin, St.whole, hm]
          rw [e]
          exact fin_3 b base ops x num v w hb hbase h' hown' hm hl'
      · have e : St.fin ⟨ops, x, pl, num⟩ = none := by simp [St.fin, St.whole, p1, p2, p3]
        rw [e]
        exact finNo_0 b base x pl num v w h' ⟨p1, p2, p3⟩

end Go.Proofs.YtjnbpohjdgnknaaDoor
