/-
  Ready, Get, Next, one contract each.
-/
import Derived.Test.YtnpbbkiojoafbaaQuD
namespace Go.Proofs.Ytnpbbkiojoafbaa
open Go Go.RowKit

theorem pl_at {l : List Ep} {i : Nat} {x : Ep} (h : l[i]? = some x) : (l.map Ep.pl)[i]? = some x.pl := by rw [List.getElem?_map, h]; rfl
theorem pl_find (l : List Ep) (p : En → Bool) : (l.map Ep.pl).findIdx? p = l.findIdx? (fun y => p y.pl) := by
  rw [List.findIdx?_map]; rfl
theorem pl_len (l : List Ep) : (l.map Ep.pl).length = l.length := by simp
theorem oi_eq (o : Option Nat) (i : Nat) : (oi o == (i : Int)) = (o == some i) := by
  cases o with
  | none => simp [oi]
  | some k => rw [Bool.eq_iff_iff]; simp [oi]; omega
theorem at_cases (l : List Ep) (a : Int) : (a < 0 ∨ (l.length : Int) ≤ a) ∨ ∃ (i : Nat) (x : Ep), a = i ∧ l[i]? = some x := by
  by_cases h : 0 ≤ a ∧ a < l.length
  · right
    refine ⟨a.toNat, l[a.toNat]'(by omega), by omega, List.getElem?_eq_getElem _⟩
  · left; omega
/-- A row's block. -/
theorem Bg.off_of {T e : TypeId} {w : World} {B b g n c : Nat} {room : Int} {l : List Ep} (h : Bg T e 17 ec w B b room l (.slice (some ⟨g, 0, none⟩) n c)) : b ≠ g := fun e => h.off (by rw [e]; rfl)

/-! Ready. -/
set_option maxHeartbeats 1000000 in
theorem ready_out {w : World} {B b : Nat} {room : Int} {l : List Ep} {v : Value} (h : BgP w B b room l v) (at_ : Int) (hn : at_ < 0 ∨ (l.length : Int) ≤ at_) :
    Calls Try.prog 20 #[.pointer (some ⟨b, 0, none⟩), .int .i64 at_] w fun e w' => e = .returned (.bool false) ∧ Below w.heap.size w w' := by
  have HP := Lib.hid (entry_out h at_ hn)
  have hb := balloc w (.cells #[.pointer none] 70)
  clear h hn
  go_enter Try.func20, Try.ntmps20
  go_wp2_with fail
  refine HP.out.mono ?_
  rintro e w1 ⟨rfl, rfl⟩
  go_wp2
  go_ret
  exact ⟨rfl, hb⟩
set_option maxHeartbeats 1000000 in
theorem ready_at {w : World} {B b : Nat} {room : Int} {l : List Ep} {v : Value} (h : BgP w B b room l v) (i : Nat) (x : Ep) (hl : l.length ≤ 5000) (hx : l[i]? = some x) :
    Calls Try.prog 20 #[.pointer (some ⟨b, 0, none⟩), .int .i64 i] w fun e w' => e = .returned (.bool (!x.st && l.findIdx? (fun y => isL x.m.ln y.pl) == some i)) ∧ Below w.heap.size w w' := by
  have hi := (List.getElem?_eq_some_iff.1 hx).1
  obtain ⟨g, cap, rfl, hbg, hgl, hBg, hr, hfz, _, _⟩ := h.one hx
  have HP := Lib.hid (entry_at h i hi)
  have hb := balloc w (.cells #[.pointer (some ⟨g, i * 17, none⟩)] 70)
  have c15 : ∀ o, (w.alloc o).cell? ⟨g, i * 17 + 15, none⟩ = some (.bool x.st) := fun o => Lib.cell?_alloc_some o (hr 15 _ rfl)
  rcases Bool.eq_false_or_eq_true x.st with hs | hs
  · have HT : Hid ((!x.st && l.findIdx? (fun y => isL x.m.ln y.pl) == some i) = false) := Lib.hid (by rw [hs]; rfl)
    rw [hs] at c15
    clear h hx hr hfz hs
    go_enter Try.func20, Try.ntmps20
    go_wp2_with fail
    refine HP.out.mono ?_
    rintro e w1 ⟨rfl, rfl⟩
    go_wp2
    go_ret
    exact ⟨ret_bool HT.out.symm, hb⟩
  · have HT : Hid ((!x.st && l.findIdx? (fun y => isL x.m.ln y.pl) == some i) = (oi (l.findIdx? (fun y => isL x.m.ln y.pl)) == (i : Int))) := Lib.hid (by rw [hs, oi_eq]; rfl)
    rw [hs] at c15
    have c1 := (Lib.cell?_alloc_some (.cells #[.pointer (some ⟨g, i * 17, none⟩)] 70) (hr 1 _ rfl) : (w.alloc (.cells #[.pointer (some ⟨g, i * 17, none⟩)] 70)).cell? ⟨g, i * 17 + 1, none⟩ = some (.int .i64 x.m.ln))
    have HC := Lib.hid (placeR (fun y => isL x.m.ln y.pl) (h.below hb) ⟨w.heap.size, 0, none⟩ hl fun y _ wr hbr => rdF_any y ⟨w.heap.size, 0, none⟩ g (i * 17) x.m.ln wr ((hbr.cell (p := ⟨w.heap.size, 0, none⟩) (by simp)).trans (by simp)) ((hbr.cell (p := ⟨g, i * 17 + 1, none⟩) (Nat.lt_of_lt_of_le hgl hb.size)).trans c1))
    clear h hx hr hfz hs c1
    go_enter Try.func20, Try.ntmps20
    go_wp2_with fail
    refine HP.out.mono ?_
    rintro e w1 ⟨rfl, rfl⟩
    go_wp2_with fail
    refine HC.out.mono ?_
    rintro e w2 ⟨rfl, hb2⟩
    go_wp2
    go_ret
    exact ⟨ret_bool HT.out.symm, bbox hb2⟩
/-- Ready. -/
theorem ready_any {w : World} {B b : Nat} {room : Int} {l : List Ep} {v : Value} (h : BgP w B b room l v) (at_ : Int) (hl : l.length ≤ 5000) :
    Calls Try.prog 20 #[.pointer (some ⟨b, 0, none⟩), .int .i64 at_] w fun e w' => e = .returned (.bool (rdy (l.map Ep.pl) at_)) ∧ Below w.heap.size w w' := by
  rcases at_cases l at_ with ho | ⟨i, x, rfl, hx⟩
  · rw [rdy_out (by rwa [pl_len])]
    exact ready_out h at_ ho
  · rw [rdy_at (pl_at hx), pl_find]
    exact ready_at h i x hl hx

/-! Get. -/
def RetE (x : Ep) (q : Bool) (P : World → Prop) (e : Ending) (w' : World) : Prop := e = .returned (.tuple #[.agg (ecells x), .bool q]) ∧ P w'
theorem get_ret {wr : World} {x : Ep} {q : Bool} {P : World → Prop} {a : Act} {g : Nat} (hp : a.tmps.getD 4 undef = .pointer (some ⟨g, 0, none⟩)) (hq : a.tmps.getD 5 undef = .bool q) (hd : a.defers = []) (hg : wr.heap[g]? = some (.cells (ecells x) 57 (0, 0))) (hb : P wr) :
    bodyPost Try.prog Try.f22 (RetE x q P) Exit.ret a wr :=
  bodyPost_ret (v := .tuple #[.agg (ecells x), a.tmps.getD 5 undef]) (results_cell_two Try.results22 _ _ g 57 _ (0, 0) _ hp hg Try.underlying57 rfl (by kernel_rfl)) hd ⟨by rw [hq], hb⟩
set_option maxHeartbeats 1000000 in
theorem get_out {w : World} {B b : Nat} {room : Int} {l : List Ep} {v : Value} (h : BgP w B b room l v) (at_ : Int) (hn : at_ < 0 ∨ (l.length : Int) ≤ at_) :
    Calls Try.prog 22 #[.pointer (some ⟨b, 0, none⟩), .int .i64 at_] w (RetE e0 false (Below w.heap.size w)) := by
  have hb := balloc w (.cells zec 57)
  have HP := Lib.hid (entry_out (h.below hb) at_ hn)
  clear h hn
  go_enter Try.func22, Try.ntmps22
  go_wp2_with fail
  refine HP.out.mono ?_
  rintro e w1 ⟨rfl, rfl⟩
  go_wp2_with ((with_reducible refine wpList_store_row (o := ⟨none, _, _, _, _, _⟩) rfl 57 (.tmp 4) (.tmp 12) rfl w.heap.size zec ?sx ?sy 57 ?old ?sg ?si ?so ?s1 ?_); (case sx => rfl); (case sy => rfl); (case old => exact zec); (case sg => exact heap_alloc_new w _); (case si => kernel_rfl); (case so => rfl); (case s1 => kernel_rfl))
  exact get_ret (x := e0) rfl rfl rfl (setRow_heap _ _ _ _ _ _ (heap_alloc_new w _)) (below_setRow hb (Nat.le_refl _) _)
/-- What Get gives of an entry that is there. -/
def GetGave (x : Ep) (w : World) (e : Ending) (w' : World) : Prop := ∃ y : Ep, e = .returned (.tuple #[.agg (ecells y), .bool true]) ∧ y.pl = x.pl ∧ MIn w' y.p y.l ∧ (∀ a, y.p = some a → w.heap.size ≤ a.block) ∧ Below w.heap.size w w'
theorem get_retG {w wr : World} {x y : Ep} {a : Act} {g : Nat} (hp : a.tmps.getD 4 undef = .pointer (some ⟨g, 0, none⟩)) (hq : a.tmps.getD 5 undef = .bool true) (hd : a.defers = []) (hg : wr.heap[g]? = some (.cells (ecells y) 57 (0, 0))) (hb : y.pl = x.pl ∧ MIn wr y.p y.l ∧ (∀ a, y.p = some a → w.heap.size ≤ a.block) ∧ Below w.heap.size w wr) :
    bodyPost Try.prog Try.f22 (GetGave x w) Exit.ret a wr :=
  bodyPost_ret (v := .tuple #[.agg (ecells y), a.tmps.getD 5 undef]) (results_cell_two Try.results22 _ _ g 57 _ (0, 0) _ hp hg Try.underlying57 rfl (by kernel_rfl)) hd ⟨y, by rw [hq], hb⟩
set_option maxHeartbeats 1000000 in
theorem get_at {w : World} {B b : Nat} {room : Int} {l : List Ep} {v : Value} (h : QuP w B b room l v) (i : Nat) (x : Ep) (hx : l[i]? = some x) (hf : x.l.length ≤ 5000) :
    Calls Try.prog 22 #[.pointer (some ⟨b, 0, none⟩), .int .i64 i] w (GetGave x w) := by
  have hi := (List.getElem?_eq_some_iff.1 hx).1
  have hb := balloc w (.cells zec 57)
  obtain ⟨g, cap, rfl, hbg, hgl, hBg, hr, hfz, _, _⟩ := h.bg.one hx
  have HP := Lib.hid (entry_at (h.bg.below hb) i hi)
  have HR := Lib.hid (World.rangeAt_alloc hr (.cells zec 57))
  have HM := Lib.hid ((h.sd x (List.mem_of_getElem? hx)).1.step hb)
  have hbx := heap_alloc_new w (.cells zec 57)
  clear h hx hr hfz
  go_enter Try.func22, Try.ntmps22
  go_wp2_with fail
  refine HP.out.mono ?_
  rintro e w1 ⟨rfl, rfl⟩
  go_wp2_with (first
    | ((with_reducible refine wpList_load_at (op := ⟨some 15, _, _, _, _, _⟩) rfl 57 (.tmp 14) rfl g (i * 17) ?lx (ecells x) _ ?lc Try.underlying57 ?ld ?li ?_); (case lx => rfl); (case lc => exact HR.out); (case ld => rfl); (case li => kernel_rfl))
    | fail)
  refine (copied_any x _ hf HM.out).mono ?_
  rintro e w2 ⟨y, rfl, hy, hm, hfr, hb2⟩
  have hg4 := (hb2.block w.heap.size (by simp)).trans hbx
  go_wp2_with ((with_reducible refine wpList_store_row (o := ⟨none, _, _, _, _, _⟩) rfl 57 (.tmp 4) (.tmp 16) rfl w.heap.size (ecells y) ?sx ?sy 57 ?old ?sg ?si ?so ?s1 ?_); (case sx => rfl); (case sy => rfl); (case old => exact zec); (case sg => exact hg4); (case si => kernel_rfl); (case so => rfl); (case s1 => kernel_rfl))
  have hfr' : ∀ a, y.p = some a → w.heap.size + 1 ≤ a.block := fun a ha => by have := hfr a ha; simpa using this
  exact get_retG rfl rfl rfl (setRow_heap _ _ _ _ _ _ hg4) ⟨hy, hm.keep (by simp) fun _ a ha _ => setRow_other _ _ _ _ (by have := hfr' a ha; omega), fun a ha => by have := hfr' a ha; omega, below_setRow (bbox hb2) (Nat.le_refl _) _⟩

/-! Next. -/
def RetM (m : Msg) (q : Bool) (P : World → Prop) (e : Ending) (w' : World) : Prop := e = .returned (.tuple #[mv m, .bool q]) ∧ P w'
theorem next_ret {wr : World} {m : Msg} {q : Bool} {P : World → Prop} {a : Act} {g : Nat} (hp : a.tmps.getD 4 undef = .pointer (some ⟨g, 0, none⟩)) (hq : a.tmps.getD 5 undef = .bool q) (hd : a.defers = []) (hg : wr.heap[g]? = some (.cells (mcells m) 35 (0, 0))) (hb : P wr) :
    bodyPost Try.prog Try.f27 (RetM m q P) Exit.ret a wr :=
  bodyPost_ret (v := .tuple #[.agg (mcells m), a.tmps.getD 5 undef]) (results_cell_two Try.results27 _ _ g 35 _ (0, 0) _ hp hg Try.underlying35 rfl (by kernel_rfl)) hd ⟨by rw [hq], hb⟩
abbrev zmc : Array Value := #[.int .i64 0, .int .i64 0, .int .i64 0, .int .i64 0, .int .i64 0, .int .i64 0, .int .i64 0, .int .i64 0, .int .i64 0, .int .i64 0, .int .i64 0, .int .i64 0, .int .i64 0, .int .i64 0, .int .i64 0]
set_option maxHeartbeats 1000000 in
theorem next_out {w : World} {B b : Nat} {room : Int} {l : List Ep} {v : Value} (h : BgP w B b room l v) (at_ : Int) (hn : at_ < 0 ∨ (l.length : Int) ≤ at_) :
    Calls Try.prog 27 #[.pointer (some ⟨b, 0, none⟩), .int .i64 at_] w (RetM z0 false (Below w.heap.size w)) := by
  have hb := balloc w (.cells zmc 35)
  have HP := Lib.hid (entry_out (h.below hb) at_ hn)
  clear h hn
  go_enter Try.func27, Try.ntmps27
  go_wp2_with fail
  refine HP.out.mono ?_
  rintro e w1 ⟨rfl, rfl⟩
  go_wp2_with ((with_reducible refine wpList_store_row (o := ⟨none, _, _, _, _, _⟩) rfl 35 (.tmp 4) (.tmp 20) rfl w.heap.size zmc ?sx ?sy 35 ?old ?sg ?si ?so ?s1 ?_); (case sx => rfl); (case sy => rfl); (case old => exact zmc); (case sg => exact heap_alloc_new w _); (case si => kernel_rfl); (case so => rfl); (case s1 => kernel_rfl))
  exact next_ret (m := z0) rfl rfl rfl (setRow_heap _ _ _ _ _ _ (heap_alloc_new w _)) (below_setRow hb (Nat.le_refl _) _)
set_option maxHeartbeats 1000000 in
theorem next_no {w : World} {B b : Nat} {room : Int} {l : List Ep} {v : Value} (h : BgP w B b room l v) (i : Nat) (x : Ep) (hx : l[i]? = some x) (hs : x.l = []) :
    Calls Try.prog 27 #[.pointer (some ⟨b, 0, none⟩), .int .i64 i] w (RetM z0 false (Below w.heap.size w)) := by
  have hi := (List.getElem?_eq_some_iff.1 hx).1
  have hb := balloc w (.cells zmc 35)
  obtain ⟨g, cap, rfl, hbg, hgl, hBg, hr, hfz, _, _⟩ := h.one hx
  have HP := Lib.hid (entry_at (h.below hb) i hi)
  have c16 := (Lib.cell?_alloc_some (.cells zmc 35) (hr 16 _ rfl) : (w.alloc (.cells zmc 35)).cell? ⟨g, i * 17 + 16, none⟩ = some (.slice x.p x.l.length x.c))
  rw [hs] at c16
  simp at c16
  clear h hx hr hfz hs
  go_enter Try.func27, Try.ntmps27
  go_wp2_with fail
  refine HP.out.mono ?_
  rintro e w1 ⟨rfl, rfl⟩
  go_wp2_with ((with_reducible refine wpList_store_row (o := ⟨none, _, _, _, _, _⟩) rfl 35 (.tmp 4) (.tmp 20) rfl w.heap.size zmc ?sx ?sy 35 ?old ?sg ?si ?so ?s1 ?_); (case sx => rfl); (case sy => rfl); (case old => exact zmc); (case sg => exact heap_alloc_new w _); (case si => kernel_rfl); (case so => rfl); (case s1 => kernel_rfl))
  exact next_ret (m := z0) rfl rfl rfl (setRow_heap _ _ _ _ _ _ (heap_alloc_new w _)) (below_setRow hb (Nat.le_refl _) _)
set_option maxHeartbeats 1000000 in
theorem next_yes {w : World} {B b : Nat} {room : Int} {l : List Ep} {v : Value} (h : QuP w B b room l v) (i : Nat) (x : Ep) (hx : l[i]? = some x) (hf : x.l.length ≤ 5000) {m : Msg} {r : List Msg} (hs : x.l = m :: r) :
    Calls Try.prog 27 #[.pointer (some ⟨b, 0, none⟩), .int .i64 i] w (RetM m true (Below w.heap.size w)) := by
  have hi := (List.getElem?_eq_some_iff.1 hx).1
  have hb := balloc w (.cells zmc 35)
  obtain ⟨g, cap, rfl, hbg, hgl, hBg, hr, hfz, _, _⟩ := h.bg.one hx
  have HP := Lib.hid (entry_at (h.bg.below hb) i hi)
  obtain ⟨g2, o2, hp, hg2, hr2⟩ := (h.sd x (List.mem_of_getElem? hx)).1 0 m (by rw [hs]; rfl)
  have HR := Lib.hid (World.rangeAt_alloc hr2 (.cells zmc 35))
  have c16 := (Lib.cell?_alloc_some (.cells zmc 35) (hr 16 _ rfl) : (w.alloc (.cells zmc 35)).cell? ⟨g, i * 17 + 16, none⟩ = some (.slice x.p x.l.length x.c))
  rw [hp] at c16
  obtain ⟨n, hn⟩ : ∃ n, n = x.l.length := ⟨_, rfl⟩
  have hn0 : 0 < n := by rw [hn, hs]; simp
  rw [← hn] at c16 hf
  simp only [Nat.zero_mul, Nat.add_zero] at HR
  clear h hx hr hfz hs hr2 hn hp
  go_enter Try.func27, Try.ntmps27
  go_wp2_with fail
  refine HP.out.mono ?_
  rintro e w1 ⟨rfl, rfl⟩
  go_wp2_with (first
    | ((with_reducible refine wpList_load_at (op := ⟨some 26, _, _, _, _, _⟩) rfl 35 (.tmp 25) rfl g2 o2 ?lx (mcells m) _ ?lc Try.underlying35 ?ld ?li ?_); (case lx => rfl); (case lc => exact HR.out); (case ld => rfl); (case li => kernel_rfl))
    | ((with_reducible refine wpList_store_row (o := ⟨none, _, _, _, _, _⟩) rfl 35 (.tmp 4) (.tmp 26) rfl w.heap.size (mcells m) ?sx ?sy 35 ?old ?sg ?si ?so ?s1 ?_); (case sx => rfl); (case sy => rfl); (case old => exact zmc); (case sg => exact heap_alloc_new w _); (case si => kernel_rfl); (case so => rfl); (case s1 => kernel_rfl)))
  exact next_ret rfl rfl rfl (setRow_heap _ _ _ _ _ _ (heap_alloc_new w _)) (below_setRow hb (Nat.le_refl _) _)
/-- Next. -/
theorem next_any {w : World} {B b : Nat} {room : Int} {l : List Ep} {v : Value} (h : QuP w B b room l v) (at_ : Int) (hf : ∀ x ∈ l, x.l.length ≤ 5000) {m : Msg} {q : Bool} (e : nextP (l.map Ep.pl) at_ = (m, q)) :
    Calls Try.prog 27 #[.pointer (some ⟨b, 0, none⟩), .int .i64 at_] w (RetM m q (Below w.heap.size w)) := by
  rcases at_cases l at_ with ho | ⟨i, x, rfl, hx⟩
  · rw [nextP_out (by rwa [pl_len])] at e
    cases e
    exact next_out h.bg at_ ho
  · rcases hs : x.l with _ | ⟨m', r⟩
    · rw [nextP_no (pl_at hx) hs] at e
      cases e
      exact next_no h.bg i x hx hs
    · rw [nextP_yes (pl_at hx) hs] at e
      cases e
      exact next_yes h i x hx (hf x (List.mem_of_getElem? hx)) hs

end Go.Proofs.Ytnpbbkiojoafbaa
