/-
  A home's lines, the program's and the document's, and whether two lists of numbers are the same.
-/
import Derived.Test.YtnlcmbcaggkhdaaDoorSplitL
namespace Go.Proofs.YtnlcmbcaggkhdaaDoor
open Go Go.RowKit

theorem lns_ok {c : Cfg} {h : Int} (hok : okC c = true) : lns c h = lnsK c.ho h c.li.toNat := by simp [lns, hok]
theorem lns_no {c : Cfg} {h : Int} (hok : okC c = false) : lns c h = [] := by simp [lns, hok]
theorem lnsK_none (s h : Int) (k : Nat) (hs : 1 ≤ s) (hh : inR h s = false) : lnsK s h k = [] := by
  unfold lnsK
  rw [List.filter_eq_nil_iff]
  intro j _ e
  have e' : j % s = h := by simpa using e
  have h0 := Int.emod_nonneg j (show s ≠ 0 by omega)
  have h1 := Int.emod_lt_of_pos j (show 0 < s by omega)
  rw [e'] at h0 h1
  simp [inR, h0, h1] at hh
theorem Row.nil_ (w : World) (B : Nat) : Row w B (.slice none 0 0) [] := .inl ⟨rfl, rfl⟩

theorem lines_any (c : Cfg) (h : Int) (w : World) (hc : c.fits) (hT : Tb w) :
    Calls Tryd.prog 16 #[cv c, .int .i64 h] w (RetRow w (lns c h)) := by
  have HC := Lib.hid hc
  have HT := Lib.hid hT
  clear hT
  have hho := fits_ho hc
  clear hc
  rcases Bool.eq_false_or_eq_true (okC c) with hok | hok
  · have h0 := chk_ok c hok
    have hp := ok_pows c hok
    have HP := Lib.hid hp.2.1.1
    have hl1 := hp.2.2.2.2.1
    have hl2 := hp.2.2.2.2.2
    have hh1 := hp.2.1.2.1
    have HL := Lib.hid (lns_ok (h := h) hok)
    clear hp hok
    rcases Bool.eq_false_or_eq_true (inR h c.ho) with hi | hi
    · obtain ⟨n, hn⟩ : ∃ n : Nat, c.li = n := ⟨c.li.toNat, by omega⟩
      have hn2 : n ≤ 1024 := by omega
      have HN := Lib.hid hn
      clear hn
      go_enter Tryd.func16, Tryd.ntmps16
      go_wp2_with (first
        | (go_at_call 18; refine (check_any c _ HC.out).mono ?_; rintro e w1 ⟨rfl, hb1⟩; have hcl := fun o => hb1.cell (p := ⟨w.heap.size, o, none⟩) (by simp); have hz1 := zbox hb1; have hbw := bbox hb1)
        | (go_at_call 19; refine (within_any _ _ _).mono ?_; rintro e w2 ⟨rfl, rfl⟩)
        | (go_at_call 21; refine (parts_any _ _ hho (HT.out.keeps hbw)).mono ?_; rintro e w3 ⟨rfl, hb3⟩; have hcl3 := fun o => hb3.cell (p := ⟨w.heap.size, o, none⟩) hz1))
      rw [HN.out]
      refine (having_any n _ _ _ hn2 HP.out).mono ?_
      rintro e w4 ⟨v, rfl, hr, hb4⟩
      have HR := Lib.hid hr
      clear hr
      go_wp2
      go_ret
      exact ⟨_, rfl, by rw [HL.out, HN.out]; exact HR.out, bstep (bstep hbw hb3) hb4⟩
    · have HE := Lib.hid (lnsK_none c.ho h c.li.toNat hh1 hi)
      go_enter Tryd.func16, Tryd.ntmps16
      go_wp2_with (first
        | (go_at_call 18; refine (check_any c _ HC.out).mono ?_; rintro e w1 ⟨rfl, hb1⟩; have hcl := fun o => hb1.cell (p := ⟨w.heap.size, o, none⟩) (by simp))
        | (go_at_call 19; refine (within_any _ _ _).mono ?_; rintro e w2 ⟨rfl, rfl⟩))
      go_ret
      exact ⟨_, rfl, by rw [HL.out, HE.out]; exact Row.nil_ _ _, bbox hb1⟩
  · have h0 := chk_no c hok
    have HL := Lib.hid (lns_no (h := h) hok)
    clear hok
    go_enter Tryd.func16, Tryd.ntmps16
    go_wp2_with (go_at_call 18; refine (check_any c _ HC.out).mono ?_; rintro e w1 ⟨rfl, hb1⟩)
    go_ret
    exact ⟨_, rfl, by rw [HL.out]; exact Row.nil_ _ _, bbox hb1⟩

set_option maxHeartbeats 1000000 in
theorem refLines_any (c : Cfg) (h : Int) (w : World) :
    Calls Tryd.prog 17 #[cv c, .int .i64 h] w (RetRow w (lns c h)) := by
  obtain ⟨i0, hi, hz0, hz1, hz2⟩ := info_parts Tryd.infoInt
  rcases Bool.eq_false_or_eq_true (okC c) with hok | hok
  · have h0 := chk_ok c hok
    have hp := ok_pows c hok
    have hl1 := hp.2.2.2.2.1
    have hl2 := hp.2.2.2.2.2
    have hh1 := hp.2.1.2.1
    have hh2 := hp.2.1.2.2
    have HL := Lib.hid (lns_ok (h := h) hok)
    clear hp hok
    have hne : (c.ho == 0) = false := by simp; omega
    go_enter Tryd.func17, Tryd.ntmps17
    go_wp2
    go_loopw [5, 6] (fun v i wr => ∃ k : Nat, (k : Int) ≤ c.li ∧ i = .int .i64 k ∧ wr.ownsRow (w.heap.size + 1) 3 1 v (lnsK c.ho h k).length (ints (lnsK c.ho h k)) ∧ Below w.heap.size w wr ∧ w.heap.size < wr.heap.size ∧ Hid (∀ o, wr.cell? ⟨w.heap.size, o, none⟩ = (#[Value.int .i64 c.co, .int .i64 c.ho, .int .i64 c.se, .int .i64 c.wa, .int .i64 c.wo, .int .i64 c.li, .int .i64 c.po, .int .i64 c.ms, .int .i64 c.bu, .int .i64 c.wb, .int .i64 c.r0, .int .i64 c.r1, .int .i64 c.r2] : Array Value)[o]?)) (fun _ i _ => (c.li - intOf i).toNat)
    case atStart =>
      refine ⟨0, by omega, rfl, ?_, ((Below.refl _ _).alloc (Nat.le_refl _) _).alloc (by simp) _, by simp; omega, Lib.hid (fun o => ?_)⟩
      · have := World.ownsRow_made (base := w.heap.size + 1) (e := 3) (size := 1) (w.alloc (.cells #[Value.int .i64 c.co, .int .i64 c.ho, .int .i64 c.se, .int .i64 c.wa, .int .i64 c.wo, .int .i64 c.li, .int .i64 c.po, .int .i64 c.ms, .int .i64 c.bu, .int .i64 c.wb, .int .i64 c.r0, .int .i64 c.r1, .int .i64 c.r2] 24)) #[] 0 (by simp) (by decide) (by simp)
        simpa [lnsK] using this
      · rw [World.cell?_alloc_past _ _ _ (by simp)]
        exact World.cell?_alloc_mark w _ 24 (0, 0) o
    case round =>
      obtain ⟨k, hk, rfl, hown, hb, hz, HC⟩ := hrel
      have hle := lnsK_le c.ho h k
      have hc0 := HC.out
      by_cases hlt : (k : Int) < c.li
      · rcases Bool.eq_false_or_eq_true ((k : Int) % c.ho == h) with he | he
        · go_wp2_with (first
            | (go_at_call 22; refine (refCheck_any c _).mono ?_; rintro e w1 ⟨rfl, hb1⟩; have hcl := fun o => (hb1.cell (p := ⟨w.heap.size, o, none⟩) hz).trans (HC.out o))
            | (at_builtin; refine wpList_append_own _ rfl _ _ 34 rfl (w.heap.size + 1) 3 i0 (.int .i64 0) 1 8 Tryd.underlying34 hi hz0 hz1 hz2 rfl (by decide) _ _ _ rfl ((own_below hown hb1).alloc _) ⟨w1.heap.size, 0, none⟩ 1 1 [.int .i64 k] rfl rfl ?c1 ?c2 ?c3 ?c4 ?c5 ?_))
          case c1 =>
            intro j u hj
            match j, hj with
            | 0, hj => simp at hj; subst hj; simp [Addr.add]
          case c2 => intro u hu; simp at hu; subst hu; rfl
          case c3 => unfold maxLen; omega
          case c4 => omega
          case c5 => have := hb.size; have := hb1.size; simp; omega
          intro v' w2 hown' hgrow _
          have R := rel_hit (Nat.le_succ _) he hown hb hb1 hown' hgrow
          have hz2 : w.heap.size < w2.heap.size := by have := hgrow.size; have := hb1.size; simp at *; omega
          have HC2 : Hid (∀ o, w2.cell? ⟨w.heap.size, o, none⟩ = (#[Value.int .i64 c.co, .int .i64 c.ho, .int .i64 c.se, .int .i64 c.wa, .int .i64 c.wo, .int .i64 c.li, .int .i64 c.po, .int .i64 c.ms, .int .i64 c.bu, .int .i64 c.wb, .int .i64 c.r0, .int .i64 c.r1, .int .i64 c.r2] : Array Value)[o]?) := Lib.hid (fun o => (R.2.2 w.heap.size (by omega) hz o).trans (HC.out o))
          have R1 := R.1
          have R2 := R.2.1
          clear hown' hgrow hown hb hb1 he R hcl hc0
          go_wp2
          go_roundw
          case rel => exact ⟨k + 1, by omega, by go_num, R1, R2, hz2, HC2⟩
          case measure => simp [intOf]; omega
        · go_wp2_with (go_at_call 22; refine (refCheck_any c _).mono ?_; rintro e w1 ⟨rfl, hb1⟩; have hcl := fun o => (hb1.cell (p := ⟨w.heap.size, o, none⟩) hz).trans (HC.out o))
          have hown1 := own_below hown hb1
          have hbw := bstep hb hb1
          have hz2 : w.heap.size < w1.heap.size := by have := hb1.size; omega
          have HC2 := Lib.hid hcl
          go_roundw
          case rel => exact ⟨k + 1, by omega, by go_num, by rw [lnsK_miss c.ho h k he]; exact hown1, hbw, hz2, HC2⟩
          case measure => simp [intOf]; omega
      · have hkn : k = c.li.toNat := by omega
        have HK := Lib.hid hkn
        clear hkn
        go_wp2_with (go_at_call 22; refine (refCheck_any c _).mono ?_; rintro e w1 ⟨rfl, hb1⟩; have hcl := fun o => (hb1.cell (p := ⟨w.heap.size, o, none⟩) hz).trans (HC.out o))
        go_ret
        exact ⟨_, rfl, by rw [HL.out, ← HK.out]; exact row_of_own (own_below hown hb1), bstep hb hb1⟩
  · have h0 := chk_no c hok
    have HL := Lib.hid (lns_no (h := h) hok)
    clear hok
    go_enter Tryd.func17, Tryd.ntmps17
    go_wp2
    refine wp_loop_rounds 1 ?_
    rw [rounds_succ]
    go_wp2_with (go_at_call 22; refine (refCheck_any c _).mono ?_; rintro e w1 ⟨rfl, hb1⟩)
    go_ret
    refine ⟨_, rfl, ?_, ?_⟩
    · rw [HL.out]
      have := hb1.size
      exact .inr ⟨w.heap.size + 1, 0, rfl, by simp at this; omega, fun j hj => absurd hj (by simp)⟩
    · exact (((Below.refl _ _).alloc (Nat.le_refl _) _).alloc (by simp) _).trans (hb1.mono (by simp; omega))

set_option maxHeartbeats 1000000 in
/-- Same: lists that are the same. -/
theorem same_any (xs : List Int) (a b : Value) (w : World) (hl : xs.length ≤ 1024) (ha : Row w w.heap.size a xs) (hb : Row w w.heap.size b xs) :
    Calls Tryd.prog 15 #[a, b] w fun e w' => e = .returned (.bool true) ∧ Below w.heap.size w w' := by
  have key : ∀ (p q : Option Addr) (n c1 c2 : Nat), n ≤ 1024 → (0 < n → ∃ g g', p = some ⟨g, 0, none⟩ ∧ q = some ⟨g', 0, none⟩ ∧ ∀ j, j < n → ∃ x : Int, w.cell? ⟨g, j, none⟩ = some (.int .i64 x) ∧ w.cell? ⟨g', j, none⟩ = some (.int .i64 x)) →
      Calls Tryd.prog 15 #[.slice p n c1, .slice q n c2] w fun e w' => e = .returned (.bool true) ∧ Below w.heap.size w w' := by
    intro p q n c1 c2 hn hx
    have HX := Lib.hid hx
    clear hx ha hb
    go_enter Tryd.func15, Tryd.ntmps15
    go_wp2
    go_loopw [5] (fun i wr => ∃ k m : Nat, k ≤ n ∧ i = .int .i64 k ∧ wr = w.drewN m) (fun i _ => n - (intOf i).toNat)
    case atStart => exact ⟨0, 0, Nat.zero_le _, rfl, rfl⟩
    case round =>
      obtain ⟨k, m, hk, rfl, rfl⟩ := hrel
      by_cases hlt : k < n
      · obtain ⟨g, g', rfl, rfl, hj⟩ := HX.out (by omega)
        obtain ⟨x, hx1, hx2⟩ := hj k hlt
        clear hj
        go_wp2
        go_quiet (fail)
        go_wp2
        go_roundw
        case rel => exact ⟨k + 1, _, by omega, by go_num, rfl⟩
        case measure => simp [intOf]; omega
      · go_wp2
        go_ret
        exact ⟨rfl, below_drewN (Below.refl _ _) _⟩
  rcases ha with ⟨rfl, he⟩ | ⟨g, c1, rfl, hg, hc⟩
  · subst he
    rcases hb with ⟨rfl, _⟩ | ⟨g', c2, rfl, hg', hc'⟩
    · exact key none none 0 0 0 (by omega) (fun h => absurd h (by omega))
    · exact key none _ 0 0 c2 (by omega) (fun h => absurd h (by omega))
  · rcases hb with ⟨rfl, he⟩ | ⟨g', c2, rfl, hg', hc'⟩
    · subst he
      exact key _ none 0 c1 0 (by omega) (fun h => absurd h (by omega))
    · exact key _ _ xs.length c1 c2 hl (fun _ => ⟨g, g', rfl, rfl, fun j hj => ⟨xs.getD j 0, hc j hj, hc' j hj⟩⟩)

theorem lns_le (c : Cfg) (h : Int) : (lns c h).length ≤ 1024 := by
  unfold lns
  split
  · rename_i hok
    have hp := ok_pows c hok
    have := lnsK_le c.ho h c.li.toNat
    omega
  · simp

end Go.Proofs.YtnlcmbcaggkhdaaDoor
