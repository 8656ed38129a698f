/-
  The walk of ProgramJoin: whatever two programs it is given, it returns true, and writes nothing that was there.
-/
import Derived.Test.YtobpeaigapnpdaaDoorPgBack
import Derived.Laws.AppendOwnNone
namespace Go.Proofs.YtobpeaigapnpdaaDoor
open Go Go.RowKit

theorem opCells_len (l : List Op) : (opCells l).length = l.length * 3 := by
  induction l with
  | nil => rfl
  | cons x l ih =>
    have e : opCells (x :: l) = .int .i64 x.k :: .int .i64 x.a :: .int .i64 x.v :: opCells l := rfl
    rw [e]
    simp only [List.length_cons, ih]
    omega
theorem opCells_one (l : List Op) : ∀ u ∈ opCells l, u.oneCell' = true := by
  intro u hu
  simp only [opCells, List.mem_flatMap] at hu
  obtain ⟨x, _, hu⟩ := hu
  simp at hu
  rcases hu with rfl | rfl | rfl <;> rfl
theorem opCells_app (a b : List Op) : opCells (a ++ b) = opCells a ++ opCells b := by simp [opCells]

/-- append of a slice of operations, wherever it lies, to one of the call's own. -/
theorem wpList_append_ops {w : World} {ops : Array Oper} {rest : List Oper} {o : Oper} {a : Act} {Q : Exit → Act → World → Prop} (hgd : o.guard = none) (s x : Operand)
    (ho : o.op = .call { callee := .builtin .append, args := #[s, x], argTypes := #[23, 23] }) (base : Nat)
    (v : Value) (l : List Op) (hs : a.eval s = v) (hown : w.ownsRow base 33 3 v l.length (opCells l)) (y : Value) (m : List Op) (hx : a.eval x = y) (hy : OpsAt w y m)
    (h1 : l.length ≤ 5000) (h2 : m.length ≤ 5000) (hbase : base ≤ w.heap.size)
    (h : ∀ v' w', w'.ownsRow base 33 3 v' (l ++ m).length (opCells (l ++ m)) → Below base w w' → wpList Tryd.prog ops Q rest (a.put o.dst v') w') : wpList Tryd.prog ops Q (o :: rest) a w := by
  obtain ⟨i0, hi0, hz0, hz1, hz2⟩ := info_parts Tryd.infoOp
  rcases hy with ⟨p, cap, rfl, hp, rfl⟩ | ⟨g, off, cap, rfl, hg, hc⟩
  · cases p with
    | some ad =>
      refine wpList_append_own w hgd s x 23 ho base 33 i0 _ 3 24 Tryd.underlying23 hi0 hz0 hz1 hz2 rfl (by decide) v l.length (opCells l) hs hown ad 0 cap [] hx rfl (fun j u hu => by simp at hu) (fun u hu => by simp at hu) (by unfold maxLen; omega) (by omega) hbase ?_
      intro v' w' h3 h4 _
      exact h v' w' (by rw [List.append_nil]; simpa using h3) ((Below.refl _ _).grown h4 hbase (fun k hk => (hown.lt k hk).1))
    | none =>
      have hc0 := hp rfl
      subst hc0
      refine wpList_append_own_none hgd s x 23 ho base 33 i0 3 Tryd.underlying23 hi0 v l.length (opCells l) hs hown hx ?_
      exact h v w (by rw [List.append_nil]; exact hown) (Below.refl _ _)
  · refine wpList_append_own w hgd s x 23 ho base 33 i0 _ 3 24 Tryd.underlying23 hi0 hz0 hz1 hz2 rfl (by decide) v l.length (opCells l) hs hown ⟨g, off, none⟩ m.length cap (opCells m) hx (opCells_len m) (fun j u hu => ?_) (opCells_one m) (by unfold maxLen; omega) (by omega) hbase ?_
    · have e : (⟨g, off, none⟩ : Addr).add j = ⟨g, off + j, none⟩ := by unfold Addr.add; split <;> simp_all
      rw [e]
      exact hc j u hu
    · intro v' w' h3 h4 _
      exact h v' w' (by rw [List.length_append, opCells_app]; exact h3) ((Below.refl _ _).grown h4 hbase (fun k hk => (hown.lt k hk).1))

theorem parse_to (T : List UInt8) (s : ByteArray) (w : World) (h : s.data.toList = T) (hT : T.length ≤ 9223372036854775807) :
    Calls Tryd.prog 8 #[.string s] w (RetE w (prs T).1 (prs T).2) := by
  subst h
  exact parse_any s w hT

theorem prt_err {l : List Op} (h : ¬ (prt l).2 = 0) : (prt l).1 = [] := by
  revert h
  unfold prt
  split
  · intro _; rfl
  · split
    · intro h; exact absurd rfl h
    · intro _; rfl
theorem prs_many {l : List Op} (hm : l.all mayB = true) (h1 : 64 < l.length) (h2 : l.length ≤ 128) : prs (text l) = ([], 4) := by
  have hm' : ∀ x ∈ l, mayB x = true := List.all_eq_true.1 hm
  have := text_len l hm'
  unfold prs
  rw [if_neg (by omega), read_text l hm']
  simp [h1]
theorem prs_blank {l : List Op} (hm : l.all mayB = true) (h2 : l.length ≤ 128) : prs (text l ++ [32]) = ([], 2) := by
  have hm' : ∀ x ∈ l, mayB x = true := List.all_eq_true.1 hm
  have := text_len l hm'
  unfold prs
  rw [if_neg (by simp; omega), read_blank]
theorem prt_many {l : List Op} (h1 : 64 < l.length) : prt l = ([], 4) := by unfold prt; rw [if_pos h1]
theorem prt_fine {l : List Op} (hm : l.all mayB = true) (h1 : ¬ 64 < l.length) : prt l = (text l, 0) := by unfold prt; rw [if_neg h1, if_pos hm]

set_option maxRecDepth 100000 in
set_option maxHeartbeats 4000000 in
theorem join_err (a b : List Op) (va vb : Value) (w : World) (hT : Pow w.heap.size w) (ha : OpsAt w va a) (hb : OpsAt w vb b) (hl : a.length + b.length ≤ 200) (hp : ¬ ((prt a).2 = 0 ∧ (prt b).2 = 0)) :
    Calls Tryd.prog 6 #[va, vb] w fun e w' => e = .returned (.bool true) ∧ Below w.heap.size w w' := by
  have HT := Lib.hid hT
  have HA := Lib.hid ha
  have HB := Lib.hid hb
  obtain ⟨pa, ca, rfl, -⟩ := ha.in_
  obtain ⟨pb, cb, rfl, -⟩ := hb.in_
  clear hT ha hb
  by_cases h1 : (prt a).2 = 0
  · have h2 : ¬ (prt b).2 = 0 := fun h => hp ⟨h1, h⟩
    have e2 : ((prt b).2 != 0) = true := by simpa using h2
    have HE := Lib.hid (prt_err h2)
    have e1 : ((prt a).2 != 0) = false := by simpa using h1
    clear h1 h2 hp
    go_enter Tryd.func6, Tryd.ntmps6
    go_wp2_with fail
    refine (awake3_any _ HT.out).mono ?_
    rintro e w1 ⟨rfl, b1⟩
    go_wp2_with fail
    refine (print_any a _ _ (HA.out.step b1) (by omega) (pow_at HT.out b1)).mono ?_
    rintro e w2 ⟨rfl, hb2⟩
    have b2 := bstep b1 hb2
    clear b1 hb2
    go_wp2_with fail
    refine (print_any b _ _ (HB.out.step b2) (by omega) (pow_at HT.out b2)).mono ?_
    rw [HE.out]
    rintro e w3 ⟨rfl, hb3⟩
    have b3 := bstep b2 hb3
    clear b2 hb3
    go_wp2
    all_goals
      go_ret
      exact ⟨ret_bool (by simp), b3⟩
  · have e1 : ((prt a).2 != 0) = true := by simpa using h1
    have HE := Lib.hid (prt_err h1)
    clear h1 hp
    go_enter Tryd.func6, Tryd.ntmps6
    go_wp2_with fail
    refine (awake3_any _ HT.out).mono ?_
    rintro e w1 ⟨rfl, b1⟩
    go_wp2_with fail
    refine (print_any a _ _ (HA.out.step b1) (by omega) (pow_at HT.out b1)).mono ?_
    rw [HE.out]
    rintro e w2 ⟨rfl, hb2⟩
    have b2 := bstep b1 hb2
    clear b1 hb2
    go_wp2_with fail
    refine (print_any b _ _ (HB.out.step b2) (by omega) (pow_at HT.out b2)).mono ?_
    rintro e w3 ⟨rfl, hb3⟩
    have b3 := bstep b2 hb3
    clear b2 hb3
    go_wp2
    all_goals
      go_ret
      exact ⟨ret_bool (by simp), b3⟩

theorem text_either {a b : List Op} (h : a = [] ∨ b = []) : text (a ++ b) = text a ++ text b := by
  rcases h with rfl | rfl
  · rfl
  · simp [text]

set_option maxRecDepth 100000 in
set_option maxHeartbeats 2000000 in
theorem join_bm (a b : List Op) (va vb : Value) (w : World) (hT : Pow w.heap.size w) (ha : OpsAt w va a) (hb : OpsAt w vb b) (la : a.length ≤ 64) (lb : b.length ≤ 64) (ma : a.all mayB = true) (mb : b.all mayB = true) (hpa : prt a = (text a, 0)) (hpb : prt b = (text b, 0)) (n1 : 0 < a.length) (n2 : 0 < b.length) (h64 : 64 < a.length + b.length) :
    Calls Tryd.prog 6 #[va, vb] w fun e w' => e = .returned (.bool true) ∧ Below w.heap.size w w' := by
  have HT := Lib.hid hT
  have HA := Lib.hid ha
  have HB := Lib.hid hb
  obtain ⟨pa, ca, rfl, -⟩ := ha.in_
  obtain ⟨pb, cb, rfl, -⟩ := hb.in_
  have HPA := Lib.hid hpa
  have HPB := Lib.hid hpb
  have lta := text_len a (List.all_eq_true.1 ma)
  have ltb := text_len b (List.all_eq_true.1 mb)
  obtain ⟨l, hl⟩ : ∃ l, l = a ++ b := ⟨_, rfl⟩
  have ml : l.all mayB = true := by rw [hl, List.all_append, ma, mb]; rfl
  have ll : l.length = a.length + b.length := by rw [hl]; exact List.length_append
  have ltl := text_len l (List.all_eq_true.1 ml)
  have ll1 : l.length ≤ 128 := by omega
  have HE := Lib.hid ((congrArg text hl).trans (text_append a b (by rintro rfl; simp at n1) (by rintro rfl; simp at n2)))
  have l64 : 64 < l.length := by omega
  have HG := Lib.hid (prt_many l64)
  have HP := Lib.hid (prs_many ml l64 ll1)
  have HL := Lib.hid hl
  clear hT ha hb hpa hpb ma mb ml hl ll
  go_enter Tryd.func6, Tryd.ntmps6
  go_wp2_with fail
  refine (awake3_any _ HT.out).mono ?_
  rintro e w1 ⟨rfl, b1⟩
  go_wp2_with fail
  refine (print_any a _ _ (HA.out.step b1) (by omega) (pow_at HT.out b1)).mono ?_
  rw [HPA.out]
  rintro e w2 ⟨rfl, hb2⟩
  have b2 := bstep b1 hb2
  clear b1 hb2
  go_wp2_with fail
  refine (print_any b _ _ (HB.out.step b2) (by omega) (pow_at HT.out b2)).mono ?_
  rw [HPB.out]
  rintro e w3 ⟨rfl, hb3⟩
  have b3 := bstep b2 hb3
  clear b2 hb3
  have O0 : (w3.alloc (.cells #[] 33)).ownsRow w3.heap.size 33 3 (.slice (some ⟨w3.heap.size, 0, none⟩) 0 0) ([] : List Op).length (opCells []) := World.ownsRow_made (base := w3.heap.size) (e := 33) (size := 3) w3 #[] 0 (by simp) (by decide) (by simp)
  go_wp2_with (at_builtin; refine wpList_append_ops rfl _ _ rfl w3.heap.size _ [] rfl O0 _ a rfl ((HA.out.step b3).alloc _) (by decide) (by omega) (by simp) ?_)
  intro v4 w4 O4 hb4
  have b4 : Below w.heap.size w w4 := bstep b3 (((Below.refl _ _).alloc (Nat.le_refl _) _).trans hb4)
  have z4 : w3.heap.size ≤ w4.heap.size := by have := hb4.size; simp at this; omega
  clear hb4
  go_wp2_with (at_builtin; refine wpList_append_ops rfl _ _ rfl w3.heap.size _ a rfl O4 _ b rfl (HB.out.step b4) (by omega) (by omega) z4 ?_)
  intro v5 w5 O5 hb5
  have b5 : Below w.heap.size w w5 := b4.trans (hb5.mono b3.size)
  have OA : Hid (OpsAt w5 v5 l) := Lib.hid (ops_of_own (by rw [HL.out, List.length_append]; exact O5))
  clear hb5 O4 b4 z4 O0 O5 b3
  obtain ⟨p5, c5, rfl, -⟩ := OA.out.in_
  go_wp2_with fail
  refine (print_any l _ _ OA.out (by omega) (pow_at HT.out b5)).mono ?_
  rw [HG.out]
  rintro e w6 ⟨rfl, hb6⟩
  have b6 := bstep b5 hb6
  clear b5 hb6
  go_wp2_with fail
  refine (parse_to (text l) _ _ (by rw [Joins.data_append, Joins.data_append, HE.out]; simp) (by omega)).mono ?_
  rw [HP.out]
  rintro e w7 ⟨v7, rfl, -, hb7⟩
  have b7 := bstep b6 hb7
  clear b6 hb7
  go_wp2
  go_ret
  exact ⟨ret_bool (by simp), b7⟩

set_option maxRecDepth 100000 in
set_option maxHeartbeats 2000000 in
theorem join_bf (a b : List Op) (va vb : Value) (w : World) (hT : Pow w.heap.size w) (ha : OpsAt w va a) (hb : OpsAt w vb b) (la : a.length ≤ 64) (lb : b.length ≤ 64) (ma : a.all mayB = true) (mb : b.all mayB = true) (hpa : prt a = (text a, 0)) (hpb : prt b = (text b, 0)) (n1 : 0 < a.length) (n2 : 0 < b.length) (h64 : a.length + b.length ≤ 64) :
    Calls Tryd.prog 6 #[va, vb] w fun e w' => e = .returned (.bool true) ∧ Below w.heap.size w w' := by
  have HT := Lib.hid hT
  have HA := Lib.hid ha
  have HB := Lib.hid hb
  obtain ⟨pa, ca, rfl, -⟩ := ha.in_
  obtain ⟨pb, cb, rfl, -⟩ := hb.in_
  have HPA := Lib.hid hpa
  have HPB := Lib.hid hpb
  have lta := text_len a (List.all_eq_true.1 ma)
  have ltb := text_len b (List.all_eq_true.1 mb)
  obtain ⟨l, hl⟩ : ∃ l, l = a ++ b := ⟨_, rfl⟩
  have ml : l.all mayB = true := by rw [hl, List.all_append, ma, mb]; rfl
  have ll : l.length = a.length + b.length := by rw [hl]; exact List.length_append
  have ltl := text_len l (List.all_eq_true.1 ml)
  have ll1 : l.length ≤ 128 := by omega
  have HE := Lib.hid ((congrArg text hl).trans (text_append a b (by rintro rfl; simp at n1) (by rintro rfl; simp at n2)))
  have l64 : l.length ≤ 64 := by omega
  have HG := Lib.hid (prt_fine ml (by omega))
  have HP := Lib.hid (prs_blank ml ll1)
  have HL := Lib.hid hl
  clear hT ha hb hpa hpb ma mb ml hl ll
  go_enter Tryd.func6, Tryd.ntmps6
  go_wp2_with fail
  refine (awake3_any _ HT.out).mono ?_
  rintro e w1 ⟨rfl, b1⟩
  go_wp2_with fail
  refine (print_any a _ _ (HA.out.step b1) (by omega) (pow_at HT.out b1)).mono ?_
  rw [HPA.out]
  rintro e w2 ⟨rfl, hb2⟩
  have b2 := bstep b1 hb2
  clear b1 hb2
  go_wp2_with fail
  refine (print_any b _ _ (HB.out.step b2) (by omega) (pow_at HT.out b2)).mono ?_
  rw [HPB.out]
  rintro e w3 ⟨rfl, hb3⟩
  have b3 := bstep b2 hb3
  clear b2 hb3
  have O0 : (w3.alloc (.cells #[] 33)).ownsRow w3.heap.size 33 3 (.slice (some ⟨w3.heap.size, 0, none⟩) 0 0) ([] : List Op).length (opCells []) := World.ownsRow_made (base := w3.heap.size) (e := 33) (size := 3) w3 #[] 0 (by simp) (by decide) (by simp)
  go_wp2_with (at_builtin; refine wpList_append_ops rfl _ _ rfl w3.heap.size _ [] rfl O0 _ a rfl ((HA.out.step b3).alloc _) (by decide) (by omega) (by simp) ?_)
  intro v4 w4 O4 hb4
  have b4 : Below w.heap.size w w4 := bstep b3 (((Below.refl _ _).alloc (Nat.le_refl _) _).trans hb4)
  have z4 : w3.heap.size ≤ w4.heap.size := by have := hb4.size; simp at this; omega
  clear hb4
  go_wp2_with (at_builtin; refine wpList_append_ops rfl _ _ rfl w3.heap.size _ a rfl O4 _ b rfl (HB.out.step b4) (by omega) (by omega) z4 ?_)
  intro v5 w5 O5 hb5
  have b5 : Below w.heap.size w w5 := b4.trans (hb5.mono b3.size)
  have OA : Hid (OpsAt w5 v5 l) := Lib.hid (ops_of_own (by rw [HL.out, List.length_append]; exact O5))
  clear hb5 O4 b4 z4 O0 O5 b3
  obtain ⟨p5, c5, rfl, -⟩ := OA.out.in_
  go_wp2_with fail
  refine (print_any l _ _ OA.out (by omega) (pow_at HT.out b5)).mono ?_
  rw [HG.out]
  rintro e w6 ⟨rfl, hb6⟩
  have b6 := bstep b5 hb6
  clear b5 hb6
  go_wp2_with fail
  refine (parse_to (text l ++ [32]) _ _ (by rw [Joins.data_append, Joins.data_append, Joins.data_append, HE.out]; simp) (by simp; omega)).mono ?_
  rw [HP.out]
  rintro e w7 ⟨v7, rfl, -, hb7⟩
  have b7 := bstep b6 hb7
  clear b6 hb7
  go_wp2
  · go_ret
    exact ⟨ret_bool (by simp), b7⟩
  · rename_i hne
    exact absurd (by rw [ByteArray.toList_eq, Joins.data_append, Joins.data_append, HE.out]; simp) hne

set_option maxRecDepth 100000 in
set_option maxHeartbeats 2000000 in
theorem join_of (a b : List Op) (va vb : Value) (w : World) (hT : Pow w.heap.size w) (ha : OpsAt w va a) (hb : OpsAt w vb b) (la : a.length ≤ 64) (lb : b.length ≤ 64) (ma : a.all mayB = true) (mb : b.all mayB = true) (hpa : prt a = (text a, 0)) (hpb : prt b = (text b, 0)) (n : a = [] ∨ b = []) (h64 : a.length + b.length ≤ 64) :
    Calls Tryd.prog 6 #[va, vb] w fun e w' => e = .returned (.bool true) ∧ Below w.heap.size w w' := by
  have HT := Lib.hid hT
  have HA := Lib.hid ha
  have HB := Lib.hid hb
  obtain ⟨pa, ca, rfl, -⟩ := ha.in_
  obtain ⟨pb, cb, rfl, -⟩ := hb.in_
  have HPA := Lib.hid hpa
  have HPB := Lib.hid hpb
  have lta := text_len a (List.all_eq_true.1 ma)
  have ltb := text_len b (List.all_eq_true.1 mb)
  obtain ⟨l, hl⟩ : ∃ l, l = a ++ b := ⟨_, rfl⟩
  have ml : l.all mayB = true := by rw [hl, List.all_append, ma, mb]; rfl
  have ll : l.length = a.length + b.length := by rw [hl]; exact List.length_append
  have ltl := text_len l (List.all_eq_true.1 ml)
  have ll1 : l.length ≤ 128 := by omega
  have HE := Lib.hid ((congrArg text hl).trans (text_either n))
  have l64 : l.length ≤ 64 := by omega
  have HG := Lib.hid (prt_fine ml (by omega))
  have HP := Lib.hid (prs_blank ml ll1)
  have hdec : a.length ≤ 0 ∨ (0 < a.length ∧ b.length ≤ 0) := by
    rcases n with rfl | rfl
    · exact .inl (Nat.le_refl _)
    · rcases Nat.eq_zero_or_pos a.length with h | h
      · exact .inl (by omega)
      · exact .inr ⟨h, Nat.le_refl _⟩
  clear n
  have HL := Lib.hid hl
  clear hT ha hb hpa hpb ma mb ml hl ll
  rcases hdec with n1 | ⟨n1, n2⟩
  · go_enter Tryd.func6, Tryd.ntmps6
    go_wp2_with fail
    refine (awake3_any _ HT.out).mono ?_
    rintro e w1 ⟨rfl, b1⟩
    go_wp2_with fail
    refine (print_any a _ _ (HA.out.step b1) (by omega) (pow_at HT.out b1)).mono ?_
    rw [HPA.out]
    rintro e w2 ⟨rfl, hb2⟩
    have b2 := bstep b1 hb2
    clear b1 hb2
    go_wp2_with fail
    refine (print_any b _ _ (HB.out.step b2) (by omega) (pow_at HT.out b2)).mono ?_
    rw [HPB.out]
    rintro e w3 ⟨rfl, hb3⟩
    have b3 := bstep b2 hb3
    clear b2 hb3
    have O0 : (w3.alloc (.cells #[] 33)).ownsRow w3.heap.size 33 3 (.slice (some ⟨w3.heap.size, 0, none⟩) 0 0) ([] : List Op).length (opCells []) := World.ownsRow_made (base := w3.heap.size) (e := 33) (size := 3) w3 #[] 0 (by simp) (by decide) (by simp)
    go_wp2_with (at_builtin; refine wpList_append_ops rfl _ _ rfl w3.heap.size _ [] rfl O0 _ a rfl ((HA.out.step b3).alloc _) (by decide) (by omega) (by simp) ?_)
    intro v4 w4 O4 hb4
    have b4 : Below w.heap.size w w4 := bstep b3 (((Below.refl _ _).alloc (Nat.le_refl _) _).trans hb4)
    have z4 : w3.heap.size ≤ w4.heap.size := by have := hb4.size; simp at this; omega
    clear hb4
    go_wp2_with (at_builtin; refine wpList_append_ops rfl _ _ rfl w3.heap.size _ a rfl O4 _ b rfl (HB.out.step b4) (by omega) (by omega) z4 ?_)
    intro v5 w5 O5 hb5
    have b5 : Below w.heap.size w w5 := b4.trans (hb5.mono b3.size)
    have OA : Hid (OpsAt w5 v5 l) := Lib.hid (ops_of_own (by rw [HL.out, List.length_append]; exact O5))
    clear hb5 O4 b4 z4 O0 O5 b3
    obtain ⟨p5, c5, rfl, -⟩ := OA.out.in_
    go_wp2_with fail
    refine (print_any l _ _ OA.out (by omega) (pow_at HT.out b5)).mono ?_
    rw [HG.out]
    rintro e w6 ⟨rfl, hb6⟩
    have b6 := bstep b5 hb6
    clear b5 hb6
    go_wp2_with fail
    refine (parse_to (text l ++ [32]) _ _ (by rw [Joins.data_append, Joins.data_append, HE.out]) (by simp; omega)).mono ?_
    rw [HP.out]
    rintro e w7 ⟨v7, rfl, -, hb7⟩
    have b7 := bstep b6 hb7
    clear b6 hb7
    go_wp2
    · go_ret
      exact ⟨ret_bool (by simp), b7⟩
    · rename_i hne
      exact absurd (by rw [ByteArray.toList_eq, Joins.data_append, HE.out]) hne
  · go_enter Tryd.func6, Tryd.ntmps6
    go_wp2_with fail
    refine (awake3_any _ HT.out).mono ?_
    rintro e w1 ⟨rfl, b1⟩
    go_wp2_with fail
    refine (print_any a _ _ (HA.out.step b1) (by omega) (pow_at HT.out b1)).mono ?_
    rw [HPA.out]
    rintro e w2 ⟨rfl, hb2⟩
    have b2 := bstep b1 hb2
    clear b1 hb2
    go_wp2_with fail
    refine (print_any b _ _ (HB.out.step b2) (by omega) (pow_at HT.out b2)).mono ?_
    rw [HPB.out]
    rintro e w3 ⟨rfl, hb3⟩
    have b3 := bstep b2 hb3
    clear b2 hb3
    have O0 : (w3.alloc (.cells #[] 33)).ownsRow w3.heap.size 33 3 (.slice (some ⟨w3.heap.size, 0, none⟩) 0 0) ([] : List Op).length (opCells []) := World.ownsRow_made (base := w3.heap.size) (e := 33) (size := 3) w3 #[] 0 (by simp) (by decide) (by simp)
    go_wp2_with (at_builtin; refine wpList_append_ops rfl _ _ rfl w3.heap.size _ [] rfl O0 _ a rfl ((HA.out.step b3).alloc _) (by decide) (by omega) (by simp) ?_)
    intro v4 w4 O4 hb4
    have b4 : Below w.heap.size w w4 := bstep b3 (((Below.refl _ _).alloc (Nat.le_refl _) _).trans hb4)
    have z4 : w3.heap.size ≤ w4.heap.size := by have := hb4.size; simp at this; omega
    clear hb4
    go_wp2_with (at_builtin; refine wpList_append_ops rfl _ _ rfl w3.heap.size _ a rfl O4 _ b rfl (HB.out.step b4) (by omega) (by omega) z4 ?_)
    intro v5 w5 O5 hb5
    have b5 : Below w.heap.size w w5 := b4.trans (hb5.mono b3.size)
    have OA : Hid (OpsAt w5 v5 l) := Lib.hid (ops_of_own (by rw [HL.out, List.length_append]; exact O5))
    clear hb5 O4 b4 z4 O0 O5 b3
    obtain ⟨p5, c5, rfl, -⟩ := OA.out.in_
    go_wp2_with fail
    refine (print_any l _ _ OA.out (by omega) (pow_at HT.out b5)).mono ?_
    rw [HG.out]
    rintro e w6 ⟨rfl, hb6⟩
    have b6 := bstep b5 hb6
    clear b5 hb6
    go_wp2_with fail
    refine (parse_to (text l ++ [32]) _ _ (by rw [Joins.data_append, Joins.data_append, HE.out]) (by simp; omega)).mono ?_
    rw [HP.out]
    rintro e w7 ⟨v7, rfl, -, hb7⟩
    have b7 := bstep b6 hb7
    clear b6 hb7
    go_wp2
    · go_ret
      exact ⟨ret_bool (by simp), b7⟩
    · rename_i hne
      exact absurd (by rw [ByteArray.toList_eq, Joins.data_append, HE.out]) hne

theorem join_any (a b : List Op) (va vb : Value) (w : World) (hT : Pow w.heap.size w) (ha : OpsAt w va a) (hb : OpsAt w vb b) (la : a.length ≤ 4611686018427387903) (lb : b.length ≤ 4611686018427387903) :
    Calls Tryd.prog 6 #[va, vb] w fun e w' => e = .returned (.bool true) ∧ Below w.heap.size w w' := by
  by_cases h : a.length + b.length ≤ 200
  · by_cases hp : (prt a).2 = 0 ∧ (prt b).2 = 0
    · obtain ⟨a1, a2, a3⟩ := prt_ok hp.1
      obtain ⟨b1, b2, b3⟩ := prt_ok hp.2
      by_cases h64 : 64 < a.length + b.length
      · rcases Nat.eq_zero_or_pos a.length with e | e
        · omega
        · rcases Nat.eq_zero_or_pos b.length with e' | e'
          · omega
          · exact join_bm a b va vb w hT ha hb a2 b2 a3 b3 a1 b1 e e' h64
      · rcases Nat.eq_zero_or_pos a.length with e | e
        · exact join_of a b va vb w hT ha hb a2 b2 a3 b3 a1 b1 (.inl (List.eq_nil_of_length_eq_zero e)) (by omega)
        · rcases Nat.eq_zero_or_pos b.length with e' | e'
          · exact join_of a b va vb w hT ha hb a2 b2 a3 b3 a1 b1 (.inr (List.eq_nil_of_length_eq_zero e')) (by omega)
          · exact join_bf a b va vb w hT ha hb a2 b2 a3 b3 a1 b1 e e' (by omega)
    · exact join_err a b va vb w hT ha hb h hp
  · have HT := Lib.hid hT
    obtain ⟨pa, ca, rfl, -⟩ := ha.in_
    obtain ⟨pb, cb, rfl, -⟩ := hb.in_
    have h' : 200 < a.length + b.length := by omega
    clear hT ha hb h
    go_enter Tryd.func6, Tryd.ntmps6
    go_wp2_with (go_at_call 7; refine (awake3_any _ HT.out).mono ?_; rintro e w1 ⟨rfl, b1⟩)
    go_ret
    exact ⟨rfl, b1⟩

end Go.Proofs.YtobpeaigapnpdaaDoor
