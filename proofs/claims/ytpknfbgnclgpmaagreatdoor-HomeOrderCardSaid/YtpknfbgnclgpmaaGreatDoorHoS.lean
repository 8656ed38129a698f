/-
  What HomeOrder's walk asks of lists of messages: append as a step, where messages lie; how many wait.
-/
import Derived.Test.YtpknfbgnclgpmaaGreatDoorHoR
import Derived.Test.YtpknfbgnclgpmaaGreatDoorHoQ
import Derived.Test.YtpknfbgnclgpmaaGreatDoorHoO
import Derived.Test.YtpknfbgnclgpmaaGreatDoorHoF
namespace Go.Proofs.YtpknfbgnclgpmaaGreatDoor.Ho
open Go Go.RowKit

open Classical in
theorem perm_by {A B : Bx} (h : ∀ a, List.count a A = List.count a B) : A.Perm B := List.perm_iff_count.2 h
variable {w0 w wr : World} {K : Kb} {c : Cfg} {n : Int} {s : Hs} {X : Nat → Obj → Prop} {bx R : Bx}
theorem wp_append_rw {o : Oper} {a : Act} {F : Act → World → Prop} {Q : Exit → Act → World → Prop} (x y : Operand)
    (ho : o.op = .call { callee := .builtin .append, args := #[x, y], argTypes := #[78, 78] }) {zs : Bx} {v : Value} {l ms : List Msg} (hO : Own w0 K c n s X bx wr) (hp : bx.Perm (zs ++ R)) (hv : Rw zs v l) (hs : a.eval x = v)
    (ad : Addr) (c' : Nat) (hx : a.eval y = .slice (some ad) ms.length c') (h0 : 0 < ms.length) (hl : l.length + ms.length ≤ 5000) (hnews : ∀ j u, (Qu.cellsOf Qu.mg ms)[j]? = some u → wr.cell? (ad.add j) = some u)
    (h : ∀ v' w' zs', Rw zs' v' (l ++ ms) → Own w0 K c n s X (zs' ++ R) w' → F (a.put o.dst v') w') : Oper.wp Tryz.prog o a wr F Q := by
  obtain ⟨v', w', zs', hrun, h1, h2⟩ := (hO.perm hp).append hv ad c' h0 hl hnews o.type
  unfold Oper.wp
  simp [execOp, ho, resolve, invoke, builtin, hs, hx, hrun, Result.andThen]
  exact h v' w' zs' h1 h2
theorem step_append_rw {ops : Array Oper} {o : Oper} {a : Act} {F : Act → World → Prop} {Q : Exit → Act → World → Prop} {E : Prop} (hgd : o.guard = none) (x y : Operand)
    (ho : o.op = .call { callee := .builtin .append, args := #[x, y], argTypes := #[78, 78] }) {zs : Bx} {v : Value} {l ms : List Msg} (hO : Own w0 K c n s X bx wr) (hp : bx.Perm (zs ++ R)) (hv : Rw zs v l) (hs : a.eval x = v)
    (ad : Addr) (c' : Nat) (hx : a.eval y = .slice (some ad) ms.length c') (h0 : 0 < ms.length) (hl : l.length + ms.length ≤ 5000) (hnews : ∀ j u, (Qu.cellsOf Qu.mg ms)[j]? = some u → wr.cell? (ad.add j) = some u)
    (h : ∀ v' w' zs', Rw zs' v' (l ++ ms) → Own w0 K c n s X (zs' ++ R) w' → F (a.put o.dst v') w') : if Region.wanted o (yielded ops a.tmps) = true then Oper.wp Tryz.prog o a wr F Q else E := by
  have hw : Region.wanted o (yielded ops a.tmps) = true := by simp [Region.wanted, hgd]
  rw [if_pos hw]
  exact wp_append_rw x y ho hO hp hv hs ad c' hx h0 hl hnews h
theorem wpList_append_rw {ops : Array Oper} {rest : List Oper} {o : Oper} {a : Act} {Q : Exit → Act → World → Prop} (hgd : o.guard = none) (x y : Operand)
    (ho : o.op = .call { callee := .builtin .append, args := #[x, y], argTypes := #[78, 78] }) {zs : Bx} {v : Value} {l ms : List Msg} (hO : Own w0 K c n s X bx wr) (hp : bx.Perm (zs ++ R)) (hv : Rw zs v l) (hs : a.eval x = v)
    (ad : Addr) (c' : Nat) (hx : a.eval y = .slice (some ad) ms.length c') (h0 : 0 < ms.length) (hl : l.length + ms.length ≤ 5000) (hnews : ∀ j u, (Qu.cellsOf Qu.mg ms)[j]? = some u → wr.cell? (ad.add j) = some u)
    (h : ∀ v' w' zs', Rw zs' v' (l ++ ms) → Own w0 K c n s X (zs' ++ R) w' → wpList Tryz.prog ops Q rest (a.put o.dst v') w') : wpList Tryz.prog ops Q (o :: rest) a wr := by
  have hw : Region.wanted o (yielded ops a.tmps) = true := by simp [Region.wanted, hgd]
  unfold wpList
  rw [if_pos hw]
  exact .inl (wp_append_rw x y ho hO hp hv hs ad c' hx h0 hl hnews h)
/-- A list of one message that was built. -/
theorem news_one (m : Msg) (j : Nat) (u : Value) (h : (Qu.cellsOf Qu.mg [m])[j]? = some u) : (wr.alloc (.cells (mcells m) 38)).cell? ((⟨wr.heap.size, 0, none⟩ : Addr).add j) = some u := by
  have e : Qu.cellsOf Qu.mg [m] = (mcells m).toList := by simp [Qu.cellsOf, Qu.mg]
  rw [e] at h
  exact World.news_of_block (cs := mcells m) (t := 38) (fr := (0, 0)) (heap_alloc_new wr _) j u h
theorem news_min {p : Option Addr} {l : List Msg} (h : Qu.MIn w p l) (h0 : l ≠ []) : ∃ ad, p = some ad ∧ ∀ j u, (Qu.cellsOf Qu.mg l)[j]? = some u → w.cell? (ad.add j) = some u := by
  obtain ⟨x, hx⟩ : ∃ x, l[0]? = some x := by cases l with | nil => exact absurd rfl h0 | cons x l => exact ⟨x, rfl⟩
  obtain ⟨g, o, rfl, -, -⟩ := h 0 x hx
  refine ⟨_, rfl, fun j u hj => ?_⟩
  have hlt := (List.getElem?_eq_some_iff.1 hj).1
  rw [Qu.cellsOf_len Qu.mg_len] at hlt
  have hd : j / 15 < l.length := by omega
  have hr : j % 15 < 15 := by omega
  have e : j = j / 15 * 15 + j % 15 := by omega
  obtain ⟨g', o', q, -, hc⟩ := h (j / 15) l[j / 15] (List.getElem?_eq_getElem hd)
  cases q
  rw [e, Qu.cellsOf_at Qu.mg_len l _ _ hd hr] at hj
  have := hc _ _ hj
  rw [Addr.add_lit]
  rwa [show o + j / 15 * 15 + j % 15 = o + j by omega] at this
theorem next_sent {e : Sh.En} {m : Msg} {v : Sh.W8} {t : Sh.Tn} (h : Sh.nextT e m v = (t, 0)) : t.sent ≠ [] := by
  have h1 : ∀ x, (Sh.shareT e m ((Sh.baseT e).send m x)).sent ≠ [] := fun x => by unfold Sh.shareT; split <;> simp [Sh.Tn.send, Sh.baseT]
  have h2 : ∀ x, (Sh.takeT e m ((Sh.baseT e).send m x)).sent ≠ [] := fun x => by simp [Sh.takeT, Sh.Tn.send, Sh.baseT]
  have h3 : ∀ x, (Sh.leaveT e m ((Sh.baseT e).send m x)).sent ≠ [] := fun x => by unfold Sh.leaveT; split <;> simp [Sh.Tn.send, Sh.baseT]
  unfold Sh.nextT at h
  repeat' split at h
  all_goals first
    | (cases h; first | exact h1 _ | exact h2 _ | exact h3 _)
    | (exfalso; simp at h)
theorem range_in {w : World} {k : Nat} {x : Sp} (h : ∀ i, w.cell? ⟨k, i, none⟩ = (scells x)[i]?) : w.rangeAt k 5 (mcells x.m).toList := fun j u hj => by
  rw [h]
  have hl := (List.getElem?_eq_some_iff.1 hj).1
  simp at hl
  rcases (show j = 0 ∨ j = 1 ∨ j = 2 ∨ j = 3 ∨ j = 4 ∨ j = 5 ∨ j = 6 ∨ j = 7 ∨ j = 8 ∨ j = 9 ∨ j = 10 ∨ j = 11 ∨ j = 12 ∨ j = 13 ∨ j = 14 by omega) with rfl | rfl | rfl | rfl | rfl | rfl | rfl | rfl | rfl | rfl | rfl | rfl | rfl | rfl | rfl <;> exact hj
theorem range_rp {w : World} {k : Nat} {r : Rp} (h : ∀ i, w.cell? ⟨k, i, none⟩ = (rcs r)[i]?) : w.rangeAt k 0 (mcells r.1).toList := fun j u hj => by
  rw [h]
  have hl := (List.getElem?_eq_some_iff.1 hj).1
  simp at hl
  rcases (show j = 0 ∨ j = 1 ∨ j = 2 ∨ j = 3 ∨ j = 4 ∨ j = 5 ∨ j = 6 ∨ j = 7 ∨ j = 8 ∨ j = 9 ∨ j = 10 ∨ j = 11 ∨ j = 12 ∨ j = 13 ∨ j = 14 by omega) with rfl | rfl | rfl | rfl | rfl | rfl | rfl | rfl | rfl | rfl | rfl | rfl | rfl | rfl | rfl <;> exact hj
/-- How many of a list's first wait. -/
def wq (line : Int) (x : Qu.Ep) : Bool := x.m.ln == line && !x.st
def cntW (line : Int) (M : List Qu.Ep) (k : Nat) : Nat := ((M.take k).filter (wq line)).length
theorem cntW_le (line : Int) (M : List Qu.Ep) (k : Nat) : cntW line M k ≤ k := by
  unfold cntW
  have h1 := List.length_filter_le (wq line) (M.take k)
  rw [List.length_take] at h1
  omega
theorem cntW_next {line : Int} {M : List Qu.Ep} {k : Nat} {y : Qu.Ep} (h : M[k]? = some y) : cntW line M (k + 1) = cntW line M k + if wq line y = true then 1 else 0 := by
  obtain ⟨hk, rfl⟩ := List.getElem?_eq_some_iff.1 h
  unfold cntW
  rw [List.take_succ_eq_append_getElem hk, List.filter_append, List.length_append]
  congr 1
  rw [List.filter_cons]
  split <;> simp
theorem cntW_all {line : Int} {M : List Qu.Ep} {l : List Qu.En} (h : M.map Qu.Ep.pl = l) : cntW line M M.length = (unst line l).length := by
  subst h
  unfold cntW unst
  rw [List.take_length, List.filter_map, List.length_map, List.length_map]
  rfl
/-- What is left to do for a line's lists, with so many that wait. -/
def Nx3 (c : Cfg) (n line : Int) (k : Nat) (s : Hs) (st : List Msg) (wn : Nat) (cm sd : List Msg) (e : Sh.En) (d : Me.Wd) : Prop :=
  (cm.length = wn ∧ OInv c n line k s cm sd st e d) ∨ ∃ m rest, cm = m :: rest ∧ rest.length = wn ∧ e.s.l.length ≤ 5000 ∧
    ((∃ t, Sh.nextT e m (w8Of d) = (t, 7) ∧ 0 < s.od) ∨ ∃ t, Sh.nextT e m (w8Of d) = (t, 0) ∧ OInv c n line k s rest (sd ++ t.sent) st t.e (if t.wr = true then wdOf m else d))
theorem nx3_of {line : Int} {k : Nat} {s2 : Hs} {cm sd st : List Msg} {e : Sh.En} {d : Me.Wd} (he : e.s.l.length ≤ 5000)
    (h : (cm.length = (unst line s2.Q).length ∧ OInv c n line k s2 cm sd st e d) ∨ ∃ m rest, cm = m :: rest ∧ (unst line s2.Q).length = rest.length ∧ ((∃ t, Sh.nextT e m (w8Of d) = (t, 7) ∧ 0 < s2.od) ∨ ∃ t, Sh.nextT e m (w8Of d) = (t, 0) ∧ Et c t.e ∧ OInv c n line k s2 rest (sd ++ t.sent) st t.e (if t.wr = true then wdOf m else d))) : Nx3 c n line k s2 st (unst line s2.Q).length cm sd e d := by
  rcases h with h | ⟨m, rest, h1, h2, h3⟩
  · exact .inl h
  · refine .inr ⟨m, rest, h1, h2.symm, he, ?_⟩
    rcases h3 with h3 | ⟨t, q1, -, q2⟩
    · exact .inl h3
    · exact .inr ⟨t, q1, q2⟩
def lenV : Value → Nat
  | .slice _ n _ => n
  | _ => 0
theorem rw_lenV {zs : Bx} {v : Value} {l : List Msg} (h : Rw zs v l) : lenV v = l.length := by
  rcases h with ⟨rfl, rfl, -⟩ | ⟨g, o, cap, cur, rfl, -⟩ <;> rfl
theorem Own.ent_len (h : Own w0 K c n s X bx wr) {y : Int} (hy : ownB c n y = true) : (s.E y).s.l.length ≤ 8 := may_len (h.gd.en y hy).may
theorem Own.entryY (h : Own w0 K c n s X bx w) (y : Int) (hw : (Lit.int .i64 y).wf = true) (hy : ownB c n y = true) :
    Calls Tryz.prog 18 #[ptr K.h, .int .i64 y] w (EntG w (s.E y) true) := by
  have := h.entryF y hw
  rwa [tellE, if_pos hy, hy] at this
theorem Own.lineY (h : Own w0 K c n s X bx w) (y : Int) (hw : (Lit.int .i64 y).wf = true) (hy : ownB c n y = true) :
    Calls Tryz.prog 19 #[ptr K.h, .int .i64 y] w (LineG w (Me.lnP c s.L y).1 true) := by
  have := h.lineF y hw
  rwa [tellL, if_pos hy, hy] at this

/-- The first of a list. -/
theorem rw_head {zs : Bx} {v : Value} {A B : List Msg} (h : Rw zs v (A ++ B)) : ∃ sl p cap, sl = .slice p A.length cap ∧ (∀ w, (Instr.slice 78 v none (some (.int .i64 (A.length : Int))) none).run Tryz.prog w = .ok sl w) ∧ ∀ W, Holds zs W → Qu.MIn W p A := by
  have he : Tryz.prog.elem 78 = 38 := by kernel_rfl
  have hz : ∀ w, (sizeOf 38).run Tryz.prog w = .ok 15 w := fun w => by kernel_rfl
  have hu : Tryz.prog.underlying 78 = some (.slice (Tryz.prog.elem 78)) := by rw [he]; exact Tryz.underlying78
  obtain ⟨p, cap, rfl, hc, hm⟩ := rw_min h
  have hl : (A ++ B).length = A.length + B.length := List.length_append
  have hr := fun w => run_slice_h (P := Tryz.prog) w 78 p (A ++ B).length cap hu .i64 A.length (by omega) (by omega)
  have hp : (if cap = 0 then p else p.map (fun x => x.add 0)) = p := by
    split
    · rfl
    · cases p <;> rfl
  refine ⟨.slice p A.length cap, p, cap, rfl, fun w => by rw [hr w, he, hz]; simp only [Result.andThen, sliced, Int.toNat_natCast, Nat.sub_zero, Nat.zero_mul]; rw [hp], fun W hW i x hx => ?_⟩
  obtain ⟨hi, rfl⟩ := List.getElem?_eq_some_iff.1 hx
  exact hm W hW i A[i] (by rw [List.getElem?_append_left hi]; exact hx)
theorem same_msgs (p q : Option Addr) (c c' : Nat) (l : List Msg) (w : World) (hl : l.length ≤ 5000) (h1 : Qu.MIn w p l) (h2 : Qu.MIn w q l) :
    Calls Tryz.prog 24 #[.slice p l.length c, .slice q l.length c'] w fun e w' => e = .returned (.bool true) ∧ Below w.heap.size w w' := by
  have := Qu.msame_any p q c c' l l w hl h1 h2
  rwa [decide_eq_true rfl] at this
theorem min_row {w : World} {q : Option Addr} {l : List Msg} (h : Qu.MIn w q l) (g : Nat) (cs : Array Value) (hne : ∀ a, q = some a → a.block ≠ g) : Qu.MIn (w.setRow g cs) q l :=
  h.keep (by simp) (fun _ a ha _ => setRow_other _ _ _ _ (hne a ha))
theorem range_w7 {w : World} {g o : Nat} {m : Msg} (h : w.rangeAt g o (mcells m).toList) : w.rangeAt g (o + 7) (Me.dcells (wdOf m)).toList := fun j u hj => by
  have hl := (List.getElem?_eq_some_iff.1 hj).1
  simp at hl
  rw [Nat.add_assoc]
  rcases (show j = 0 ∨ j = 1 ∨ j = 2 ∨ j = 3 ∨ j = 4 ∨ j = 5 ∨ j = 6 ∨ j = 7 by omega) with rfl | rfl | rfl | rfl | rfl | rfl | rfl | rfl <;> exact h _ u hj

end Go.Proofs.YtpknfbgnclgpmaaGreatDoor.Ho
