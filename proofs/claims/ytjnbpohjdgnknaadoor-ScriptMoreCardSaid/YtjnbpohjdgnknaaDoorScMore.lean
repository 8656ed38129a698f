/-
  The walk of ScriptMore: whatever bytes it is given, it returns true, and writes nothing that was there.
-/
import Derived.Test.YtjnbpohjdgnknaaDoorScV
import Derived.Deep.RegionHeld3
import Derived.Laws.AppendOwnNone
import Derived.Deep.DeepCutAuto
namespace Go.Proofs.YtjnbpohjdgnknaaDoor
open Go Go.RowKit

theorem opCells_app (a b : List Op) : opCells (a ++ b) = opCells a ++ opCells b := by simp [opCells]
theorem opCells_len (l : List Op) : (opCells l).length = l.length * 3 := by
  induction l with
  | nil => rfl
  | cons x l ih =>
    have e : opCells (x :: l) = .int .i64 x.k :: .int .i64 x.a :: .int .i64 x.v :: opCells l := rfl
    rw [e]
    simp only [List.length_cons, ih]
    omega
theorem opCells_one (l : List Op) : ∀ u ∈ opCells l, u.oneCell' = true := by
  intro u hu
  obtain ⟨x, _, hx⟩ := List.mem_flatMap.1 hu
  simp at hx
  rcases hx with rfl | rfl | rfl <;> rfl

/-- append of picks, wherever they lie, to picks of the call's own, in a region. -/
theorem step_append_pks {w : World} {ops : Array Oper} {o : Oper} {a : Act} {K : Act → World → Prop} {Q : Exit → Act → World → Prop} {E : Prop} (hgd : o.guard = none) (s x : Operand)
    (ho : o.op = .call { callee := .builtin .append, args := #[s, x], argTypes := #[26, 26] }) (base : Nat)
    (v : Value) (l : List Op) (hs : a.eval s = v) (hown : w.ownsRow base 49 3 v l.length (opCells l)) (y : Value) (m : List Op) (hx : a.eval x = y) (hy : OpsAt w y m)
    (h1 : l.length ≤ 50000) (h2 : m.length ≤ 50000) (hbase : base ≤ w.heap.size)
    (h : ∀ v' w', w'.ownsRow base 49 3 v' (l ++ m).length (opCells (l ++ m)) → Below base w w' → (∀ k, k < w.heap.size → v.ownBlock ≠ some k → w'.heap[k]? = w.heap[k]?) → K (a.put o.dst v') w') :
    if Region.wanted o (yielded ops a.tmps) = true then Oper.wp Tryd.prog o a w K Q else E := by
  obtain ⟨i0, hi0, hz0, hz1, hz2⟩ := info_parts infoPick
  have hw : Region.wanted o (yielded ops a.tmps) = true := by simp [Region.wanted, hgd]
  rw [if_pos hw]
  have hlt : ∀ k, v.ownBlock = some k → base ≤ k := fun k hk => (own_lt hown k hk).1
  rcases hy with ⟨p, cap, rfl, hp, rfl⟩ | ⟨g, off, cap, rfl, hg, hc⟩
  · cases p with
    | some ad =>
      refine wp_append_own w s x 26 ho base 49 i0 _ 3 24 Tryd.underlying26 hi0 hz0 hz1 hz2 rfl (by decide) v l.length (opCells l) hs hown ad 0 cap [] hx rfl (fun j u hu => by simp at hu) (fun u hu => by simp at hu) (by unfold maxLen; omega) (by omega) hbase ?_
      intro v' w' h3 h4 _
      exact h v' w' (by rw [List.append_nil]; simpa using h3) ((Below.refl _ _).grown h4 hbase hlt) (fun k hk hne => h4.block k hk (fun e => hne e.symm))
    | none =>
      have hc0 := hp rfl
      subst hc0
      have hrun := run_append_owned_none (P := Tryd.prog) (w := w) base 26 o.type 49 i0 3 Tryd.underlying26 hi0 v l.length (opCells l) hown
      unfold Oper.wp
      simp [execOp, ho, resolve, invoke, builtin, hs, hx, hrun, Result.andThen]
      exact h v w (by rw [List.append_nil]; exact hown) (Below.refl _ _) (fun k _ _ => rfl)
  · refine wp_append_own w s x 26 ho base 49 i0 _ 3 24 Tryd.underlying26 hi0 hz0 hz1 hz2 rfl (by decide) v l.length (opCells l) hs hown ⟨g, off, none⟩ m.length cap (opCells m) hx (opCells_len m) (fun j u hu => ?_) (opCells_one m) (by unfold maxLen; omega) (by omega) hbase ?_
    · have e : (⟨g, off, none⟩ : Addr).add j = ⟨g, off + j, none⟩ := by unfold Addr.add; split <;> simp_all
      rw [e]
      exact hc j u hu
    · intro v' w' h3 h4 _
      exact h v' w' (by rw [List.length_append, opCells_app]; exact h3) ((Below.refl _ _).grown h4 hbase hlt) (fun k hk hne => h4.block k hk (fun e => hne e.symm))

/-- The bytes of the array, as a text: the first so many. -/
theorem conv_n (W : World) (b n : Nat) (l : List UInt8) (hn : l.length = n) (h : ∀ j (hj : j < l.length), W.cell? ⟨b, j, none⟩ = some (.int .u8 (l[j].toNat : Int))) :
    (convert 47 9 (.slice (some ⟨b, 0, none⟩) n 3)).run Tryd.prog W = .ok (.string ⟨l.toArray⟩) W := by
  subst hn
  refine run_convert_bytes_back (P := Tryd.prog) W 47 9 5 ⟨b, 0, none⟩ 3 l Tryd.underlying47 Tryd.underlying5 Tryd.underlying9 (fun j hj => ?_)
  rw [Lib.add_plain, Nat.zero_add]
  exact h j hj
abbrev xL (x y z : UInt8) : Array Value := #[.int .u8 x.toNat, .int .u8 y.toNat, .int .u8 z.toNat]
theorem conv_123 (W : World) (b : Nat) (x y z : UInt8) (h : ∀ o, W.cell? ⟨b, o, none⟩ = (xL x y z)[o]?) :
    (convert 47 9 (.slice (some ⟨b, 0, none⟩) 3 3)).run Tryd.prog W = .ok (.string ⟨#[x, y, z]⟩) W ∧ (convert 47 9 (.slice (some ⟨b, 0, none⟩) 1 3)).run Tryd.prog W = .ok (.string ⟨#[x]⟩) W ∧ (convert 47 9 (.slice (some ⟨b, 0, none⟩) 2 3)).run Tryd.prog W = .ok (.string ⟨#[x, y]⟩) W := by
  refine ⟨conv_n W b 3 [x, y, z] rfl (fun j hj => ?_), conv_n W b 1 [x] rfl (fun j hj => ?_), conv_n W b 2 [x, y] rfl (fun j hj => ?_)⟩
  · rw [h]
    match j, hj with
    | 0, _ => rfl
    | 1, _ => rfl
    | 2, _ => rfl
  · rw [h]
    match j, hj with
    | 0, _ => rfl
  · rw [h]
    match j, hj with
    | 0, _ => rfl
    | 1, _ => rfl

set_option maxRecDepth 100000 in
set_option maxHeartbeats 2000000 in
theorem smore_long (t : ByteArray) (x y z : UInt8) (w : World) (hS : Std w) (ht : t.size ≤ 9223372036854775807) (h3 : 3000 < t.size) :
    Calls Tryd.prog 5 #[.string t, .agg (xL x y z)] w fun e w' => e = .returned (.bool true) ∧ Below w.heap.size w w' := by
  have HZ := Lib.hid hS
  have K0 := Kp.box w (xL x y z) 46
  clear hS
  go_enter Tryd.func5, Tryd.ntmps5
  go_wp2_with fail
  refine (awake4_any _ (HZ.out.step K0.2.2)).mono ?_
  rintro e w1 ⟨rfl, hb1⟩
  have K1 := K0.step hb1
  clear hb1
  go_wp2
  go_ret
  exact ⟨rfl, K1.2.2⟩

set_option maxRecDepth 100000 in
set_option maxHeartbeats 2000000 in
theorem smore_err (t : ByteArray) (x y z : UInt8) (w : World) (hS : Std w) (h3 : ¬ 3000 < t.size) (n : Int) (hE : rdM t.data.toList = .error n) (hx : (n != 0) = true) :
    Calls Tryd.prog 5 #[.string t, .agg (xL x y z)] w fun e w' => e = .returned (.bool true) ∧ Below w.heap.size w w' := by
  have HZ := Lib.hid hS
  have HE := Lib.hid hE
  have K0 := Kp.box w (xL x y z) 46
  clear hS hE
  go_enter Tryd.func5, Tryd.ntmps5
  go_wp2_with fail
  refine (awake4_any _ (HZ.out.step K0.2.2)).mono ?_
  rintro e w1 ⟨rfl, hb1⟩
  have K1 := K0.step hb1
  clear hb1
  go_wp2_with fail
  refine (read_script t _ (by omega)).mono ?_
  rintro e w3 ⟨hb3, h3⟩
  rw [HE.out] at h3
  subst h3
  have K3 := K1.step (bstep hb3 ((Below.refl _ w3).alloc (Nat.le_refl _) (.cells (sL c0 nilV nilV) 28)))
  go_wp2
  go_ret
  exact ⟨rfl, K3.2.2⟩

/-- Behind the first reading: the array, the script's block, and nothing else that was there has changed. -/
structure Mst (w w3 wr : World) (x y z : UInt8) (L : Array Value) : Prop where
  x : ∀ o, wr.cell? ⟨w.heap.size, o, none⟩ = (xL x y z)[o]?
  lt : w.heap.size < w3.heap.size
  box : wr.heap[w3.heap.size]? = some (.cells L 28 (0, 0))
  below : Below w3.heap.size w3 wr
theorem Mst.step {w w3 w1 w2 : World} {x y z : UInt8} {L : Array Value} (h : Mst w w3 w1 x y z L) (hb : Below w1.heap.size w1 w2) : Mst w w3 w2 x y z L :=
  ⟨fun o => (hb.cell (p := ⟨w.heap.size, o, none⟩) (by have := h.below.size; have := h.lt; show w.heap.size < w1.heap.size; omega)).trans (h.x o), h.lt, (hb.block _ (lt_of_block h.box)).trans h.box, h.below.trans (hb.mono h.below.size)⟩
theorem Mst.set {w w3 w1 : World} {x y z : UInt8} {L : Array Value} (h : Mst w w3 w1 x y z L) (i : Nat) (u : Value) : Mst w w3 (w1.setCell ⟨w3.heap.size, i, none⟩ u) x y z (L.setIfInBounds i u) :=
  ⟨fun o => (cell_of_heap (Below.heap_setCell _ _ _ _ (by have := h.lt; show w.heap.size ≠ w3.heap.size; omega)) o).trans (h.x o), h.lt, blk_set h.box i u, h.below.setCell (Nat.le_refl _) _⟩

/-- Behind all four readings: besides, the second script's block, and that all of it is the call's own. -/
structure Mor (w w3 wr : World) (x y z : UInt8) (L : Array Value) (b5 b7 : Nat) (L7 : Array Value) (pv qv : Value) (s : Scr) : Prop where
  m : Mst w w3 wr x y z L
  t : wr.heap[b7]? = some (.cells L7 28 (0, 0))
  ls : OwnLs wr b5 pv s.ps
  pk : wr.ownsRow b5 49 3 qv s.pk.length (opCells s.pk)
  lt : w3.heap.size < b5
  ne : b7 ≠ w3.heap.size
theorem Mor.step {w w3 w1 w2 : World} {x y z : UInt8} {L L7 : Array Value} {b5 b7 : Nat} {pv qv : Value} {s : Scr} (h : Mor w w3 w1 x y z L b5 b7 L7 pv qv s) (hb : Below w1.heap.size w1 w2) : Mor w w3 w2 x y z L b5 b7 L7 pv qv s :=
  ⟨h.m.step hb, (hb.block _ (lt_of_block h.t)).trans h.t, h.ls.step hb, own_below h.pk hb, h.lt, h.ne⟩
theorem Mor.set {w w3 w1 : World} {x y z : UInt8} {L L7 : Array Value} {b5 b7 : Nat} {pv qv : Value} {s : Scr} (h : Mor w w3 w1 x y z L b5 b7 L7 pv qv s) (i : Nat) (u : Value) : Mor w w3 (w1.setCell ⟨w3.heap.size, i, none⟩ u) x y z (L.setIfInBounds i u) b5 b7 L7 pv qv s := by
  have ho : Only w3.heap.size w1 (w1.setCell ⟨w3.heap.size, i, none⟩ u) := (Only.refl _ _).set i u
  obtain ⟨us, h1, h2, h3⟩ := h.ls
  exact ⟨h.m.set i u, (ho.other b7 h.ne).trans h.t, ⟨us, own_only h1 ho h.lt, h2, fun j hj => own_only (h3 j hj) ho h.lt⟩, own_only h.pk ho h.lt, h.lt, h.ne⟩
theorem box_ops {w : World} {H : Nat} {x : Op} {t : TypeId} (h : w.heap[H]? = some (.cells #[.int .i64 x.k, .int .i64 x.a, .int .i64 x.v] t (0, 0))) : OpsAt w (.slice (some ⟨H, 0, none⟩) 1 1) [x] :=
  .inr ⟨H, 0, 1, rfl, lt_of_block h, fun i u hu => by rw [Nat.zero_add, blk_cell h i]; simpa [opCells] using hu⟩

set_option maxRecDepth 100000 in
set_option maxHeartbeats 8000000 in
theorem smore_ok (t : ByteArray) (x y z : UInt8) (w : World) (hS : Std w) (h3 : ¬ 3000 < t.size) (s : Scr) (hE : rdM t.data.toList = .ok s) :
    Calls Tryd.prog 5 #[.string t, .agg (xL x y z)] w fun e w' => e = .returned (.bool true) ∧ Below w.heap.size w w' := by
  have HZ := Lib.hid hS
  have K0 := Kp.box w (xL x y z) 46
  have hsz0 : t.data.toList.length = t.size := rfl
  have HFS := Lib.hid (rd_fine hE (by omega))
  obtain ⟨sp, hsp⟩ : ∃ sp : Scr, sp = ⟨s.c, s.ps, s.pk ++ [⟨x.toNat, y.toNat, z.toNat⟩]⟩ := ⟨_, rfl⟩
  have HSP := Lib.hid hsp
  have HE3 : Hid (rdM (t ++ ByteArray.mk #[x, y, z]).data.toList = .ok sp) := Lib.hid (by rw [Joins.data_append, hsp]; exact rd_more3 hE x y z)
  have HE1 : Hid (rdM (t ++ ByteArray.mk #[x]).data.toList = .error 3) := Lib.hid (by rw [Joins.data_append]; exact rd_more1 hE x)
  have HE2 : Hid (rdM (t ++ ByteArray.mk #[x, y]).data.toList = .error 3) := Lib.hid (by rw [Joins.data_append]; exact rd_more2 hE x y)
  have z3 : Hid ((t ++ ByteArray.mk #[x, y, z]).size ≤ 100000000) := Lib.hid (by rw [ByteArray.size_append]; have e : (ByteArray.mk #[x, y, z]).size = 3 := rfl; omega)
  have z1 : Hid ((t ++ ByteArray.mk #[x]).size ≤ 100000000) := Lib.hid (by rw [ByteArray.size_append]; have e : (ByteArray.mk #[x]).size = 1 := rfl; omega)
  have z2 : Hid ((t ++ ByteArray.mk #[x, y]).size ≤ 100000000) := Lib.hid (by rw [ByteArray.size_append]; have e : (ByteArray.mk #[x, y]).size = 2 := rfl; omega)
  have HE := Lib.hid hE
  have HFT : Hid (Fine sp) := Lib.hid (by rw [hsp]; exact rd_fine (rd_more3 hE x y z) (by rw [List.length_append]; simp; omega))
  clear hS hE hsz0 hsp
  go_enter Tryd.func5, Tryd.ntmps5
  go_wp2_with fail
  refine (awake4_any _ (HZ.out.step K0.2.2)).mono ?_
  rintro e w1 ⟨rfl, hb1⟩
  have K1 := K0.step hb1
  clear hb1
  go_wp2_with fail
  refine (read_script t _ (by omega)).mono ?_
  rintro e w3 ⟨hb3, h3⟩
  rw [HE.out] at h3
  obtain ⟨pv, qv, rfl, hy1, hy2⟩ := h3
  obtain ⟨p1, cp1, q1, cq1, rfl, rfl, at1⟩ := own_at hy1 hy2
  have K3 := K1.step hb3
  have A3 := Lib.hid at1
  have P3 := Lib.hid (ops_of_row hy2)
  have hpk : s.pk.length ≤ 5000 := HFS.out.pk
  have HB3 := Lib.hid K3.2.2
  have M4 : Hid (Mst w w3 (w3.alloc (.cells (sC s p1 cp1 q1 cq1) 28)) x y z (sC s p1 cp1 q1 cq1)) := Lib.hid ⟨(K3.step ((Below.refl _ w3).alloc (Nat.le_refl _) _)).1, K3.2.1, heap_alloc_new w3 _, (Below.refl _ w3).alloc (Nat.le_refl _) _⟩
  have hcv4 := (conv_123 _ _ x y z M4.out.x).1
  have hlt3 := K3.2.1
  clear hy1 hy2 at1 hb3 K3 K1 K0
  go_wp2_with fail
  refine (read_script _ _ z3.out).mono ?_
  rintro e w5 ⟨hb5, h5⟩
  rw [HE3.out] at h5
  obtain ⟨pv, qv, rfl, hy1, hy2⟩ := h5
  obtain ⟨p2, cp2, q2, cq2, rfl, rfl, at2⟩ := own_at hy1 hy2
  have h43 : w3.heap.size < (w3.alloc (.cells (sC s p1 cp1 q1 cq1) 28)).heap.size := by simp
  have h53 : w3.heap.size < w5.heap.size := Nat.lt_of_lt_of_le h43 hb5.size
  have M6 : Hid (Mor w w3 (w5.alloc (.cells (sC sp p2 cp2 q2 cq2) 28)) x y z (sC s p1 cp1 q1 cq1) _ w5.heap.size (sC sp p2 cp2 q2 cq2) _ _ sp) := Lib.hid ⟨(M4.out.step hb5).step ((Below.refl _ w5).alloc (Nat.le_refl _) _), heap_alloc_new w5 _, hy1.step ((Below.refl _ w5).alloc (Nat.le_refl _) _), hy2.alloc _, h43, by omega⟩
  have hcv6 := (conv_123 _ _ x y z M6.out.m.x).2.1
  clear hy1 hy2 at2 hb5 hcv4 M4
  go_wp2_with fail
  refine (read_script _ _ z1.out).mono ?_
  rintro e w7 ⟨hb7, h7⟩
  rw [HE1.out] at h7
  subst h7
  have hb7' := bstep hb7 ((Below.refl _ w7).alloc (Nat.le_refl _) (.cells (sL c0 nilV nilV) 28))
  have M8 := Lib.hid (M6.out.step hb7')
  have hcv8 := (conv_123 _ _ x y z M8.out.m.x).2.2
  clear hb7 hb7' hcv6 M6
  have h5e : ∃ b5, b5 = (w3.alloc (.cells (sC s p1 cp1 q1 cq1) 28)).heap.size := ⟨_, rfl⟩
  obtain ⟨b5, hb5e⟩ := h5e
  rw [← hb5e] at M8
  clear hb5e
  go_upto_region 10 with fail
  go_cut [11, 12] (fun s11 s12 wx => (∃ pp, s11 = .pointer pp) ∧ s12 = .int .i64 3 ∧ Hid (Mor w w3 wx x y z (sC s p1 cp1 q1 cq1) b5 w5.heap.size (sC sp p2 cp2 q2 cq2) (.slice p2 sp.ps.length cp2) (.slice q2 sp.pk.length cq2) sp))
  case first =>
    go_wp2_with fail
    refine (read_script _ _ z2.out).mono ?_
    rintro e w9 ⟨hb9, h9⟩
    rw [HE2.out] at h9
    subst h9
    have M10 := Lib.hid (M8.out.step (bstep hb9 ((Below.refl _ w9).alloc (Nat.le_refl _) (.cells (sL c0 nilV nilV) 28))))
    go_wp2
    go_meet
    exact ⟨⟨_, rfl⟩, rfl, M10⟩
  case rest =>
    obtain ⟨⟨pp, rfl⟩, rfl, MV⟩ := hcut
    clear M8 hcv8
    obtain ⟨V, rfl⟩ : ∃ V : World, V = wc := ⟨_, rfl⟩
    have hl3 := MV.out.m.lt
    have hl4 := lt_of_block MV.out.m.box
    have hX : Hid (∀ W', Below V.heap.size V W' → ∀ o, W'.cell? ⟨w.heap.size, o, none⟩ = (xL x y z)[o]?) := Lib.hid (fun W' hb => (MV.out.m.step hb).x)
    have hXS : Hid (∀ W' v, Below V.heap.size V W' → ∀ o, (W'.setCell ⟨w3.heap.size, 14, none⟩ v).cell? ⟨w.heap.size, o, none⟩ = (xL x y z)[o]?) := Lib.hid (fun W' v hb => ((MV.out.m.step hb).set 14 v).x)
    have h14 : Hid (∀ W', Below V.heap.size V W' → W'.cell? ⟨w3.heap.size, 14, none⟩ = some (.slice q1 s.pk.length cq1)) := Lib.hid (fun W' hb => blk_cell (MV.out.m.step hb).box 14)
    have h14a := h14.out V.drew (Below.refl _ _).drew
    have h14b := fun o => h14.out (V.alloc o).drew ((Below.refl _ V).alloc (Nat.le_refl _) o).drew
    have h14c := fun o o' => h14.out ((V.alloc o).alloc o').drew (((Below.refl _ V).alloc (Nat.le_refl _) o).alloc (by simp) o').drew
    have hwx := byte_wrap x
    have hwy := byte_wrap y
    have hwz := byte_wrap z
    have PP : Hid (∀ W', Below V.heap.size V W' → OpsAt W' (.slice q1 s.pk.length cq1) s.pk) := Lib.hid (fun W' hb => P3.out.step ((MV.out.m.step hb).below))
    have O1 : Hid ((V.alloc (.cells #[] 49)).drew.ownsRow V.heap.size 49 3 (.slice (some ⟨V.heap.size, 0, none⟩) 0 0) ([] : List Op).length (opCells [])) := Lib.hid (World.ownsRow_made (base := V.heap.size) (e := 49) (size := 3) V #[] 0 (by simp) (by decide) (by simp))
    have O2 : Hid (((V.alloc (.cells #[] 49)).alloc (.cells #[.int .i64 x.toNat, .int .i64 y.toNat, .int .i64 z.toNat] 49)).drew.ownsRow V.heap.size 49 3 (.slice (some ⟨V.heap.size, 0, none⟩) 0 0) ([] : List Op).length (opCells [])) := Lib.hid (World.ownsRow.alloc (World.ownsRow_made (base := V.heap.size) (e := 49) (size := 3) V #[] 0 (by simp) (by decide) (by simp)) _)
    have O3 : Hid (((V.alloc (.cells #[.int .i64 x.toNat, .int .i64 y.toNat, .int .i64 z.toNat] 49)).alloc (.cells #[] 49)).drew.ownsRow V.heap.size 49 3 (.slice (some ⟨V.heap.size + 1, 0, none⟩) 0 0) ([] : List Op).length (opCells [])) := Lib.hid (by
      have h := World.ownsRow_made (base := V.heap.size) (e := 49) (size := 3) (V.alloc (.cells #[.int .i64 x.toNat, .int .i64 y.toNat, .int .i64 z.toNat] 49)) #[] 0 (by simp) (by decide) (by simp)
      have e : (V.alloc (.cells #[.int .i64 x.toNat, .int .i64 y.toNat, .int .i64 z.toNat] 49)).heap.size = V.heap.size + 1 := by simp
      rw [e] at h
      exact h)
    have b1 : Hid (Below V.heap.size V (V.alloc (.cells #[] 49)).drew) := Lib.hid ((Below.refl _ V).alloc (Nat.le_refl _) _).drew
    have b2 : Hid (Below V.heap.size V ((V.alloc (.cells #[] 49)).alloc (.cells #[.int .i64 x.toNat, .int .i64 y.toNat, .int .i64 z.toNat] 49)).drew) := Lib.hid (((Below.refl _ V).alloc (Nat.le_refl _) _).alloc (by simp) _).drew
    have b3 : Hid (Below V.heap.size V ((V.alloc (.cells #[.int .i64 x.toNat, .int .i64 y.toNat, .int .i64 z.toNat] 49)).alloc (.cells #[] 49)).drew) := Lib.hid (((Below.refl _ V).alloc (Nat.le_refl _) _).alloc (by simp) _).drew
    have b4 : Hid (Below V.heap.size V (V.alloc (.cells #[.int .i64 x.toNat, .int .i64 y.toNat, .int .i64 z.toNat] 49)).drew) := Lib.hid ((Below.refl _ V).alloc (Nat.le_refl _) _).drew
    have x2 : Hid (((V.alloc (.cells #[] 49)).alloc (.cells #[.int .i64 x.toNat, .int .i64 y.toNat, .int .i64 z.toNat] 49)).drew.heap[V.heap.size + 1]? = some (.cells #[.int .i64 x.toNat, .int .i64 y.toNat, .int .i64 z.toNat] 49 (0, 0))) := Lib.hid (new_at2 V _ _)
    have x3 : Hid (((V.alloc (.cells #[.int .i64 x.toNat, .int .i64 y.toNat, .int .i64 z.toNat] 49)).alloc (.cells #[] 49)).drew.heap[V.heap.size]? = some (.cells #[.int .i64 x.toNat, .int .i64 y.toNat, .int .i64 z.toNat] 49 (0, 0))) := Lib.hid ((heap_old (by simp)).trans (heap_alloc_new V _))
    have hbO1 : Hid (V.heap.size ≤ (V.alloc (.cells #[] 49)).drew.heap.size) := Lib.hid b1.out.size
    have hbO2 := Lib.hid b2.out.size
    have hbO3 := Lib.hid b3.out.size
    have hpk2 : Hid (s.pk.length ≤ 50000) := Lib.hid (by omega)
    have hBB := Lib.hid (HB3.out.trans (MV.out.m.below.mono (Nat.le_of_lt hl3) : Below w.heap.size w3 V))
    go_upto_region 11 with fail
    go_cut [12] (fun s12 wx => s12 = .int .i64 3 ∧ ∃ va vn vc, Hid (Mor w w3 wx x y z (sL s.c (.slice p1 s.ps.length cp1) (.slice va vn vc)) b5 w5.heap.size (sC sp p2 cp2 q2 cq2) (.slice p2 sp.ps.length cp2) (.slice q2 sp.pk.length cq2) sp) ∧ Hid (wx.ownsRow V.heap.size 49 3 (.slice va vn vc) sp.pk.length (opCells sp.pk)))
    case first =>
      refine wp_region_noPanic ?_
      refine wp_region_held_drew (S := (fun w' => ∀ o, w'.cell? ⟨w.heap.size, o, none⟩ = (xL x y z)[o]?)) (by kernel_rfl) (hX.out _ (Below.refl _ V).drew) (fun hh => ?_)
      refine wpAnyH_take (fuel := 17) (i := 1) (oi := ⟨some 54, _, _, _, _, _⟩) (v := .pointer (some ⟨w3.heap.size, 14, none⟩)) rfl (by kernel_rfl) (by kernel_rfl) (by kernel_rfl) (fun _ _ _ h => h) (Or.inl ⟨by rfl, ?_⟩) hh ?_
      · intro w' hS
        go_simp
      simp only [Act.put, List.setIfInBounds_toArray]
      refine wpAnyH_take (fuel := 16) (i := 4) (oi := ⟨some 57, _, _, _, _, _⟩) (v := .pointer (some ⟨w.heap.size, 0, none⟩)) rfl (by kernel_rfl) (by kernel_rfl) (by kernel_rfl) (fun _ _ _ h => h) (Or.inl ⟨by rfl, ?_⟩) hh ?_
      · intro w' hS
        go_simp
      simp only [Act.put, List.setIfInBounds_toArray]
      refine wpAnyH_take (fuel := 15) (i := 5) (oi := ⟨some 58, _, _, _, _, _⟩) (v := .int .u8 x.toNat) rfl (by kernel_rfl) (by kernel_rfl) (by kernel_rfl) (fun _ _ _ h => h) (Or.inl ⟨by rfl, ?_⟩) hh ?_
      · intro w' hS
        go_simp
      simp only [Act.put, List.setIfInBounds_toArray]
      refine wpAnyH_take (fuel := 14) (i := 6) (oi := ⟨some 59, _, _, _, _, _⟩) (v := .int .i64 x.toNat) rfl (by kernel_rfl) (by kernel_rfl) (by kernel_rfl) (fun _ _ _ h => h) (Or.inl ⟨by rfl, ?_⟩) hh ?_
      · intro w' hS
        go_simp
      simp only [Act.put, List.setIfInBounds_toArray]
      refine wpAnyH_take (fuel := 13) (i := 7) (oi := ⟨some 60, _, _, _, _, _⟩) (v := .pointer (some ⟨w.heap.size, 1, none⟩)) rfl (by kernel_rfl) (by kernel_rfl) (by kernel_rfl) (fun _ _ _ h => h) (Or.inl ⟨by rfl, ?_⟩) hh ?_
      · intro w' hS
        go_simp
      simp only [Act.put, List.setIfInBounds_toArray]
      refine wpAnyH_take (fuel := 12) (i := 8) (oi := ⟨some 61, _, _, _, _, _⟩) (v := .int .u8 y.toNat) rfl (by kernel_rfl) (by kernel_rfl) (by kernel_rfl) (fun _ _ _ h => h) (Or.inl ⟨by rfl, ?_⟩) hh ?_
      · intro w' hS
        go_simp
      simp only [Act.put, List.setIfInBounds_toArray]
      refine wpAnyH_take (fuel := 11) (i := 9) (oi := ⟨some 62, _, _, _, _, _⟩) (v := .int .i64 y.toNat) rfl (by kernel_rfl) (by kernel_rfl) (by kernel_rfl) (fun _ _ _ h => h) (Or.inl ⟨by rfl, ?_⟩) hh ?_
      · intro w' hS
        go_simp
      simp only [Act.put, List.setIfInBounds_toArray]
      refine wpAnyH_take (fuel := 10) (i := 10) (oi := ⟨some 63, _, _, _, _, _⟩) (v := .pointer (some ⟨w.heap.size, 2, none⟩)) rfl (by kernel_rfl) (by kernel_rfl) (by kernel_rfl) (fun _ _ _ h => h) (Or.inl ⟨by rfl, ?_⟩) hh ?_
      · intro w' hS
        go_simp
      simp only [Act.put, List.setIfInBounds_toArray]
      refine wpAnyH_take (fuel := 9) (i := 11) (oi := ⟨some 64, _, _, _, _, _⟩) (v := .int .u8 z.toNat) rfl (by kernel_rfl) (by kernel_rfl) (by kernel_rfl) (fun _ _ _ h => h) (Or.inl ⟨by rfl, ?_⟩) hh ?_
      · intro w' hS
        go_simp
      simp only [Act.put, List.setIfInBounds_toArray]
      refine wpAnyH_take (fuel := 8) (i := 12) (oi := ⟨some 65, _, _, _, _, _⟩) (v := .int .i64 z.toNat) rfl (by kernel_rfl) (by kernel_rfl) (by kernel_rfl) (fun _ _ _ h => h) (Or.inl ⟨by rfl, ?_⟩) hh ?_
      · intro w' hS
        go_simp
      simp only [Act.put, List.setIfInBounds_toArray]
      refine wpAnyH_take (fuel := 7) (i := 13) (oi := ⟨some 66, _, _, _, _, _⟩) (v := .agg #[.int .i64 x.toNat, .int .i64 y.toNat, .int .i64 z.toNat]) rfl (by kernel_rfl) (by kernel_rfl) (by kernel_rfl) (fun _ _ _ h => h) (Or.inl ⟨by rfl, ?_⟩) hh ?_
      · intro w' hS
        go_simp
      simp only [Act.put, List.setIfInBounds_toArray]
      refine wpAnyH_ready (fuel := 6) (rs := [0, 2, 14]) (by kernel_rfl) (by simp) ?_
      refine (AllReadyH.cons (o := ⟨some 53, _, _, _, _, _⟩) rfl (fun K hK => ?_) (AllReadyH.cons (o := ⟨some 55, _, _, _, _, _⟩) rfl (fun K hK => ?_) (AllReadyH.cons (o := ⟨some 67, _, _, _, _, _⟩) rfl (fun K hK => ?_) AllReadyH.nil)))
      · go_simp
        show K _ _
        refine hK.out _ _ (hX.out _ b1.out) (fun hh => ?_)
        clear hK K
        try simp only [Act.put, List.setIfInBounds_toArray]
        refine wpAnyH_ready (fuel := 5) (rs := [2, 14]) (by kernel_rfl) (by simp) ?_
        refine (AllReadyH.cons (o := ⟨some 55, _, _, _, _, _⟩) rfl (fun K hK => ?_) (AllReadyH.cons (o := ⟨some 67, _, _, _, _, _⟩) rfl (fun K hK => ?_) AllReadyH.nil))
        · go_simp
          show K _ _
          refine hK.out _ _ (hX.out _ b1.out) (fun hh => ?_)
          clear hK K
          try simp only [Act.put, List.setIfInBounds_toArray]
          refine wpAnyH_ready (fuel := 4) (rs := [3, 14]) (by kernel_rfl) (by simp) ?_
          refine (AllReadyH.cons (o := ⟨some 56, _, _, _, _, _⟩) rfl (fun K hK => ?_) (AllReadyH.cons (o := ⟨some 67, _, _, _, _, _⟩) rfl (fun K hK => ?_) AllReadyH.nil))
          · refine step_append_pks rfl _ _ rfl V.heap.size _ [] rfl O1.out _ s.pk rfl (PP.out _ b1.out) (by decide) hpk2.out hbO1.out ?_
            intro v1 w1 hown1 hbl1 hkp1
            obtain ⟨va, vn, vc, rfl⟩ := own_form hown1
            rw [List.nil_append] at hown1
            have BW1 := b1.out.trans hbl1
            clear hbl1 hkp1
            show K _ _
            refine hK.out _ _ (hX.out _ BW1) (fun hh => ?_)
            clear hK K
            try simp only [Act.put, List.setIfInBounds_toArray]
            refine wpAnyH_ready (fuel := 3) (rs := [14]) (by kernel_rfl) (by simp) ?_
            refine (AllReadyH.cons (o := ⟨some 67, _, _, _, _, _⟩) rfl (fun K hK => ?_) AllReadyH.nil)
            go_simp
            show K _ _
            refine hK.out _ _ (hX.out _ (BW1.alloc BW1.size _)) (fun hh => ?_)
            clear hK K
            try simp only [Act.put, List.setIfInBounds_toArray]
            refine wpAnyH_ready (fuel := 2) (rs := [15]) (by kernel_rfl) (by simp) ?_
            refine (AllReadyH.cons (o := ⟨some 68, _, _, _, _, _⟩) rfl (fun K hK => ?_) AllReadyH.nil)
            refine step_append_pks rfl _ _ rfl V.heap.size _ s.pk rfl (hown1.alloc _) _ [⟨x.toNat, y.toNat, z.toNat⟩] rfl (box_ops (heap_alloc_new w1 (.cells #[.int .i64 x.toNat, .int .i64 y.toNat, .int .i64 z.toNat] 49))) hpk2.out (by simp) (by have := BW1.size; simp; omega) ?_
            intro v2 w2 hown2 hbl2 hkp2
            obtain ⟨ua, un, uc, rfl⟩ := own_form hown2
            have BW2 := (BW1.alloc BW1.size _).trans hbl2
            have hd14 := h14.out _ BW2
            have hf14 := blk_free (MV.out.m.step BW2).box 14
            clear hbl2 hkp2
            show K _ _
            refine hK.out _ _ (hX.out _ BW2) (fun hh => ?_)
            clear hK K
            try simp only [Act.put, List.setIfInBounds_toArray]
            refine wpAnyH_take (fuel := 1) (i := 16) (oi := ⟨some 69, _, _, _, _, _⟩) (v := .pointer (some ⟨w3.heap.size, 14, none⟩)) rfl (by kernel_rfl) (by kernel_rfl) (by kernel_rfl) (fun _ _ _ h => h) (Or.inl ⟨by rfl, ?_⟩) hh ?_
            · intro w' hS
              go_simp
            simp only [Act.put, List.setIfInBounds_toArray]
            refine wpAnyH_ready (fuel := 0) (rs := [17]) (by kernel_rfl) (by simp) ?_
            refine (AllReadyH.cons (o := ⟨none, _, _, _, _, _⟩) rfl (fun K hK => ?_) AllReadyH.nil)
            go_simp
            show K _ _
            refine hK.out _ _ (hXS.out _ _ BW2) (fun hh => ?_)
            clear hK K
            try simp only [Act.put, List.setIfInBounds_toArray]
            refine wpAnyH_done (by kernel_rfl) ?_ _
            refine NoPanic.normal ?_
            go_wp2_with fail
            go_meet
            exact ⟨rfl, ua, un, uc, Lib.hid ((MV.out.step BW2).set 14 _), Lib.hid (own_only (by rw [HSP.out]; exact hown2) ((Only.refl w3.heap.size w2).set 14 _) (by omega))⟩
          · go_simp
            show K _ _
            refine hK.out _ _ (hX.out _ b2.out) (fun hh => ?_)
            clear hK K
            try simp only [Act.put, List.setIfInBounds_toArray]
            refine wpAnyH_ready (fuel := 3) (rs := [3]) (by kernel_rfl) (by simp) ?_
            refine (AllReadyH.cons (o := ⟨some 56, _, _, _, _, _⟩) rfl (fun K hK => ?_) AllReadyH.nil)
            refine step_append_pks rfl _ _ rfl V.heap.size _ [] rfl O2.out _ s.pk rfl (PP.out _ b2.out) (by decide) hpk2.out hbO2.out ?_
            intro v1 w1 hown1 hbl1 hkp1
            obtain ⟨va, vn, vc, rfl⟩ := own_form hown1
            rw [List.nil_append] at hown1
            have BW1 := b2.out.trans hbl1
            have XC := (hkp1 (V.heap.size + 1) (lt_of_block x2.out) (fun e => by have e2 : some V.heap.size = some (V.heap.size + 1) := e; injection e2 with e2; omega)).trans x2.out
            clear hbl1 hkp1
            show K _ _
            refine hK.out _ _ (hX.out _ BW1) (fun hh => ?_)
            clear hK K
            try simp only [Act.put, List.setIfInBounds_toArray]
            refine wpAnyH_ready (fuel := 2) (rs := [15]) (by kernel_rfl) (by simp) ?_
            refine (AllReadyH.cons (o := ⟨some 68, _, _, _, _, _⟩) rfl (fun K hK => ?_) AllReadyH.nil)
            refine step_append_pks rfl _ _ rfl V.heap.size _ s.pk rfl hown1 _ [⟨x.toNat, y.toNat, z.toNat⟩] rfl (box_ops XC) hpk2.out (by simp) BW1.size ?_
            intro v2 w2 hown2 hbl2 hkp2
            obtain ⟨ua, un, uc, rfl⟩ := own_form hown2
            have BW2 := BW1.trans hbl2
            have hd14 := h14.out _ BW2
            have hf14 := blk_free (MV.out.m.step BW2).box 14
            clear hbl2 hkp2
            show K _ _
            refine hK.out _ _ (hX.out _ BW2) (fun hh => ?_)
            clear hK K
            try simp only [Act.put, List.setIfInBounds_toArray]
            refine wpAnyH_take (fuel := 1) (i := 16) (oi := ⟨some 69, _, _, _, _, _⟩) (v := .pointer (some ⟨w3.heap.size, 14, none⟩)) rfl (by kernel_rfl) (by kernel_rfl) (by kernel_rfl) (fun _ _ _ h => h) (Or.inl ⟨by rfl, ?_⟩) hh ?_
            · intro w' hS
              go_simp
            simp only [Act.put, List.setIfInBounds_toArray]
            refine wpAnyH_ready (fuel := 0) (rs := [17]) (by kernel_rfl) (by simp) ?_
            refine (AllReadyH.cons (o := ⟨none, _, _, _, _, _⟩) rfl (fun K hK => ?_) AllReadyH.nil)
            go_simp
            show K _ _
            refine hK.out _ _ (hXS.out _ _ BW2) (fun hh => ?_)
            clear hK K
            try simp only [Act.put, List.setIfInBounds_toArray]
            refine wpAnyH_done (by kernel_rfl) ?_ _
            refine NoPanic.normal ?_
            go_wp2_with fail
            go_meet
            exact ⟨rfl, ua, un, uc, Lib.hid ((MV.out.step BW2).set 14 _), Lib.hid (own_only (by rw [HSP.out]; exact hown2) ((Only.refl w3.heap.size w2).set 14 _) (by omega))⟩
        · go_simp
          show K _ _
          refine hK.out _ _ (hX.out _ b2.out) (fun hh => ?_)
          clear hK K
          try simp only [Act.put, List.setIfInBounds_toArray]
          refine wpAnyH_ready (fuel := 4) (rs := [2]) (by kernel_rfl) (by simp) ?_
          refine (AllReadyH.cons (o := ⟨some 55, _, _, _, _, _⟩) rfl (fun K hK => ?_) AllReadyH.nil)
          go_simp
          show K _ _
          refine hK.out _ _ (hX.out _ b2.out) (fun hh => ?_)
          clear hK K
          try simp only [Act.put, List.setIfInBounds_toArray]
          refine wpAnyH_ready (fuel := 3) (rs := [3]) (by kernel_rfl) (by simp) ?_
          refine (AllReadyH.cons (o := ⟨some 56, _, _, _, _, _⟩) rfl (fun K hK => ?_) AllReadyH.nil)
          refine step_append_pks rfl _ _ rfl V.heap.size _ [] rfl O2.out _ s.pk rfl (PP.out _ b2.out) (by decide) hpk2.out hbO2.out ?_
          intro v1 w1 hown1 hbl1 hkp1
          obtain ⟨va, vn, vc, rfl⟩ := own_form hown1
          rw [List.nil_append] at hown1
          have BW1 := b2.out.trans hbl1
          have XC := (hkp1 (V.heap.size + 1) (lt_of_block x2.out) (fun e => by have e2 : some V.heap.size = some (V.heap.size + 1) := e; injection e2 with e2; omega)).trans x2.out
          clear hbl1 hkp1
          show K _ _
          refine hK.out _ _ (hX.out _ BW1) (fun hh => ?_)
          clear hK K
          try simp only [Act.put, List.setIfInBounds_toArray]
          refine wpAnyH_ready (fuel := 2) (rs := [15]) (by kernel_rfl) (by simp) ?_
          refine (AllReadyH.cons (o := ⟨some 68, _, _, _, _, _⟩) rfl (fun K hK => ?_) AllReadyH.nil)
          refine step_append_pks rfl _ _ rfl V.heap.size _ s.pk rfl hown1 _ [⟨x.toNat, y.toNat, z.toNat⟩] rfl (box_ops XC) hpk2.out (by simp) BW1.size ?_
          intro v2 w2 hown2 hbl2 hkp2
          obtain ⟨ua, un, uc, rfl⟩ := own_form hown2
          have BW2 := BW1.trans hbl2
          have hd14 := h14.out _ BW2
          have hf14 := blk_free (MV.out.m.step BW2).box 14
          clear hbl2 hkp2
          show K _ _
          refine hK.out _ _ (hX.out _ BW2) (fun hh => ?_)
          clear hK K
          try simp only [Act.put, List.setIfInBounds_toArray]
          refine wpAnyH_take (fuel := 1) (i := 16) (oi := ⟨some 69, _, _, _, _, _⟩) (v := .pointer (some ⟨w3.heap.size, 14, none⟩)) rfl (by kernel_rfl) (by kernel_rfl) (by kernel_rfl) (fun _ _ _ h => h) (Or.inl ⟨by rfl, ?_⟩) hh ?_
          · intro w' hS
            go_simp
          simp only [Act.put, List.setIfInBounds_toArray]
          refine wpAnyH_ready (fuel := 0) (rs := [17]) (by kernel_rfl) (by simp) ?_
          refine (AllReadyH.cons (o := ⟨none, _, _, _, _, _⟩) rfl (fun K hK => ?_) AllReadyH.nil)
          go_simp
          show K _ _
          refine hK.out _ _ (hXS.out _ _ BW2) (fun hh => ?_)
          clear hK K
          try simp only [Act.put, List.setIfInBounds_toArray]
          refine wpAnyH_done (by kernel_rfl) ?_ _
          refine NoPanic.normal ?_
          go_wp2_with fail
          go_meet
          exact ⟨rfl, ua, un, uc, Lib.hid ((MV.out.step BW2).set 14 _), Lib.hid (own_only (by rw [HSP.out]; exact hown2) ((Only.refl w3.heap.size w2).set 14 _) (by omega))⟩
      · go_simp
        show K _ _
        refine hK.out _ _ (hX.out _ (Below.refl _ V).drew) (fun hh => ?_)
        clear hK K
        try simp only [Act.put, List.setIfInBounds_toArray]
        refine wpAnyH_ready (fuel := 5) (rs := [0, 14]) (by kernel_rfl) (by simp) ?_
        refine (AllReadyH.cons (o := ⟨some 53, _, _, _, _, _⟩) rfl (fun K hK => ?_) (AllReadyH.cons (o := ⟨some 67, _, _, _, _, _⟩) rfl (fun K hK => ?_) AllReadyH.nil))
        · go_simp
          show K _ _
          refine hK.out _ _ (hX.out _ b1.out) (fun hh => ?_)
          clear hK K
          try simp only [Act.put, List.setIfInBounds_toArray]
          refine wpAnyH_ready (fuel := 4) (rs := [3, 14]) (by kernel_rfl) (by simp) ?_
          refine (AllReadyH.cons (o := ⟨some 56, _, _, _, _, _⟩) rfl (fun K hK => ?_) (AllReadyH.cons (o := ⟨some 67, _, _, _, _, _⟩) rfl (fun K hK => ?_) AllReadyH.nil))
          · refine step_append_pks rfl _ _ rfl V.heap.size _ [] rfl O1.out _ s.pk rfl (PP.out _ b1.out) (by decide) hpk2.out hbO1.out ?_
            intro v1 w1 hown1 hbl1 hkp1
            obtain ⟨va, vn, vc, rfl⟩ := own_form hown1
            rw [List.nil_append] at hown1
            have BW1 := b1.out.trans hbl1
            clear hbl1 hkp1
            show K _ _
            refine hK.out _ _ (hX.out _ BW1) (fun hh => ?_)
            clear hK K
            try simp only [Act.put, List.setIfInBounds_toArray]
            refine wpAnyH_ready (fuel := 3) (rs := [14]) (by kernel_rfl) (by simp) ?_
            refine (AllReadyH.cons (o := ⟨some 67, _, _, _, _, _⟩) rfl (fun K hK => ?_) AllReadyH.nil)
            go_simp
            show K _ _
            refine hK.out _ _ (hX.out _ (BW1.alloc BW1.size _)) (fun hh => ?_)
            clear hK K
            try simp only [Act.put, List.setIfInBounds_toArray]
            refine wpAnyH_ready (fuel := 2) (rs := [15]) (by kernel_rfl) (by simp) ?_
            refine (AllReadyH.cons (o := ⟨some 68, _, _, _, _, _⟩) rfl (fun K hK => ?_) AllReadyH.nil)
            refine step_append_pks rfl _ _ rfl V.heap.size _ s.pk rfl (hown1.alloc _) _ [⟨x.toNat, y.toNat, z.toNat⟩] rfl (box_ops (heap_alloc_new w1 (.cells #[.int .i64 x.toNat, .int .i64 y.toNat, .int .i64 z.toNat] 49))) hpk2.out (by simp) (by have := BW1.size; simp; omega) ?_
            intro v2 w2 hown2 hbl2 hkp2
            obtain ⟨ua, un, uc, rfl⟩ := own_form hown2
            have BW2 := (BW1.alloc BW1.size _).trans hbl2
            have hd14 := h14.out _ BW2
            have hf14 := blk_free (MV.out.m.step BW2).box 14
            clear hbl2 hkp2
            show K _ _
            refine hK.out _ _ (hX.out _ BW2) (fun hh => ?_)
            clear hK K
            try simp only [Act.put, List.setIfInBounds_toArray]
            refine wpAnyH_take (fuel := 1) (i := 16) (oi := ⟨some 69, _, _, _, _, _⟩) (v := .pointer (some ⟨w3.heap.size, 14, none⟩)) rfl (by kernel_rfl) (by kernel_rfl) (by kernel_rfl) (fun _ _ _ h => h) (Or.inl ⟨by rfl, ?_⟩) hh ?_
            · intro w' hS
              go_simp
            simp only [Act.put, List.setIfInBounds_toArray]
            refine wpAnyH_ready (fuel := 0) (rs := [17]) (by kernel_rfl) (by simp) ?_
            refine (AllReadyH.cons (o := ⟨none, _, _, _, _, _⟩) rfl (fun K hK => ?_) AllReadyH.nil)
            go_simp
            show K _ _
            refine hK.out _ _ (hXS.out _ _ BW2) (fun hh => ?_)
            clear hK K
            try simp only [Act.put, List.setIfInBounds_toArray]
            refine wpAnyH_done (by kernel_rfl) ?_ _
            refine NoPanic.normal ?_
            go_wp2_with fail
            go_meet
            exact ⟨rfl, ua, un, uc, Lib.hid ((MV.out.step BW2).set 14 _), Lib.hid (own_only (by rw [HSP.out]; exact hown2) ((Only.refl w3.heap.size w2).set 14 _) (by omega))⟩
          · go_simp
            show K _ _
            refine hK.out _ _ (hX.out _ b2.out) (fun hh => ?_)
            clear hK K
            try simp only [Act.put, List.setIfInBounds_toArray]
            refine wpAnyH_ready (fuel := 3) (rs := [3]) (by kernel_rfl) (by simp) ?_
            refine (AllReadyH.cons (o := ⟨some 56, _, _, _, _, _⟩) rfl (fun K hK => ?_) AllReadyH.nil)
            refine step_append_pks rfl _ _ rfl V.heap.size _ [] rfl O2.out _ s.pk rfl (PP.out _ b2.out) (by decide) hpk2.out hbO2.out ?_
            intro v1 w1 hown1 hbl1 hkp1
            obtain ⟨va, vn, vc, rfl⟩ := own_form hown1
            rw [List.nil_append] at hown1
            have BW1 := b2.out.trans hbl1
            have XC := (hkp1 (V.heap.size + 1) (lt_of_block x2.out) (fun e => by have e2 : some V.heap.size = some (V.heap.size + 1) := e; injection e2 with e2; omega)).trans x2.out
            clear hbl1 hkp1
            show K _ _
            refine hK.out _ _ (hX.out _ BW1) (fun hh => ?_)
            clear hK K
            try simp only [Act.put, List.setIfInBounds_toArray]
            refine wpAnyH_ready (fuel := 2) (rs := [15]) (by kernel_rfl) (by simp) ?_
            refine (AllReadyH.cons (o := ⟨some 68, _, _, _, _, _⟩) rfl (fun K hK => ?_) AllReadyH.nil)
            refine step_append_pks rfl _ _ rfl V.heap.size _ s.pk rfl hown1 _ [⟨x.toNat, y.toNat, z.toNat⟩] rfl (box_ops XC) hpk2.out (by simp) BW1.size ?_
            intro v2 w2 hown2 hbl2 hkp2
            obtain ⟨ua, un, uc, rfl⟩ := own_form hown2
            have BW2 := BW1.trans hbl2
            have hd14 := h14.out _ BW2
            have hf14 := blk_free (MV.out.m.step BW2).box 14
            clear hbl2 hkp2
            show K _ _
            refine hK.out _ _ (hX.out _ BW2) (fun hh => ?_)
            clear hK K
            try simp only [Act.put, List.setIfInBounds_toArray]
            refine wpAnyH_take (fuel := 1) (i := 16) (oi := ⟨some 69, _, _, _, _, _⟩) (v := .pointer (some ⟨w3.heap.size, 14, none⟩)) rfl (by kernel_rfl) (by kernel_rfl) (by kernel_rfl) (fun _ _ _ h => h) (Or.inl ⟨by rfl, ?_⟩) hh ?_
            · intro w' hS
              go_simp
            simp only [Act.put, List.setIfInBounds_toArray]
            refine wpAnyH_ready (fuel := 0) (rs := [17]) (by kernel_rfl) (by simp) ?_
            refine (AllReadyH.cons (o := ⟨none, _, _, _, _, _⟩) rfl (fun K hK => ?_) AllReadyH.nil)
            go_simp
            show K _ _
            refine hK.out _ _ (hXS.out _ _ BW2) (fun hh => ?_)
            clear hK K
            try simp only [Act.put, List.setIfInBounds_toArray]
            refine wpAnyH_done (by kernel_rfl) ?_ _
            refine NoPanic.normal ?_
            go_wp2_with fail
            go_meet
            exact ⟨rfl, ua, un, uc, Lib.hid ((MV.out.step BW2).set 14 _), Lib.hid (own_only (by rw [HSP.out]; exact hown2) ((Only.refl w3.heap.size w2).set 14 _) (by omega))⟩
        · go_simp
          show K _ _
          refine hK.out _ _ (hX.out _ b4.out) (fun hh => ?_)
          clear hK K
          try simp only [Act.put, List.setIfInBounds_toArray]
          refine wpAnyH_ready (fuel := 4) (rs := [0]) (by kernel_rfl) (by simp) ?_
          refine (AllReadyH.cons (o := ⟨some 53, _, _, _, _, _⟩) rfl (fun K hK => ?_) AllReadyH.nil)
          go_simp
          show K _ _
          refine hK.out _ _ (hX.out _ b3.out) (fun hh => ?_)
          clear hK K
          try simp only [Act.put, List.setIfInBounds_toArray]
          refine wpAnyH_ready (fuel := 3) (rs := [3]) (by kernel_rfl) (by simp) ?_
          refine (AllReadyH.cons (o := ⟨some 56, _, _, _, _, _⟩) rfl (fun K hK => ?_) AllReadyH.nil)
          refine step_append_pks rfl _ _ rfl V.heap.size _ [] rfl O3.out _ s.pk rfl (PP.out _ b3.out) (by decide) hpk2.out hbO3.out ?_
          intro v1 w1 hown1 hbl1 hkp1
          obtain ⟨va, vn, vc, rfl⟩ := own_form hown1
          rw [List.nil_append] at hown1
          have BW1 := b3.out.trans hbl1
          have XC := (hkp1 V.heap.size (lt_of_block x3.out) (fun e => by have e2 : some (V.heap.size + 1) = some V.heap.size := e; injection e2 with e2; omega)).trans x3.out
          clear hbl1 hkp1
          show K _ _
          refine hK.out _ _ (hX.out _ BW1) (fun hh => ?_)
          clear hK K
          try simp only [Act.put, List.setIfInBounds_toArray]
          refine wpAnyH_ready (fuel := 2) (rs := [15]) (by kernel_rfl) (by simp) ?_
          refine (AllReadyH.cons (o := ⟨some 68, _, _, _, _, _⟩) rfl (fun K hK => ?_) AllReadyH.nil)
          refine step_append_pks rfl _ _ rfl V.heap.size _ s.pk rfl hown1 _ [⟨x.toNat, y.toNat, z.toNat⟩] rfl (box_ops XC) hpk2.out (by simp) BW1.size ?_
          intro v2 w2 hown2 hbl2 hkp2
          obtain ⟨ua, un, uc, rfl⟩ := own_form hown2
          have BW2 := BW1.trans hbl2
          have hd14 := h14.out _ BW2
          have hf14 := blk_free (MV.out.m.step BW2).box 14
          clear hbl2 hkp2
          show K _ _
          refine hK.out _ _ (hX.out _ BW2) (fun hh => ?_)
          clear hK K
          try simp only [Act.put, List.setIfInBounds_toArray]
          refine wpAnyH_take (fuel := 1) (i := 16) (oi := ⟨some 69, _, _, _, _, _⟩) (v := .pointer (some ⟨w3.heap.size, 14, none⟩)) rfl (by kernel_rfl) (by kernel_rfl) (by kernel_rfl) (fun _ _ _ h => h) (Or.inl ⟨by rfl, ?_⟩) hh ?_
          · intro w' hS
            go_simp
          simp only [Act.put, List.setIfInBounds_toArray]
          refine wpAnyH_ready (fuel := 0) (rs := [17]) (by kernel_rfl) (by simp) ?_
          refine (AllReadyH.cons (o := ⟨none, _, _, _, _, _⟩) rfl (fun K hK => ?_) AllReadyH.nil)
          go_simp
          show K _ _
          refine hK.out _ _ (hXS.out _ _ BW2) (fun hh => ?_)
          clear hK K
          try simp only [Act.put, List.setIfInBounds_toArray]
          refine wpAnyH_done (by kernel_rfl) ?_ _
          refine NoPanic.normal ?_
          go_wp2_with fail
          go_meet
          exact ⟨rfl, ua, un, uc, Lib.hid ((MV.out.step BW2).set 14 _), Lib.hid (own_only (by rw [HSP.out]; exact hown2) ((Only.refl w3.heap.size w2).set 14 _) (by omega))⟩
      · go_simp
        show K _ _
        refine hK.out _ _ (hX.out _ b4.out) (fun hh => ?_)
        clear hK K
        try simp only [Act.put, List.setIfInBounds_toArray]
        refine wpAnyH_ready (fuel := 5) (rs := [0, 2]) (by kernel_rfl) (by simp) ?_
        refine (AllReadyH.cons (o := ⟨some 53, _, _, _, _, _⟩) rfl (fun K hK => ?_) (AllReadyH.cons (o := ⟨some 55, _, _, _, _, _⟩) rfl (fun K hK => ?_) AllReadyH.nil))
        · go_simp
          show K _ _
          refine hK.out _ _ (hX.out _ b3.out) (fun hh => ?_)
          clear hK K
          try simp only [Act.put, List.setIfInBounds_toArray]
          refine wpAnyH_ready (fuel := 4) (rs := [2]) (by kernel_rfl) (by simp) ?_
          refine (AllReadyH.cons (o := ⟨some 55, _, _, _, _, _⟩) rfl (fun K hK => ?_) AllReadyH.nil)
          go_simp
          show K _ _
          refine hK.out _ _ (hX.out _ b3.out) (fun hh => ?_)
          clear hK K
          try simp only [Act.put, List.setIfInBounds_toArray]
          refine wpAnyH_ready (fuel := 3) (rs := [3]) (by kernel_rfl) (by simp) ?_
          refine (AllReadyH.cons (o := ⟨some 56, _, _, _, _, _⟩) rfl (fun K hK => ?_) AllReadyH.nil)
          refine step_append_pks rfl _ _ rfl V.heap.size _ [] rfl O3.out _ s.pk rfl (PP.out _ b3.out) (by decide) hpk2.out hbO3.out ?_
          intro v1 w1 hown1 hbl1 hkp1
          obtain ⟨va, vn, vc, rfl⟩ := own_form hown1
          rw [List.nil_append] at hown1
          have BW1 := b3.out.trans hbl1
          have XC := (hkp1 V.heap.size (lt_of_block x3.out) (fun e => by have e2 : some (V.heap.size + 1) = some V.heap.size := e; injection e2 with e2; omega)).trans x3.out
          clear hbl1 hkp1
          show K _ _
          refine hK.out _ _ (hX.out _ BW1) (fun hh => ?_)
          clear hK K
          try simp only [Act.put, List.setIfInBounds_toArray]
          refine wpAnyH_ready (fuel := 2) (rs := [15]) (by kernel_rfl) (by simp) ?_
          refine (AllReadyH.cons (o := ⟨some 68, _, _, _, _, _⟩) rfl (fun K hK => ?_) AllReadyH.nil)
          refine step_append_pks rfl _ _ rfl V.heap.size _ s.pk rfl hown1 _ [⟨x.toNat, y.toNat, z.toNat⟩] rfl (box_ops XC) hpk2.out (by simp) BW1.size ?_
          intro v2 w2 hown2 hbl2 hkp2
          obtain ⟨ua, un, uc, rfl⟩ := own_form hown2
          have BW2 := BW1.trans hbl2
          have hd14 := h14.out _ BW2
          have hf14 := blk_free (MV.out.m.step BW2).box 14
          clear hbl2 hkp2
          show K _ _
          refine hK.out _ _ (hX.out _ BW2) (fun hh => ?_)
          clear hK K
          try simp only [Act.put, List.setIfInBounds_toArray]
          refine wpAnyH_take (fuel := 1) (i := 16) (oi := ⟨some 69, _, _, _, _, _⟩) (v := .pointer (some ⟨w3.heap.size, 14, none⟩)) rfl (by kernel_rfl) (by kernel_rfl) (by kernel_rfl) (fun _ _ _ h => h) (Or.inl ⟨by rfl, ?_⟩) hh ?_
          · intro w' hS
            go_simp
          simp only [Act.put, List.setIfInBounds_toArray]
          refine wpAnyH_ready (fuel := 0) (rs := [17]) (by kernel_rfl) (by simp) ?_
          refine (AllReadyH.cons (o := ⟨none, _, _, _, _, _⟩) rfl (fun K hK => ?_) AllReadyH.nil)
          go_simp
          show K _ _
          refine hK.out _ _ (hXS.out _ _ BW2) (fun hh => ?_)
          clear hK K
          try simp only [Act.put, List.setIfInBounds_toArray]
          refine wpAnyH_done (by kernel_rfl) ?_ _
          refine NoPanic.normal ?_
          go_wp2_with fail
          go_meet
          exact ⟨rfl, ua, un, uc, Lib.hid ((MV.out.step BW2).set 14 _), Lib.hid (own_only (by rw [HSP.out]; exact hown2) ((Only.refl w3.heap.size w2).set 14 _) (by omega))⟩
        · go_simp
          show K _ _
          refine hK.out _ _ (hX.out _ b4.out) (fun hh => ?_)
          clear hK K
          try simp only [Act.put, List.setIfInBounds_toArray]
          refine wpAnyH_ready (fuel := 4) (rs := [0]) (by kernel_rfl) (by simp) ?_
          refine (AllReadyH.cons (o := ⟨some 53, _, _, _, _, _⟩) rfl (fun K hK => ?_) AllReadyH.nil)
          go_simp
          show K _ _
          refine hK.out _ _ (hX.out _ b3.out) (fun hh => ?_)
          clear hK K
          try simp only [Act.put, List.setIfInBounds_toArray]
          refine wpAnyH_ready (fuel := 3) (rs := [3]) (by kernel_rfl) (by simp) ?_
          refine (AllReadyH.cons (o := ⟨some 56, _, _, _, _, _⟩) rfl (fun K hK => ?_) AllReadyH.nil)
          refine step_append_pks rfl _ _ rfl V.heap.size _ [] rfl O3.out _ s.pk rfl (PP.out _ b3.out) (by decide) hpk2.out hbO3.out ?_
          intro v1 w1 hown1 hbl1 hkp1
          obtain ⟨va, vn, vc, rfl⟩ := own_form hown1
          rw [List.nil_append] at hown1
          have BW1 := b3.out.trans hbl1
          have XC := (hkp1 V.heap.size (lt_of_block x3.out) (fun e => by have e2 : some (V.heap.size + 1) = some V.heap.size := e; injection e2 with e2; omega)).trans x3.out
          clear hbl1 hkp1
          show K _ _
          refine hK.out _ _ (hX.out _ BW1) (fun hh => ?_)
          clear hK K
          try simp only [Act.put, List.setIfInBounds_toArray]
          refine wpAnyH_ready (fuel := 2) (rs := [15]) (by kernel_rfl) (by simp) ?_
          refine (AllReadyH.cons (o := ⟨some 68, _, _, _, _, _⟩) rfl (fun K hK => ?_) AllReadyH.nil)
          refine step_append_pks rfl _ _ rfl V.heap.size _ s.pk rfl hown1 _ [⟨x.toNat, y.toNat, z.toNat⟩] rfl (box_ops XC) hpk2.out (by simp) BW1.size ?_
          intro v2 w2 hown2 hbl2 hkp2
          obtain ⟨ua, un, uc, rfl⟩ := own_form hown2
          have BW2 := BW1.trans hbl2
          have hd14 := h14.out _ BW2
          have hf14 := blk_free (MV.out.m.step BW2).box 14
          clear hbl2 hkp2
          show K _ _
          refine hK.out _ _ (hX.out _ BW2) (fun hh => ?_)
          clear hK K
          try simp only [Act.put, List.setIfInBounds_toArray]
          refine wpAnyH_take (fuel := 1) (i := 16) (oi := ⟨some 69, _, _, _, _, _⟩) (v := .pointer (some ⟨w3.heap.size, 14, none⟩)) rfl (by kernel_rfl) (by kernel_rfl) (by kernel_rfl) (fun _ _ _ h => h) (Or.inl ⟨by rfl, ?_⟩) hh ?_
          · intro w' hS
            go_simp
          simp only [Act.put, List.setIfInBounds_toArray]
          refine wpAnyH_ready (fuel := 0) (rs := [17]) (by kernel_rfl) (by simp) ?_
          refine (AllReadyH.cons (o := ⟨none, _, _, _, _, _⟩) rfl (fun K hK => ?_) AllReadyH.nil)
          go_simp
          show K _ _
          refine hK.out _ _ (hXS.out _ _ BW2) (fun hh => ?_)
          clear hK K
          try simp only [Act.put, List.setIfInBounds_toArray]
          refine wpAnyH_done (by kernel_rfl) ?_ _
          refine NoPanic.normal ?_
          go_wp2_with fail
          go_meet
          exact ⟨rfl, ua, un, uc, Lib.hid ((MV.out.step BW2).set 14 _), Lib.hid (own_only (by rw [HSP.out]; exact hown2) ((Only.refl w3.heap.size w2).set 14 _) (by omega))⟩
    case rest =>
      obtain ⟨rfl, va, vn, vc, MX, OX⟩ := hcut
      clear h14a h14b h14c O1 O2 O3 b1 b2 b3 b4 x2 x3 hwx hwy hwz PP h14 hX hXS MV
      obtain ⟨q', cq', e, hq'⟩ := (ops_of_row OX.out).in_
      injection e with e1 e2 e3
      subst e1 e2 e3
      have hsp := HSP.out
      obtain ⟨p2', cp2', q2', cq2', f1, f2, at2⟩ := own_at MX.out.ls MX.out.pk
      injection f1 with f11 f12 f13
      injection f2 with f21 f22 f23
      subst f11 f13 f21 f23
      clear f12 f22
      have AT : Hid (ScAt wc.drew sp p2 q2) := Lib.hid (at2.step (Below.refl _ wc).drew)
      have AS : Hid (ScAt wc.drew sp p1 va) := Lib.hid ⟨by rw [hsp]; exact A3.out.ps.step MX.out.m.below.drew, hq'.step (Below.refl _ wc).drew⟩
      have BS : Hid (wc.drew.heap[w3.heap.size]? = some (.cells (sC sp p1 cp1 va vc) 28 (0, 0))) := Lib.hid (by have hb := MX.out.m.box; rw [show sC sp p1 cp1 va vc = sL s.c (.slice p1 s.ps.length cp1) (.slice va sp.pk.length vc) by rw [hsp]]; exact hb)
      have BT : Hid (wc.drew.heap[w5.heap.size]? = some (.cells (sC sp p2 cp2 q2 cq2) 28 (0, 0))) := Lib.hid MX.out.t
      have FT : Hid (Fine sp) := HFT
      have hbw : Below w.heap.size w wc.drew := (HB3.out.trans (MX.out.m.below.mono (Nat.le_of_lt hl3))).drew
      clear hsp MX OX hq' at2
      have tok1 : True := trivial
      go_wp2
      go_region_held3 (fun w' => (∀ o, w'.cell? ⟨w3.heap.size, o, none⟩ = (sC sp p1 cp1 va vc)[o]?) ∧ (∀ o, w'.cell? ⟨w5.heap.size, o, none⟩ = (sC sp p2 cp2 q2 cq2)[o]?)) (first | exact ⟨blk_cell C8.out, blk_cell B8.out⟩ | exact ⟨blk_cell C7.out, blk_cell B7.out⟩ | exact ⟨blk_cell C6.out, blk_cell B6.out⟩ | exact ⟨blk_cell BS.out, blk_cell BT.out⟩)
        (first
          | (go_at_call 10; have _t := tok1; clear _t tok1; refine (own_any sp p1 cp1 va vc _ AS.out FT.out).mono ?_; rintro e w6 ⟨q6, c6, rfl, s6, hb6⟩; have C6 := Lib.hid ((hb6.block w3.heap.size (lt_of_block BS.out)).trans BS.out); have B6 := Lib.hid ((hb6.block w5.heap.size (lt_of_block BT.out)).trans BT.out); have S6 := Lib.hid s6; have AT6 := Lib.hid (AT.out.step hb6); have D6 := bstep hbw hb6; clear s6 hb6)
          | (go_at_call 10; refine (own_any sp p2 cp2 q2 cq2 _ AT6.out FT.out).mono ?_; rintro e w7 ⟨q7, c7, rfl, s7, hb7⟩; have C7 := Lib.hid ((hb7.block w3.heap.size (lt_of_block C6.out)).trans C6.out); have B7 := Lib.hid ((hb7.block w5.heap.size (lt_of_block B6.out)).trans B6.out); have S7 := Lib.hid s7; have S67 := Lib.hid (S6.out.step hb7); have D7 := bstep D6 hb7; clear s7 hb7)
          | (go_at_call 14; refine (same_any sp p1 cp1 q6 c6 p2 cp2 q7 c7 _ S67.out S7.out FT.out).mono ?_; rintro e w8 ⟨rfl, hb8⟩; have C8 := Lib.hid ((hb8.block w3.heap.size (lt_of_block C7.out)).trans C7.out); have B8 := Lib.hid ((hb8.block w5.heap.size (lt_of_block B7.out)).trans B7.out); have D8 := bstep D7 hb8; clear hb8))
      go_wp2
      go_ret
      exact ⟨rfl, D8⟩

/-- ScriptMore. -/
theorem smore_any (t : ByteArray) (x y z : UInt8) (w : World) (hS : Std w) (ht : t.size ≤ 9223372036854775807) :
    Calls Tryd.prog 5 #[.string t, .agg (xL x y z)] w fun e w' => e = .returned (.bool true) ∧ Below w.heap.size w w' := by
  by_cases h3 : 3000 < t.size
  · exact smore_long t x y z w hS ht h3
  · cases hE : rdM t.data.toList with
    | error n => exact smore_err t x y z w hS h3 n hE (rd_err hE)
    | ok s => exact smore_ok t x y z w hS h3 s hE

end Go.Proofs.YtjnbpohjdgnknaaDoor
