/-
  That awake of layer 3 is true: the calls whose answers the document fixes.
-/
import Derived.Test.YtobpeaigapnpdaaDoorPgY
namespace Go.Proofs.YtobpeaigapnpdaaDoor
open Go Go.RowKit

/-- A block's cells, and that it is there. -/
def Cl (w : World) (H : Nat) (L : Array Value) : Prop := (∀ o, w.cell? ⟨H, o, none⟩ = L[o]?) ∧ H < w.heap.size
theorem Cl.step {w w' : World} {H : Nat} {L : Array Value} (h : Cl w H L) (hb : Below w.heap.size w w') : Cl w' H L := ⟨fun o => (hb.cell (p := ⟨H, o, none⟩) h.2).trans (h.1 o), Nat.lt_of_lt_of_le h.2 hb.size⟩
theorem Cl.new (w : World) (L : Array Value) (t : TypeId) : Cl (w.alloc (.cells L t)) w.heap.size L := ⟨fun o => World.cell?_alloc_mark w _ t (0, 0) o, by simp⟩
theorem Cl.alloc {w : World} {H : Nat} {L : Array Value} (h : Cl w H L) (o : Obj) : Cl (w.alloc o) H L := h.step ((Below.refl _ _).alloc (Nat.le_refl _) _)
theorem ops_new (w : World) (l : List Op) (L : Array Value) (n cap : Nat) (hn : n = l.length) (e : L.toList = opCells l) : OpsAt (w.alloc (.cells L 33)) (.slice (some ⟨w.heap.size, 0, none⟩) n cap) l := by
  subst hn
  refine .inr ⟨w.heap.size, 0, cap, rfl, by simp, fun i u hu => ?_⟩
  rw [(Cl.new w L 33).1, Nat.zero_add, ← Array.getElem?_toList, e]
  exact hu
theorem OpsAt.alloc {w : World} {v : Value} {l : List Op} (h : OpsAt w v l) (o : Obj) : OpsAt (w.alloc o) v l := h.step ((Below.refl _ _).alloc (Nat.le_refl _) _)

/-- The document's example. -/
def exL : List Op := [⟨1, 5, 0⟩, ⟨2, 3, -7⟩, ⟨4, 0, 0⟩]
def exT : List UInt8 := [76, 53, 32, 83, 51, 61, 45, 55, 32, 70]
theorem ex_prs : prs exT = (exL, 0) := by rfl
theorem ex_read : readM exT = some exL := by rfl
theorem ex_prt : prt exL = ([76, 53, 32, 83, 51, 61, 45, 55, 32, 70], 0) := by
  unfold prt
  rw [if_neg (by decide), if_pos (by decide), (text_read ex_read).1]
  rfl
theorem ex_05 : prs [76, 48, 53] = ([], 2) := by rfl
theorem ex_9 : prt [⟨9, 0, 0⟩] = ([], 1) := by rfl
theorem ex_f : mayB ⟨4, 0, 0⟩ = true := by decide
theorem ex_c1 : fitsB ⟨1, 1, 1, 1, 2, 2, 0, 1, 1, 1, 1, 1, 1⟩ [⟨1, 3, 0⟩] = true := by decide +kernel
theorem ex_c2 : fitsB ⟨1, 1, 1, 1, 2, 2, 0, 1, 1, 1, 1, 1, 1⟩ exL = false := by decide +kernel
theorem exFits : Cfg.fits ⟨1, 1, 1, 1, 2, 2, 0, 1, 1, 1, 1, 1, 1⟩ := by simp [Cfg.fits]

set_option maxRecDepth 100000 in
set_option maxHeartbeats 4000000 in
theorem awake3_any (w : World) (hT : Pow w.heap.size w) :
    Calls Tryd.prog 7 #[] w fun e w' => e = .returned (.bool true) ∧ Below w.heap.size w w' := by
  have HT := Lib.hid hT
  clear hT
  go_enter Tryd.func7, Tryd.ntmps7
  go_wp2_with fail
  refine (parse_any ⟨#[76, 53, 32, 83, 51, 61, 45, 55, 32, 70]⟩ _ (by decide)).mono ?_
  rw [show prs (⟨#[76, 53, 32, 83, 51, 61, 45, 55, 32, 70]⟩ : ByteArray).data.toList = (exL, 0) from ex_prs]
  rintro e w1 ⟨v1, rfl, o1, b1⟩
  go_wp2_with fail
  refine (print_any exL _ _ o1 (by decide) (pow_at HT.out b1)).mono ?_
  rw [ex_prt]
  rintro e w2 ⟨rfl, hb2⟩
  have b2 := bstep b1 hb2
  have o2 := o1.step hb2
  clear hb2 o1 b1
  go_wp2_with fail
  refine (parse_any ⟨#[76, 48, 53]⟩ _ (by decide)).mono ?_
  rw [show prs (⟨#[76, 48, 53]⟩ : ByteArray).data.toList = ([], 2) from ex_05]
  rintro e w3 ⟨v3, rfl, -, hb3⟩
  have b3 := bstep b2 hb3
  have o3 := o2.step hb3
  clear hb3 o2 b2
  go_wp2_with fail
  have n3 := ops_new w3 [⟨9, 0, 0⟩] #[.int .i64 9, .int .i64 0, .int .i64 0] 1 1 rfl rfl
  refine (print_any [⟨9, 0, 0⟩] _ _ n3 (by decide) (pow_at HT.out (b3.alloc b3.size _))).mono ?_
  rw [ex_9]
  rintro e w4 ⟨rfl, hb4⟩
  have b4 := bstep b3 (bbox hb4)
  have o4 := o3.step (bbox hb4)
  clear hb4 o3 b3 n3
  have C4 := Cl.new w4 #[Value.int .i64 1, .int .i64 1, .int .i64 1, .int .i64 1, .int .i64 2, .int .i64 2, .int .i64 0, .int .i64 1, .int .i64 1, .int .i64 1, .int .i64 1, .int .i64 1, .int .i64 1] 31
  go_wp2_with fail
  have n4 := ops_new (w4.alloc (.cells #[Value.int .i64 1, .int .i64 1, .int .i64 1, .int .i64 1, .int .i64 2, .int .i64 2, .int .i64 0, .int .i64 1, .int .i64 1, .int .i64 1, .int .i64 1, .int .i64 1, .int .i64 1] 31)) exL #[.int .i64 1, .int .i64 5, .int .i64 0, .int .i64 2, .int .i64 3, .int .i64 (-7), .int .i64 4, .int .i64 0, .int .i64 0] 3 3 rfl rfl
  refine (sameOps_any exL _ _ _ ((o4.alloc _).alloc _) (by simpa using n4) (by decide)).mono ?_
  rintro e w5 ⟨rfl, hb5⟩
  have b5 := bstep b4 (bbox (bbox hb5))
  have o5 := o4.step (bbox (bbox hb5))
  have C5 := C4.step (bbox hb5)
  clear hb5 o4 b4 n4 C4
  go_wp2_with fail
  refine (may_any ⟨4, 0, 0⟩ _).mono ?_
  rw [ex_f]
  rintro e w6 ⟨rfl, hb6⟩
  have b6 := bstep b5 hb6
  have o6 := o5.step hb6
  have C6 := C5.step hb6
  have hc6 := C6.1
  clear hb6 o5 b5 C5
  go_wp2_with fail
  have n6 := ops_new w6 [⟨1, 3, 0⟩] #[.int .i64 1, .int .i64 3, .int .i64 0] 1 1 rfl rfl
  refine (fits_any ⟨1, 1, 1, 1, 2, 2, 0, 1, 1, 1, 1, 1, 1⟩ [⟨1, 3, 0⟩] _ _ exFits n6 (by decide)).mono ?_
  rw [ex_c1]
  rintro e w7 ⟨rfl, hb7⟩
  have b7 := bstep b6 (bbox hb7)
  have o7 := o6.step (bbox hb7)
  have C7 := C6.step (bbox hb7)
  have hc7 := C7.1
  clear hb7 o6 b6 C6 hc6 n6
  go_wp2_with fail
  refine (fits_any ⟨1, 1, 1, 1, 2, 2, 0, 1, 1, 1, 1, 1, 1⟩ exL _ _ exFits o7 (by decide)).mono ?_
  rw [ex_c2]
  rintro e w8 ⟨rfl, hb8⟩
  have b8 := bstep b7 hb8
  clear hb8 o7 b7 C7 hc7
  go_wp2
  go_ret
  exact ⟨rfl, b8⟩

end Go.Proofs.YtobpeaigapnpdaaDoor
