/-
  What appendCount and appendProgram do, one contract each.
-/
import Derived.Test.YtjnbpohjdgnknaaDoorScL
import Derived.Lib.AppendStr
namespace Go.Proofs.YtjnbpohjdgnknaaDoor
open Go Go.RowKit

/-- What a call gives that lays bytes behind others. -/
def GaveB (B : Nat) (bs : List UInt8) (w : World) (e : Ending) (w' : World) : Prop := ∃ v', e = .returned v' ∧ Txt w' B v' bs ∧ Below B w w'
theorem Txt.plus {w : World} {B n : Nat} {v : Value} {bs cs : List UInt8} (hn : n = bs.length + cs.length) (h : w.ownsRow B 5 1 v n (Lib.byteCells bs ++ Lib.byteCells cs)) : Txt w B v (bs ++ cs) := by
  unfold Txt
  rw [byteCells_app, List.length_append, ← hn]
  exact h
theorem txt_grown {w w' : World} {B : Nat} {v : Value} {bs : List UInt8} (h : Txt w B v bs) (hB : B ≤ w.heap.size) (hg : w.grownBy w' v.ownBlock) : Below B w w' := below_own h hB hg
theorem cells1 {n : Nat} (h : n < 256) : Lib.byteCells [UInt8.ofNat n] = [.int .u8 (n : Int)] := by
  simp only [Lib.byteCells, List.map_cons, List.map_nil]
  rw [ofNat_back h]

set_option maxRecDepth 100000 in
set_option maxHeartbeats 2000000 in
theorem count_append (B : Nat) (v : Value) (bs : List UInt8) (n : Nat) (w : World) (hown : Txt w B v bs) (hB : B ≤ w.heap.size) (hl : bs.length ≤ 100000000) (hn : n < 16384) :
    Calls Tryd.prog 45 #[v, .int .i64 n] w (GaveB B (bs ++ cntB n) w) := by
  obtain ⟨i0, hi0, hz0, hz1, hz2⟩ := info_parts Tryd.infoByte
  by_cases hs : n < 128
  · have HE : Hid (cntB n = [UInt8.ofNat n]) := Lib.hid (by unfold cntB; rw [if_pos hs])
    have T0 := Lib.hid (hown.alloc (.cells #[.int .u8 n] 5))
    clear hown
    go_enter Tryd.func45, Tryd.ntmps45
    go_wp2_with (at_builtin; refine wpList_append_own _ rfl _ _ 47 rfl B 5 i0 (.int .u8 0) 1 1 Tryd.underlying47 hi0 hz0 hz1 hz2 rfl (by decide) _ _ _ rfl T0.out ⟨w.heap.size, 0, none⟩ 1 1 [Value.int .u8 n] rfl rfl (World.news_of_block (cs := #[.int .u8 n]) (t := 5) (fr := (0, 0)) (heap_alloc_new w _)) (by simp [Value.oneCell']) (by unfold maxLen; omega) (by omega) (by simp; omega) ?_)
    intro v1 w1 hown1 hg1 _
    have hb := (((Below.refl B w).alloc hB _)).trans (txt_grown T0.out (by simp; omega) hg1)
    have T1 : Hid (Txt w1 B v1 (bs ++ cntB n)) := Lib.hid (by rw [HE.out]; exact Txt.plus (n := bs.length + 1) (by simp) (by rw [cells1 (by omega)]; exact hown1))
    clear hown1 hg1
    go_wp2
    go_ret
    exact ⟨_, rfl, T1.out, hb⟩
  · have HE : Hid (cntB n = [UInt8.ofNat (128 + n / 128)] ++ [UInt8.ofNat (n % 128)]) := Lib.hid (by unfold cntB; rw [if_neg hs]; rfl)
    have h1 : 128 + (n : Int) / 128 ≤ 255 := by omega
    have h2 : (n : Int) % 128 ≤ 127 := by omega
    have T0 := Lib.hid (hown.alloc (.cells #[.int .u8 (128 + (n : Int) / 128), .int .u8 ((n : Int) % 128)] 5))
    clear hown
    go_enter Tryd.func45, Tryd.ntmps45
    go_wp2_with (at_builtin; refine wpList_append_own _ rfl _ _ 47 rfl B 5 i0 (.int .u8 0) 1 1 Tryd.underlying47 hi0 hz0 hz1 hz2 rfl (by decide) _ _ _ rfl T0.out ⟨w.heap.size, 0, none⟩ 2 2 [.int .u8 (128 + (n : Int) / 128), .int .u8 ((n : Int) % 128)] rfl rfl (World.news_of_block (cs := #[.int .u8 (128 + (n : Int) / 128), .int .u8 ((n : Int) % 128)]) (t := 5) (fr := (0, 0)) (heap_alloc_new w _)) (by simp [Value.oneCell']) (by unfold maxLen; omega) (by omega) (by simp; omega) ?_)
    intro v1 w1 hown1 hg1 _
    have hb := (((Below.refl B w).alloc hB _)).trans (txt_grown T0.out (by simp; omega) hg1)
    have T1 : Hid (Txt w1 B v1 (bs ++ cntB n)) := Lib.hid (by rw [HE.out]; exact Txt.plus (n := bs.length + 2) (by simp) (by rw [byteCells_app, cells1 (by omega), cells1 (by omega)]; exact hown1))
    clear hown1 hg1
    go_wp2
    go_ret
    exact ⟨_, rfl, T1.out, hb⟩

theorem strCells_list (l : List UInt8) : Lib.strCells ⟨l.toArray⟩ = Lib.byteCells l := by simp [Lib.strCells, Lib.byteCells]

set_option maxRecDepth 100000 in
set_option maxHeartbeats 2000000 in
theorem program_append (c : Cfg) (B : Nat) (v : Value) (bs : List UInt8) (l : List Op) (lv : Value) (w : World) (hown : Txt w B v bs) (hB : B ≤ w.heap.size) (hl : bs.length ≤ 90000000) (ho : OpsAt w lv l) (hf : fitsB c l = true) (hT : Pow w.heap.size w) :
    Calls Tryd.prog 32 #[v, lv] w (GaveB B (bs ++ progB l) w) := by
  obtain ⟨i0, hi0, hz0, hz1, hz2⟩ := info_parts Tryd.infoByte
  have hn := (prs_text hf).2
  obtain ⟨h64, hm, _⟩ := fits_parts hf
  have HE : Hid (prt l = (text l, 0)) := Lib.hid (by unfold prt; rw [if_neg (by omega), if_pos (List.all_eq_true.2 hm)])
  have HO := Lib.hid ho
  have HT := Lib.hid hT
  have HX := Lib.hid hown
  obtain ⟨pa, cap, rfl⟩ := ho.form
  have hsz : (ByteArray.mk (text l).toArray).size = (text l).length := by simp [ByteArray.size]
  clear ho hT hown hm hf
  go_enter Tryd.func32, Tryd.ntmps32
  go_wp2_with fail
  refine (print_any l _ _ HO.out (by omega) HT.out).mono ?_
  rintro e w1 ⟨rfl, hb1⟩
  rw [HE.out]
  have T1 : Hid (Txt w1 B v bs) := Lib.hid (own_below HX.out hb1)
  have hs1 := hb1.size
  have hbw : Below B w w1 := hb1.mono hB
  have HS : Hid (Lib.strCells ⟨(text l).toArray⟩ = Lib.byteCells (text l)) := Lib.hid (strCells_list _)
  have HP : Hid (progB l = cntB (ByteArray.mk (text l).toArray).size ++ text l) := Lib.hid (by rw [hsz]; rfl)
  have HZ := Lib.hid hsz
  have hn2 : (ByteArray.mk (text l).toArray).size ≤ 1152 := by rw [hsz]; exact hn
  clear hsz hb1
  simp only
  generalize (ByteArray.mk (text l).toArray) = t at *
  go_wp2_with fail
  refine (count_append B v bs t.size w1 T1.out (by omega) (by omega) (by omega)).mono ?_
  rintro e w2 ⟨v2, rfl, hx2, hb2⟩
  have T2 := Lib.hid hx2
  have hs2 := hb2.size
  have hl2 : (bs ++ cntB t.size).length ≤ 90000002 := by
    have : (cntB t.size).length ≤ 2 := by unfold cntB; split <;> simp
    rw [List.length_append]; omega
  have HB2 : Hid (progB l = cntB t.size ++ text l) := HP
  clear hx2
  generalize hbb : bs ++ cntB t.size = b2 at *
  have HBB := Lib.hid hbb
  clear hbb
  have h63 : Hid (b2.length + t.size ≤ maxLen) := Lib.hid (by unfold maxLen; omega)
  have hby : Hid (b2.length + t.size ≤ 140737488355328) := Lib.hid (by omega)
  have hbs : Hid (B ≤ w2.heap.size) := Lib.hid (by omega)
  go_wp2_with (at_builtin; refine Lib.wpList_append_own_string _ rfl _ _ 47 9 rfl B 5 i0 Tryd.underlying47 Tryd.underlying9 hi0 hz0 hz1 hz2 v2 b2.length (Lib.byteCells b2) rfl T2.out t rfl h63.out hby.out hbs.out ?_)
  intro v3 w3 hown3 hg3 _
  have hb3 := (hbw.trans hb2).trans (txt_grown T2.out (by omega) hg3)
  have T3 : Hid (Txt w3 B v3 (bs ++ progB l)) := Lib.hid (by
    rw [HB2.out, ← List.append_assoc, HBB.out]
    exact Txt.plus (n := b2.length + t.size) (by rw [HZ.out]) (by rw [← HS.out]; exact hown3))
  clear hown3 hg3
  go_wp2
  go_ret
  exact ⟨_, rfl, T3.out, hb3⟩

end Go.Proofs.YtjnbpohjdgnknaaDoor
