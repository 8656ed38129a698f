/-
  The calls of a cache upon its parts, by what they answer; and upon split, memory and message.
-/
import Derived.Test.YtlfhkjjjocmpbaaGreatDoorCcA
import Derived.Test.YtlfhkjjjocmpbaaGreatDoorLayAr
import Derived.Test.YtlfhkjjjocmpbaaGreatDoorMhG
import Derived.Test.YtlfhkjjjocmpbaaGreatDoorMhH
import Derived.Test.YtlfhkjjjocmpbaaGreatDoorLayMh
import Derived.Test.YtlfhkjjjocmpbaaGreatDoorLayWb
import Derived.Test.YtlfhkjjjocmpbaaGreatDoorLayBase
import Derived.Test.YtlfhkjjjocmpbaaGreatDoorMsF
namespace Go.Proofs.YtlfhkjjjocmpbaaGreatDoor.Cc
open Go Go.RowKit

abbrev OwnP := @Own tyP
variable {w0 w w' : World} {bx : Bx} {K : Kb} {c : Cfg} {core n : Int} {s : St}
abbrev ptr (k : Nat) : Value := .pointer (some ⟨k, 0, none⟩)

theorem Own.find {ty : Tys} (h : Own ty w0 K c core n s bx w) (line : Int) :
    Calls Tryz.prog 41 #[ptr K.a, .int .i64 line] w fun e w' => ∃ i, e = .returned (.tuple #[.agg (Ar.ycells (look c s line)), .int .i64 i, .bool (there c s line)]) ∧ Below w.heap.size w w' := by
  obtain ⟨g, ha, -⟩ := h.ar
  rcases hp : Ar.plc c s.A line with _ | k
  · refine (Ar.find_no ha h.tbs line hp).mono fun e w' ⟨he, hb⟩ => ⟨0, ?_, hb⟩
    unfold look there
    rw [Ar.fnd_none hp]
    exact he
  · obtain ⟨_, hk, x, hx, _⟩ := ha.sz.plc_some hp
    refine (Ar.find_yes ha h.tbs line k x hp hx).mono fun e w' ⟨he, hb⟩ => ⟨k, ?_, hb⟩
    unfold look there
    rw [Ar.fnd_some hp hx]
    exact he
theorem Own.at {ty : Tys} (h : Own ty w0 K c core n s bx w) (set way : Int) :
    Calls Tryz.prog 51 #[ptr K.a, .int .i64 set, .int .i64 way] w fun e w' => e = .returned (.tuple #[.agg (Ar.ycells (atP c s set way).1), .bool (atP c s set way).2]) ∧ Below w.heap.size w w' := by
  obtain ⟨g, ha, -⟩ := h.ar
  unfold atP
  by_cases hq : 0 ≤ set ∧ set < c.se ∧ 0 ≤ way ∧ way < c.wa
  · rw [if_pos hq]
    obtain ⟨q1, q2, q3, q4⟩ := hq
    obtain ⟨S, rfl⟩ : ∃ S : Nat, set = S := ⟨set.toNat, by omega⟩
    obtain ⟨W, rfl⟩ : ∃ W : Nat, way = W := ⟨way.toNat, by omega⟩
    have hlt : S * c.wa.toNat + W < s.A.length := by
      rw [ha.sz.len]
      have := Nat.mul_le_mul_right c.wa.toNat (show S + 1 ≤ c.se.toNat by omega)
      rw [Nat.add_mul, Nat.one_mul] at this
      omega
    refine (Ar.at_yes ha S W (s.A.getD (S * c.wa.toNat + W) Ar.y0) q2 q4 ?_).mono fun e w' ⟨he, hb⟩ => ⟨he, hb⟩
    rw [List.getD_eq_getElem?_getD, List.getElem?_eq_getElem hlt]
    rfl
  · rw [if_neg hq]
    exact (Ar.at_no ha set way (by omega)).mono fun e w' ⟨he, hb⟩ => ⟨he, hb⟩
theorem Own.free {ty : Tys} (h : Own ty w0 K c core n s bx w) (line : Int) :
    Calls Tryz.prog 60 #[ptr K.a, .int .i64 line] w fun e w' => e = .returned (.int .i64 (Ar.oi (Ar.fre c s.A line))) ∧ Below w.heap.size w w' := by
  obtain ⟨g, ha, -⟩ := h.ar
  rcases Bool.eq_false_or_eq_true (lnOk c line) with hl | hl
  · exact Ar.free_yes ha h.tbs line hl
  · have e : Ar.fre c s.A line = none := by unfold Ar.fre; rw [if_neg (by simp [hl])]
    rw [e]
    exact Ar.free_no ha h.tbs line hl
theorem Own.lay {ty : Tys} (h : Own ty w0 K c core n s bx w) (line way : Int) :
    Calls Tryz.prog 59 #[ptr K.a, .int .i64 line, .int .i64 way] w fun e w' => (∃ i, e = .returned (.int .i64 i)) ∧ Own ty w0 K c core n { s with A := (Ar.layP c s.A line way).2 } bx w' := by
  obtain ⟨g, ha, hf⟩ := h.ar
  exact (Ar.lay_any ha h.tbs line way).mono fun e w' hg => ⟨⟨_, hg.res⟩, hf e w' _ hg (h.nums.2.2.1.layP ha.sz line way).1⟩
theorem Own.set {ty : Tys} (h : Own ty w0 K c core n s bx w) (line st : Int) (d : Wd) :
    Calls Tryz.prog 50 #[ptr K.a, .int .i64 line, .int .i64 st, .agg (dcells d)] w fun e w' => (∃ i, e = .returned (.int .i64 i)) ∧ Own ty w0 K c core n (setA c s line st d) bx w' := by
  obtain ⟨g, ha, hf⟩ := h.ar
  exact (Ar.set_any ha h.tbs line st d).mono fun e w' hg => ⟨⟨_, hg.res⟩, hf e w' _ hg (h.nums.2.2.1.setP ha.sz line st d).1⟩
theorem Own.lock {ty : Tys} (h : Own ty w0 K c core n s bx w) (line : Int) (q : Bool) :
    Calls Tryz.prog 61 #[ptr K.a, .int .i64 line, .bool q] w fun e w' => (∃ i, e = .returned (.int .i64 i)) ∧ Own ty w0 K c core n { s with A := (Ar.lockP c s.A line q).2 } bx w' := by
  obtain ⟨g, ha, hf⟩ := h.ar
  exact (Ar.lock_any ha h.tbs line q).mono fun e w' hg => ⟨⟨_, hg.res⟩, hf e w' _ hg (h.nums.2.2.1.lockP ha.sz line q).1⟩

theorem Own.open (h : OwnP w0 K c core n s bx w) (line kind : Int) :
    Calls Tryz.prog 58 #[ptr K.f, .int .i64 line, .int .i64 kind] w fun e w' => (∃ i, e = .returned (.int .i64 i)) ∧ OwnP w0 K c core (n + 1) { s with F := (Mh.openP c.ms s.F line kind).2 } bx w' := by
  obtain ⟨v, hv, hf⟩ := h.fl
  have g := h.nums
  exact (Mh.open_any hv h.below.size line kind g.2.2.2.2.1.r2 g.2.2.2.2.1.len).mono fun e w' hg => ⟨⟨_, hg.res⟩, hf w' _ _ hg.put (g.2.2.2.2.1.open g.2.2.2.2.2.1 line kind) (by omega)⟩
theorem fshort {ty : Tys} (h : Own ty w0 K c core n s bx w) : s.F.length ≤ 8 := by have g := h.nums.2.2.2.2.1; have := g.len; have := g.r2; omega
theorem Own.data (h : OwnP w0 K c core n s bx w) (line acks own : Int) (d : Wd) :
    Calls Tryz.prog 142 #[ptr K.f, .int .i64 line, .int .i64 acks, .int .i64 own, .agg (dcells d)] w fun e w' => e = .returned (.int .i64 (Mh.chg s.F line (Mh.dataF acks own d)).1) ∧ OwnP w0 K c core (n + 1) { s with F := (Mh.chg s.F line (Mh.dataF acks own d)).2 } bx w' := by
  obtain ⟨v, hv, hf⟩ := h.fl
  have := fshort h
  exact (Mh.data_any hv line acks own d (by omega)).mono fun e w' hg => ⟨hg.res, hf w' _ _ hg.put (h.nums.2.2.2.2.1.data line acks own d) (by omega)⟩
theorem Own.grant (h : OwnP w0 K c core n s bx w) (line acks : Int) :
    Calls Tryz.prog 143 #[ptr K.f, .int .i64 line, .int .i64 acks] w fun e w' => e = .returned (.int .i64 (Mh.chg s.F line (Mh.grantF acks)).1) ∧ OwnP w0 K c core (n + 1) { s with F := (Mh.chg s.F line (Mh.grantF acks)).2 } bx w' := by
  obtain ⟨v, hv, hf⟩ := h.fl
  have := fshort h
  exact (Mh.grant_any hv line acks (by omega)).mono fun e w' hg => ⟨hg.res, hf w' _ _ hg.put (h.nums.2.2.2.2.1.grant line acks) (by omega)⟩
theorem Own.ack (h : OwnP w0 K c core n s bx w) (hn : n ≤ 900) (line : Int) :
    Calls Tryz.prog 144 #[ptr K.f, .int .i64 line] w fun e w' => e = .returned (.int .i64 (Mh.chg s.F line Mh.ackF).1) ∧ OwnP w0 K c core (n + 1) { s with F := (Mh.chg s.F line Mh.ackF).2 } bx w' := by
  obtain ⟨v, hv, hf⟩ := h.fl
  have := fshort h
  have g := h.nums.2.2.2.2.1
  exact (Mh.ack_any hv line (by omega) (fun x hx => ⟨(g.each x hx).g0, by have := (g.each x hx).gk; omega⟩)).mono fun e w' hg => ⟨hg.res, hf w' _ _ hg.put (g.ack line) (by omega)⟩
theorem Own.owe (h : OwnP w0 K c core n s bx w) (line : Int) :
    Calls Tryz.prog 156 #[ptr K.f, .int .i64 line] w fun e w' => e = .returned (.tuple #[.agg (Mh.mcells (Mh.oweP s.F line).1.1), .bool (Mh.oweP s.F line).1.2]) ∧ OwnP w0 K c core (n + 1) { s with F := (Mh.oweP s.F line).2 } bx w' := by
  obtain ⟨v, hv, hf⟩ := h.fl
  have := fshort h
  exact (Mh.owe_any hv line (by omega)).mono fun e w' hg => ⟨hg.1, hf w' _ _ hg.2 (h.nums.2.2.2.2.1.owe line) (by omega)⟩
theorem Own.close (h : OwnP w0 K c core n s bx w) (line : Int) :
    Calls Tryz.prog 65 #[ptr K.f, .int .i64 line] w fun e w' => (∃ i, e = .returned (.int .i64 i)) ∧ OwnP w0 K c core (n + 1) { s with F := (Mh.closeP s.F line).2 } bx w' := by
  obtain ⟨v, hv, hf⟩ := h.fl
  have := fshort h
  exact (Mh.close_any hv line (by omega)).mono fun e w' hg => ⟨⟨_, hg.res⟩, hf w' _ _ hg.put (h.nums.2.2.2.2.1.close line) (by omega)⟩
theorem Own.mget (h : OwnP w0 K c core n s bx w) (line : Int) :
    Calls Tryz.prog 147 #[ptr K.f, .int .i64 line] w fun e w' => e = .returned (.tuple #[.agg (Mh.mcells (Mh.getP s.F line).1), .bool (Mh.getP s.F line).2]) ∧ Below w.heap.size w w' := by
  obtain ⟨v, hv, hf⟩ := h.fl
  have := fshort h
  exact Mh.get_any hv line (by omega)
theorem Own.owing (h : OwnP w0 K c core n s bx w) :
    Calls Tryz.prog 64 #[ptr K.f] w fun e w' => e = .returned (.tuple #[.int .i64 (Mh.owingP s.F).1, .bool (Mh.owingP s.F).2]) ∧ Below w.heap.size w w' := by
  obtain ⟨v, hv, hf⟩ := h.fl
  have := fshort h
  exact Mh.owing_any hv (by omega)
theorem Own.mlist (h : OwnP w0 K c core n s bx w) :
    Calls Tryz.prog 67 #[ptr K.f] w fun e w' => ∃ p cap, e = .returned (.slice p s.F.length cap) ∧ Mh.MsIn w' p s.F ∧ Below w.heap.size w w' := by
  obtain ⟨v, hv, hf⟩ := h.fl
  have := fshort h
  refine (Mh.list_any hv (by omega)).mono fun e' w' ⟨v', he, ho, hb⟩ => ?_
  obtain ⟨p, cap, e, hin⟩ := Mh.own_ins ho
  exact ⟨p, cap, by rw [he, e], hin, hb⟩

theorem Own.put (h : OwnP w0 K c core n s bx w) (line : Int) (d : Wd) :
    Calls Tryz.prog 53 #[ptr K.b, .int .i64 line, .agg (dcells d)] w fun e w' => (∃ i, e = .returned (.int .i64 i)) ∧ OwnP w0 K c core n { s with B := (Wb.putP c.wb s.B line d).2 } bx w' := by
  obtain ⟨v, hv, hf⟩ := h.bf
  have g := h.nums.2.2.2.2.2.2
  exact (Wb.put_any hv g h.below.size line d).mono fun e w' hg => ⟨⟨_, hg.res⟩, hf w' _ hg.put (g.put line d)⟩
theorem Own.share (h : OwnP w0 K c core n s bx w) (line : Int) :
    Calls Tryz.prog 137 #[ptr K.b, .int .i64 line] w fun e w' => e = .returned (.tuple #[.agg (dcells (Wb.ansP id s.B line).1.1), .int .i64 (Wb.ansP id s.B line).1.2]) ∧ OwnP w0 K c core n { s with B := (Wb.ansP id s.B line).2 } bx w' := by
  obtain ⟨v, hv, hf⟩ := h.bf
  have g := h.nums.2.2.2.2.2.2
  exact (Wb.share_any hv line g.short).mono fun e w' hg => ⟨hg.1, hf w' _ hg.2 (g.ans id (fun _ => rfl) line)⟩
theorem Own.give (h : OwnP w0 K c core n s bx w) (line : Int) :
    Calls Tryz.prog 138 #[ptr K.b, .int .i64 line] w fun e w' => e = .returned (.tuple #[.agg (dcells (Wb.ansP Wb.gone s.B line).1.1), .int .i64 (Wb.ansP Wb.gone s.B line).1.2]) ∧ OwnP w0 K c core n { s with B := (Wb.ansP Wb.gone s.B line).2 } bx w' := by
  obtain ⟨v, hv, hf⟩ := h.bf
  have g := h.nums.2.2.2.2.2.2
  exact (Wb.give_any hv line g.short).mono fun e w' hg => ⟨hg.1, hf w' _ hg.2 (g.ans Wb.gone (fun _ => rfl) line)⟩
theorem Own.dropL (h : OwnP w0 K c core n s bx w) (line : Int) :
    Calls Tryz.prog 145 #[ptr K.b, .int .i64 line] w fun e w' => e = .returned (.int .i64 (Wb.dropP s.B line).1) ∧ OwnP w0 K c core n { s with B := (Wb.dropP s.B line).2 } bx w' := by
  obtain ⟨v, hv, hf⟩ := h.bf
  have g := h.nums.2.2.2.2.2.2
  exact (Wb.drop_any hv line g.short).mono fun e w' hg => ⟨hg.res, hf w' _ hg.put (g.drop line)⟩
theorem Own.bget (h : OwnP w0 K c core n s bx w) (line : Int) :
    Calls Tryz.prog 148 #[ptr K.b, .int .i64 line] w fun e w' => e = .returned (.tuple #[.agg (Wb.mcells (Wb.getP s.B line).1), .bool (Wb.getP s.B line).2]) ∧ Below w.heap.size w w' := by
  obtain ⟨v, hv, hf⟩ := h.bf
  have := h.nums.2.2.2.2.2.2.short
  exact Wb.get_any hv line (by omega)
theorem Own.left (h : OwnP w0 K c core n s bx w) :
    Calls Tryz.prog 52 #[ptr K.b] w fun e w' => e = .returned (.int .i64 (c.wb - s.B.length)) ∧ Below w.heap.size w w' := by
  obtain ⟨v, hv, hf⟩ := h.bf
  have g := h.nums.2.2.2.2.2.2
  refine (Wb.left_any hv g.r1 g.r2 g.short).mono fun e w' ⟨he, q, hq⟩ => ⟨he, ?_⟩
  subst hq
  exact ⟨rfl, rfl, rfl, Nat.le_refl _, fun _ _ => rfl⟩
theorem Own.blist (h : OwnP w0 K c core n s bx w) :
    Calls Tryz.prog 66 #[ptr K.b] w fun e w' => ∃ p cap, e = .returned (.slice p s.B.length cap) ∧ Wb.EnIn w' p s.B ∧ Below w.heap.size w w' := by
  obtain ⟨v, hv, hf⟩ := h.bf
  have := h.nums.2.2.2.2.2.2.short
  refine (Wb.list_any hv (by omega)).mono fun e' w' ⟨v', he, ho, hb⟩ => ?_
  obtain ⟨p, cap, e, hin⟩ := Wb.own_ins ho
  exact ⟨p, cap, by rw [he, e], hin, hb⟩

/-! split, memory, message. -/
theorem Own.line {ty : Tys} (h : Own ty w0 K c core n s bx w) (line : Int) :
    Calls Tryz.prog 104 #[cv c, .int .i64 line] w fun e w' => e = .returned (.tuple #[.int .i64 (lnH c line), .int .i64 (lnS c line), .int .i64 (lnT c line), .int .i64 (lnE c line)]) ∧ Below w.heap.size w w' := line_any c line w h.nums.2.1 h.tbs
theorem Own.addr {ty : Tys} (h : Own ty w0 K c core n s bx w) (a : Int) :
    Calls Tryz.prog 19 #[cv c, .int .i64 a] w fun e w' => e = .returned (.tuple #[.int .i64 (adL c a), .int .i64 (adW c a), .int .i64 (adE c a)]) ∧ Below w.heap.size w w' := addr_any c a w h.nums.2.1 h.tbs
theorem Own.apply {ty : Tys} (h : Own ty w0 K c core n s bx w) (d : Wd) (x : Pg.Op) :
    Calls Tryz.prog 48 #[cv c, .agg (dcells d), Pg.ov x] w fun e w' => e = .returned (.tuple #[.agg (dcells (Me.apP c d x).1), .int .i64 (Me.apP c d x).2.1, .int .i64 (Me.apP c d x).2.2]) ∧ Below w.heap.size w w' := Me.apply_any c d x w h.nums.2.1 h.tbs
theorem Own.may {ty : Tys} (h : Own ty w0 K c core n s bx w) (m : Msg) :
    Calls Tryz.prog 56 #[cv c, mv m] w fun e w' => e = .returned (.bool (mayM c m)) ∧ Below w.heap.size w w' := may_any c m w h.nums.2.1

end Go.Proofs.YtlfhkjjjocmpbaaGreatDoor.Cc
