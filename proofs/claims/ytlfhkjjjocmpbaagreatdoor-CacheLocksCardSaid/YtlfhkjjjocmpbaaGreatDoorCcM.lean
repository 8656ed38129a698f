/-
  A cache in plain words: its ways, its misses, what it evicted, and what each call answers and makes of them. No program is spoken of here.
-/
import Derived.Test.YtlfhkjjjocmpbaaGreatDoorLayAr
import Derived.Test.YtlfhkjjjocmpbaaGreatDoorLayMh
import Derived.Test.YtlfhkjjjocmpbaaGreatDoorLayWb
import Derived.Test.YtlfhkjjjocmpbaaGreatDoorLayPg
import Derived.Test.YtlfhkjjjocmpbaaGreatDoorLayMs
namespace Go.Proofs.YtlfhkjjjocmpbaaGreatDoor.Cc
open Go Go.RowKit

/-- What a cache has. -/
structure St where
  A : List Ar.Wy
  F : List Mh.Ms
  B : List Wb.En
/-- A message with words. -/
def msg (kd ln fr to wh ac ow : Int) (d : Wd) : Msg := ⟨kd, ln, fr, to, wh, ac, ow, d.w0, d.w1, d.w2, d.w3, d.w4, d.w5, d.w6, d.w7⟩
abbrev words (m : Msg) : Wd := ⟨m.w0, m.w1, m.w2, m.w3, m.w4, m.w5, m.w6, m.w7⟩

/-- Can a line be read, or, for who writes, be written? Must be answered for it? -/
def letsB (x : Ar.Wy) (writes : Bool) : Bool := if writes = true then x.st == 2 || x.st == 4 else x.st != 0
def ownsB (x : Ar.Wy) : Bool := x.st == 3 || letsB x true
def look (c : Cfg) (s : St) (line : Int) : Ar.Wy := (Ar.fnd c s.A line).1
def there (c : Cfg) (s : St) (line : Int) : Bool := (Ar.fnd c s.A line).2.2
def atP (c : Cfg) (s : St) (set way : Int) : Ar.Wy × Bool :=
  if 0 ≤ set ∧ set < c.se ∧ 0 ≤ way ∧ way < c.wa then (s.A.getD (set.toNat * c.wa.toNat + way.toNat) Ar.y0, true) else (Ar.y0, false)
def busyB (s : St) (line : Int) : Bool := (Mh.getP s.F line).2 || (Wb.getP s.B line).2
def toHomeP (c : Cfg) (core kind line : Int) : Msg := msg kind line core (lnH c line) 0 0 0 d0
/-- Why a line can't be asked for. -/
def refP (c : Cfg) (s : St) (line kind : Int) : Int :=
  if (lnE c line != 0 || (kind != 1 && kind != 2)) = true then 1
  else if (busyB s line || letsB (look c s line) (kind == 2)) = true then 6
  else if (s.F.length : Int) = c.ms then 4
  else if (!there c s line && decide (Ar.oi (Ar.fre c s.A line) < 0)) = true then 5
  else 0
def layA (c : Cfg) (s : St) (line : Int) : List Ar.Wy := if there c s line = true then s.A else (Ar.layP c s.A line (Ar.oi (Ar.fre c s.A line))).2
def askP (c : Cfg) (core : Int) (s : St) (line kind : Int) : (Msg × Int) × St :=
  if refP c s line kind ≠ 0 then ((m0, refP c s line kind), s)
  else ((toHomeP c core kind line, 0), ⟨(Ar.lockP c (layA c s line) line true).2, (Mh.openP c.ms s.F line kind).2, s.B⟩)
def setA (c : Cfg) (s : St) (line st : Int) (d : Wd) : St := { s with A := (Ar.setP c s.A line st d).2 }
/-- What is to be sent, whether anything is, and the error's number. -/
abbrev Rp := Msg × Bool × Int
def evictP (c : Cfg) (core : Int) (s : St) (set way : Int) : Rp × St :=
  let x := (atP c s set way).1
  if (!(atP c s set way).2 || x.st == 0) = true then ((m0, false, 5), s)
  else if x.lk = true then ((m0, false, 6), s)
  else if (x.st != 1 && (c.wb - s.B.length == 0)) = true then ((m0, false, 4), s)
  else if x.st = 1 then ((m0, false, 0), setA c s x.ln 0 d0)
  else ((msg 3 x.ln core (lnH c x.ln) 0 0 0 x.wd, true, 0), { setA c s x.ln 0 d0 with B := (Wb.putP c.wb s.B x.ln x.wd).2 })
def finishP (c : Cfg) (core : Int) (s : St) : (Msg × Bool) × St :=
  if (Mh.owingP s.F).2 = true then ((toHomeP c core 11 (Mh.owingP s.F).1, true), ⟨(Ar.lockP c s.A (Mh.owingP s.F).1 false).2, (Mh.closeP s.F (Mh.owingP s.F).1).2, s.B⟩)
  else ((m0, false), s)
def doP (c : Cfg) (s : St) (x : Pg.Op) : (Int × Int) × St :=
  let w := look c s (adL c x.a)
  let r := Me.apP c w.wd x
  if r.2.2 ≠ 0 then ((0, r.2.2), s)
  else if letsB w (x.k != 1) = false then ((0, 5), s)
  else ((r.2.1, 0), if (x.k != 1) = true then setA c s (adL c x.a) 4 r.1 else s)

/-! Messages that are taken. -/
/-- Who is told words, and what is left here. -/
def leaveP (c : Cfg) (s : St) (f : Wb.En → Wb.En) (line state : Int) : (Wd × Int) × St :=
  let w := look c s line
  if ownsB w = true then ((w.wd, 0), setA c s line state w.wd) else ((Wb.ansP f s.B line).1, { s with B := (Wb.ansP f s.B line).2 })
def tellP (c : Cfg) (core : Int) (s : St) (f : Wb.En → Wb.En) (m : Msg) (left own : Int) : Rp × St :=
  let r := leaveP c s f m.ln left
  if r.1.2 ≠ 0 then ((m0, false, 7), r.2) else ((msg 7 m.ln core m.wh 1 m.ac own r.1.1, true, 0), r.2)
def forgetP (c : Cfg) (core : Int) (s : St) (m : Msg) : Rp × St :=
  let w := look c s m.ln
  if ownsB w = true then ((m0, false, 7), s)
  else ((msg 9 m.ln core m.wh 0 0 0 d0, true, 0), if w.st = 1 then setA c s m.ln 0 d0 else s)
def wordsP (c : Cfg) (s : St) (x : Mh.Ms) : Wd := if x.gr = true then (look c s x.ln).wd else x.wd
def cameP (c : Cfg) (s : St) (line err : Int) : Rp × St :=
  if err ≠ 0 then ((m0, false, 7), s)
  else let r := Mh.oweP s.F line
    ((m0, false, 0), if r.1.2 = true then { setA c s line r.1.1.ow (wordsP c s r.1.1) with F := r.2 } else { s with F := r.2 })
def fillP (c : Cfg) (s : St) (m : Msg) : Rp × St := let r := Mh.chg s.F m.ln (Mh.dataF m.ac m.ow (words m)); cameP c { s with F := r.2 } m.ln r.1
def grantP (c : Cfg) (s : St) (m : Msg) : Rp × St :=
  if (look c s m.ln).st ≠ 3 then ((m0, false, 7), s) else let r := Mh.chg s.F m.ln (Mh.grantF m.ac); cameP c { s with F := r.2 } m.ln r.1
def countP (c : Cfg) (s : St) (m : Msg) : Rp × St := let r := Mh.chg s.F m.ln Mh.ackF; cameP c { s with F := r.2 } m.ln r.1
def dropP (s : St) (m : Msg) : Rp × St := let r := Wb.dropP s.B m.ln; if r.1 ≠ 0 then ((m0, false, 7), { s with B := r.2 }) else ((m0, false, 0), { s with B := r.2 })
/-- What becomes of a message. -/
def becomeP (c : Cfg) (core : Int) (s : St) (m : Msg) : Rp × St :=
  if m.kd = 4 then tellP c core s id m 3 1
  else if m.kd = 5 then tellP c core s Wb.gone m 0 4
  else if m.kd = 6 then forgetP c core s m
  else if m.kd = 7 then fillP c s m
  else if m.kd = 8 then grantP c s m
  else if m.kd = 9 then countP c s m
  else dropP s m
def takeP (c : Cfg) (core : Int) (s : St) (m : Msg) : Rp × St :=
  if 4 ≤ m.kd ∧ m.kd ≤ 10 ∧ mayM c m = true ∧ m.to = core then becomeP c core s m else ((m0, false, 1), s)

end Go.Proofs.YtlfhkjjjocmpbaaGreatDoor.Cc
