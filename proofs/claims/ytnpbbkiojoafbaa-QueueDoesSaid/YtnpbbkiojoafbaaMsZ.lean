/-
  A message in plain words, and its cells.
-/
import Derived.Test.YtnpbbkiojoafbaaRows
namespace Go.Proofs.Ytnpbbkiojoafbaa
open Go

/-- A message: seven numbers, and eight words. -/
structure Msg where
  kd : Int
  ln : Int
  fr : Int
  to : Int
  wh : Int
  ac : Int
  ow : Int
  w0 : Int
  w1 : Int
  w2 : Int
  w3 : Int
  w4 : Int
  w5 : Int
  w6 : Int
  w7 : Int

/-- Its k-th word. -/
def Msg.wd (m : Msg) (k : Nat) : Int := [m.w0, m.w1, m.w2, m.w3, m.w4, m.w5, m.w6, m.w7].getD k 0

abbrev mcells (m : Msg) : Array Value := #[.int .i64 m.kd, .int .i64 m.ln, .int .i64 m.fr, .int .i64 m.to, .int .i64 m.wh, .int .i64 m.ac, .int .i64 m.ow, .int .i64 m.w0, .int .i64 m.w1, .int .i64 m.w2, .int .i64 m.w3, .int .i64 m.w4, .int .i64 m.w5, .int .i64 m.w6, .int .i64 m.w7]
abbrev mv (m : Msg) : Value := .agg (mcells m)

end Go.Proofs.Ytnpbbkiojoafbaa
