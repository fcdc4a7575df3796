/- What chapter 3 says of items, in numbers and lists alone: which may be, their bytes, and items of bytes. No program is named here. -/
import Derived.Test.YtmlmkkfieeaejaaNumMath
set_option maxRecDepth 100000
namespace Go.Proofs.Ytmlmkkfieeaejaa.Item
set_option linter.unusedVariables false

structure It where
  (k q e i t c : Int)
  (l : List Int)
  (b : List UInt8)
  deriving DecidableEq
def It.zero : It := ⟨0, 0, 0, 0, 0, 0, [], []⟩

/-- Is a number from one to another? -/
def win (n a b : Int) : Bool := decide (a ≤ n) && decide (n ≤ b)
theorem win_iff {n a b : Int} : win n a b = true ↔ a ≤ n ∧ n ≤ b := by simp [win]
def far : Int := 4611686018427387904
def allIn (l : List Int) (top : Int) : Bool := l.all fun n => win n 0 top
def list (l : List Int) (lo hi top : Int) : Bool := win l.length lo hi && allIn l top
def body (b : List UInt8) (most : Int) : Bool := decide ((b.length : Int) ≤ most)

def ask1 (x : It) : Bool := win x.t 1 32 && (win x.i 0 (x.t - 1) && (win x.c 0 0 && (list x.l 0 0 0 && body x.b 1024)))
def askN (x : It) (im cm lo hi top : Int) : Bool := win x.t 0 0 && (win x.i 0 im && (win x.c 0 cm && (list x.l lo hi top && body x.b 0)))
def ask (x : It) : Bool :=
  if x.k = 1 then ask1 x else if x.k = 2 then askN x 1 0 1 64 63 else if x.k = 3 then askN x 0 0 0 0 0 else if x.k = 4 then askN x 1 0 0 0 0
  else if x.k = 5 then askN x 0 4611686018427387904 0 0 0 else if x.k = 6 then askN x 0 0 2 64 4611686018427387904 else false
def may (x : It) : Bool := win x.q 1 4611686018427387904 && (win x.e 0 4611686018427387904 && ask x)

/-- An item's bytes behind kind, Seq and Epoch. -/
def tail (x : It) : List UInt8 :=
  if x.k = 1 then Num.putRow [x.i, x.t] 1 ++ x.b else if x.k = 2 then Num.put x.i 1 ++ Num.putRow x.l 1 else if x.k = 4 then Num.put x.i 1
  else if x.k = 5 then Num.put x.c 8 else if x.k = 6 then Num.putRow x.l 8 else []
def bytes (x : It) : List UInt8 := if may x = true then (Num.put x.k 1 ++ Num.putRow [x.q, x.e] 8) ++ tail x else []

end Go.Proofs.Ytmlmkkfieeaejaa.Item
