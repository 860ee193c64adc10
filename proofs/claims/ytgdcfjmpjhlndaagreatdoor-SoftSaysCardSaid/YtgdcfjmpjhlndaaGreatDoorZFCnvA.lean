/-
  Convolutions, plainly; cells.Reach, cells.Inside. By an AI agent. No person has read it.
-/
import Derived.Test.YtgdcfjmpjhlndaaGreatDoorZFMatN
namespace Go.Proofs.YtgdcfjmpjhlndaaGreatDoor
open Go.RowKit
/-- How many places a window has. -/
def Cv.reach (n k s p : Int) : Int := (n + 2 * p - k) / s + 1
end Go.Proofs.YtgdcfjmpjhlndaaGreatDoor
namespace Go.Proofs.YtgdcfjmpjhlndaaGreatDoor
/-- The sum of the first k. -/
def Cv.sum (f : Nat → Int) : Nat → Int
  | 0 => 0
  | k + 1 => Cv.sum f k + f k
/-- A convolution's sizes. -/
structure Cv where
  H : Nat
  W : Nat
  C : Nat
  KH : Nat
  KW : Nat
  N : Nat
  s : Nat
  p : Nat
  za : Int
def Cv.here (n s p o d : Nat) : Prop := p ≤ o * s + d ∧ o * s + d < n + p
instance (n s p o d : Nat) : Decidable (Cv.here n s p o d) := inferInstanceAs (Decidable (p ≤ o * s + d ∧ o * s + d < n + p))
/-- Where the image's numbers of a place of the window begin, and the kernel's. -/
def Cv.ia (c : Cv) (y x dy dx : Nat) : Nat := ((y * c.s + dy - c.p) * c.W + (x * c.s + dx - c.p)) * c.C
def Cv.ik (c : Cv) (o dy dx : Nat) : Nat := (dy * c.KW + dx) * c.C * c.N + o
def Cv.prod (c : Cv) (xs ks : List Int) (A B ch : Nat) : Int := (xs.getD (A + ch) 0 - c.za) * ks.getD (B + ch * c.N) 0
def Cv.col (c : Cv) (xs ks : List Int) (y x o dy dx : Nat) : Int := if Cv.here c.W c.s c.p x dx then Cv.sum (c.prod xs ks (c.ia y x dy dx) (c.ik o dy dx)) c.C else 0
def Cv.row (c : Cv) (xs ks : List Int) (y x o dy : Nat) : Int := if Cv.here c.H c.s c.p y dy then Cv.sum (c.col xs ks y x o dy) c.KW else 0
/-- The element at y, x, o. -/
def Cv.el (c : Cv) (xs ks : List Int) (y x o : Nat) : Int := Cv.sum (c.row xs ks y x o) c.KH
def Cv.ow (c : Cv) : Nat := (c.W + 2 * c.p - c.KW) / c.s + 1
def Cv.oh (c : Cv) : Nat := (c.H + 2 * c.p - c.KH) / c.s + 1
/-- The elements from f on, m of them. -/
def Cv.part (c : Cv) (xs ks : List Int) (f m : Nat) : List Int := (List.range m).map fun i => Tens.wide (c.el xs ks ((f + i) / c.N / c.ow) ((f + i) / c.N % c.ow) ((f + i) % c.N))
end Go.Proofs.YtgdcfjmpjhlndaaGreatDoor
