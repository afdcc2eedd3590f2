/- The reference's cache, as plain data. No program is named here. -/
import Derived.Test.YtobniidkkmlilaaPure
namespace Go.Coh

structure RC where
  S : Nat
  W : Nat
  P : Nat
  L : Nat → Int
  T : Nat → Int
  R : Nat → Int
  clock : Int
  fills : Int
  psel : Int

def RC.n (s : RC) : Nat := s.S * s.W

/-- the first way of a line's set -/
def RC.lo (s : RC) (x : Int) : Nat := (x % s.S).toNat * s.W

/-- a place in a set, as a place over all sets -/
def ofs (lo : Nat) : Option Nat → Int
  | some j => (lo + j : Nat)
  | none => -1

def RC.find (s : RC) (x : Int) : Option Nat := findN (fun j => s.L (s.lo x + j)) x s.W

/-- the policy by which a set does -/
def asP (P set : Nat) (psel : Int) : Nat := if P ≠ 4 then P else if set % 4 = 0 then 2 else if set % 4 = 1 then 3 else if psel ≤ 7 then 2 else 3
def RC.as (s : RC) (x : Int) : Nat := asP s.P (x % s.S).toNat s.psel

def RC.stamp (s : RC) (i : Nat) : RC := { s with clock := s.clock + 1, T := upd s.T i (s.clock + 1) }
def RC.found (s : RC) (i : Nat) : RC := { s.stamp i with R := upd s.R i 0 }

/-- ranks from lo to hi go up by d -/
def liftFrom (lo hi : Nat) (d : Int) (R : Nat → Int) : Nat → Int := fun i => if lo ≤ i ∧ i < hi then R i + d else R i

def RC.ranked (s : RC) (lo : Nat) : Nat := argm (fun i j => decide (s.R j < s.R i)) lo s.W
/-- the way whose line has to go, where none is empty -/
def RC.victim (s : RC) (p lo : Nat) : Nat :=
  if p = 0 then argm (fun i j => decide (s.T i < s.T j)) lo s.W else if p = 1 then leaf (fun i => - s.T i) (lg s.W) lo else s.ranked lo
def RC.lifted (s : RC) (p lo : Nat) : RC := if p = 0 ∨ p = 1 then s else { s with R := liftFrom lo (lo + s.W) (3 - s.R (s.ranked lo)) s.R }

def RC.hole (s : RC) (x : Int) : Option Nat := findN (fun j => s.L (s.lo x + j)) (-1) s.W
def RC.roomW (s : RC) (x : Int) : Nat := match s.hole x with
  | some j => s.lo x + j
  | none => s.victim (s.as x) (s.lo x)
def RC.roomOut (s : RC) (x : Int) : Int := match s.hole x with
  | some _ => -1
  | none => s.L (s.roomW x)
def RC.roomS (s : RC) (x : Int) : RC := match s.hole x with
  | some _ => s
  | none => s.lifted (s.as x) (s.lo x)

def RC.put (s : RC) (k : Nat) (x : Int) : RC :=
  let t := { s.stamp k with L := upd s.L k x, R := upd s.R k 2 }
  if s.as x = 3 then { t with fills := s.fills + 1, R := upd s.R k (if (s.fills + 1) % 8 ≠ 0 then 3 else 2) } else t

end Go.Coh
