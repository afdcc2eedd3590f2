import Derived.Test.YtobniidkkmlilaaPk02
import Derived.Test.YtobniidkkmlilaaPk01

/- The walks over package set: the leaf of the tree, the ranks, a touch. -/
namespace Go.Proofs.Ytobniidkkmlilaa
open Go.RowKit Go.Coh

theorem youngest_int (b off n lo hi : Nat) (l h : Int) (L A R : Nat → Int) (w : World) (el : l = lo) (eh : h = hi) (hh : hi ≤ 8) (hl8 : lo < hi) (H : SetAt w b off n L A R) :
    Calls Try.prog 122 #[.pointer (some ⟨b, off, none⟩), .int .i64 l, .int .i64 h] w fun e w' => e = .returned (.int .i64 (argm (fun i j => decide (A i < A j)) lo (hi - lo) : Nat)) ∧ ∃ q, w' = w.drewN q := by
  subst el; subst eh
  exact youngest_any b off n lo hi L A R w hh hl8 H

theorem SetAt.drewN {w : World} {b off n : Nat} {L A R : Nat → Int} (h : SetAt w b off n L A R) (q : Nat) : SetAt (w.drewN q) b off n L A R := ⟨h.cnt, h.ln, h.ag, h.rk⟩

theorem SetAt.of_upd {S : Nat → Nat → Prop} {w w' : World} {b off n : Nat} {L A R : Nat → Int} (h : SetAt w b off n L A R) (u : Upd S w w') (hS : ∀ j, j < 25 → ¬ S b (off + j)) : SetAt w' b off n L A R := by
  have hb : b < w.heap.size := h.ln.lt (by omega)
  refine ⟨?_, ?_, ?_, ?_⟩
  · have := hS 0 (by omega)
    rw [Nat.add_zero] at this
    rw [u.cell hb this]; exact h.cnt
  · exact h.ln.of_upd u fun j hj => by rw [Nat.add_assoc]; exact hS _ (by omega)
  · exact h.ag.of_upd u fun j hj => by rw [Nat.add_assoc]; exact hS _ (by omega)
  · exact h.rk.of_upd u fun j hj => by rw [Nat.add_assoc]; exact hS _ (by omega)

/-- a store into the ages -/
theorem SetAt.setA {w : World} {b off n : Nat} {L A R : Nat → Int} (h : SetAt w b off n L A R) {i : Nat} (hi : i < 8) (v : Int) : SetAt (w.setCell ⟨b, off + 9 + i, none⟩ (.int .i64 v)) b off n L (upd A i v) R := by
  have ne : ∀ o, o ≠ off + 9 + i → (w.setCell ⟨b, off + 9 + i, none⟩ (.int .i64 v)).cell? ⟨b, o, none⟩ = w.cell? ⟨b, o, none⟩ := fun o ho => World.cell?_setCell_other _ _ _ _ (fun he => ho (by injection he; omega))
  refine ⟨by rw [ne _ (by omega)]; exact h.cnt, fun j hj => ⟨by rw [ne _ (by omega)]; exact h.ln.c j hj, by rw [World.frozen?_setCell]; exact h.ln.f j hj⟩, h.ag.set hi v, fun j hj => ⟨by rw [ne _ (by omega)]; exact h.rk.c j hj, by rw [World.frozen?_setCell]; exact h.rk.f j hj⟩⟩
theorem SetAt.setR {w : World} {b off n : Nat} {L A R : Nat → Int} (h : SetAt w b off n L A R) {i : Nat} (hi : i < 8) (v : Int) : SetAt (w.setCell ⟨b, off + 17 + i, none⟩ (.int .i64 v)) b off n L A (upd R i v) := by
  have ne : ∀ o, o ≠ off + 17 + i → (w.setCell ⟨b, off + 17 + i, none⟩ (.int .i64 v)).cell? ⟨b, o, none⟩ = w.cell? ⟨b, o, none⟩ := fun o ho => World.cell?_setCell_other _ _ _ _ (fun he => ho (by injection he; omega))
  refine ⟨by rw [ne _ (by omega)]; exact h.cnt, fun j hj => ⟨by rw [ne _ (by omega)]; exact h.ln.c j hj, by rw [World.frozen?_setCell]; exact h.ln.f j hj⟩, fun j hj => ⟨by rw [ne _ (by omega)]; exact h.ag.c j hj, by rw [World.frozen?_setCell]; exact h.ag.f j hj⟩, h.rk.set hi v⟩
theorem SetAt.setL {w : World} {b off n : Nat} {L A R : Nat → Int} (h : SetAt w b off n L A R) {i : Nat} (hi : i < 8) (v : Int) : SetAt (w.setCell ⟨b, off + 1 + i, none⟩ (.int .i64 v)) b off n (upd L i v) A R := by
  have ne : ∀ o, o ≠ off + 1 + i → (w.setCell ⟨b, off + 1 + i, none⟩ (.int .i64 v)).cell? ⟨b, o, none⟩ = w.cell? ⟨b, o, none⟩ := fun o ho => World.cell?_setCell_other _ _ _ _ (fun he => ho (by injection he; omega))
  refine ⟨by rw [ne _ (by omega)]; exact h.cnt, h.ln.set hi v, fun j hj => ⟨by rw [ne _ (by omega)]; exact h.ag.c j hj, by rw [World.frozen?_setCell]; exact h.ag.f j hj⟩, fun j hj => ⟨by rw [ne _ (by omega)]; exact h.rk.c j hj, by rw [World.frozen?_setCell]; exact h.rk.f j hj⟩⟩
theorem SetAt.congr {w : World} {b off n : Nat} {L A R L' A' R' : Nat → Int} (h : SetAt w b off n L A R) (hl : ∀ j, j < 8 → L j = L' j) (ha : ∀ j, j < 8 → A j = A' j) (hr : ∀ j, j < 8 → R j = R' j) : SetAt w b off n L' A' R' :=
  ⟨h.cnt, h.ln.congr hl, h.ag.congr ha, h.rk.congr hr⟩
theorem upd_at {w w' : World} {b off : Nat} (h : Upd (rowS b off 25) w w') {o : Nat} (ho : off ≤ o ∧ o < off + 25) (v : Value) : Upd (rowS b off 25) w (w'.setCell ⟨b, o, none⟩ v) :=
  h.setCell (fun _ => ⟨rfl, ho.1, ho.2⟩) v

set_option maxHeartbeats 1000000 in
theorem leaf_any (b off n : Nat) (L A R : Nat → Int) (w : World) (hn : Size n) (H : SetAt w b off n L A R) :
    Calls Try.prog 120 #[.pointer (some ⟨b, off, none⟩)] w fun e w' => e = .returned (.int .i64 (leaf A (lg n) 0 : Nat)) ∧ ∃ q, w' = w.drewN q := by
  have hc := H.cnt
  have HH : Hid (SetAt w b off n L A R) := H
  clear H
  have hn8 : n ≤ 8 := by rcases hn with h | h | h | h <;> omega
  have hst : ∃ m : Nat, lg n = m ∧ ((n : Int) / 2 = 0 ∧ m = 0 ∧ n = 1 ∨ (n : Int) / 2 = 1 ∧ m = 1 ∧ n = 2 ∨ (n : Int) / 2 = 2 ∧ m = 2 ∧ n = 4 ∨ (n : Int) / 2 = 4 ∧ m = 3 ∧ n = 8) := by
    rcases hn with rfl | rfl | rfl | rfl <;> exact ⟨_, rfl, by decide⟩
  have HN : Hid (Size n) := hn
  have HST := (show Hid _ from hst)
  clear hn hst
  go_enter Try.func120, Try.ntmps120
  go_wp2
  go_loopw [3, 4] (fun lo ha wr => ∃ (m low : Nat) (h : Int) (q : Nat), low + 2 ^ m ≤ n ∧ lo = .int .i64 low ∧ ha = .int .i64 h ∧ wr = w.drewN q ∧ leaf A m low = leaf A (lg n) 0 ∧ (h = 0 ∧ m = 0 ∨ h = 1 ∧ m = 1 ∨ h = 2 ∧ m = 2 ∨ h = 4 ∧ m = 3)) (fun _ ha _ => (intOf ha).toNat)
  case atStart =>
    obtain ⟨m, hm, hst⟩ := HST.out
    refine ⟨m, 0, (n : Int) / 2, 0, ?_, rfl, rfl, rfl, by rw [hm], by omega⟩
    rcases hst with ⟨_, rfl, rfl⟩ | ⟨_, rfl, rfl⟩ | ⟨_, rfl, rfl⟩ | ⟨_, rfl, rfl⟩ <;> decide
  case round =>
    obtain ⟨m, low, h, q, hle, rfl, rfl, rfl, hlf, hcase⟩ := hrel
    have HLF : Hid (leaf A m low = leaf A (lg n) 0) := hlf
    clear hlf HST
    rcases hcase with ⟨rfl, rfl⟩ | ⟨rfl, rfl⟩ | ⟨rfl, rfl⟩ | ⟨rfl, rfl⟩
    · go_wp2
      go_ret
      exact ⟨ret_int (by rw [← HLF.out]; rfl), q, rfl⟩
    · have hle' : low + 2 ≤ n := hle
      clear hle
      have HA : Hid (leaf A 1 low = leaf A 0 (if argm (fun i j => decide (A i < A j)) low (low + 2 - low) < low + 1 then low + 1 else low)) := by
        rw [show low + 2 - low = 2 by omega]; rfl
      have hy := argm_bd (fun i j => decide (A i < A j)) low (low + 2 - low)
      go_wp2_with fail
      refine (youngest_int b off n low (low + 2) _ _ L A R _ rfl (by simp) (by omega) (by omega) (HH.out.drewN q)).mono ?_
      rintro e w' ⟨rfl, q1, rfl⟩
      generalize argm (fun i j => decide (A i < A j)) low (low + 2 - low) = y at *
      by_cases hyl : y < low + 1
      all_goals
        go_wp2
        go_roundw
        case rel =>
          refine ⟨0, _, 0, _, ?_, by first | rfl | go_num, by first | rfl | go_num, rfl, ?_, by omega⟩
          rotate_left
          · rw [← HLF.out, HA.out]; first | rw [if_pos hyl] | rw [if_neg hyl]
          · show _ + 1 ≤ n; omega
        case measure => simp [intOf]
    · have hle' : low + 4 ≤ n := hle
      clear hle
      have HA : Hid (leaf A 2 low = leaf A 1 (if argm (fun i j => decide (A i < A j)) low (low + 4 - low) < low + 2 then low + 2 else low)) := by
        rw [show low + 4 - low = 4 by omega]; rfl
      have hy := argm_bd (fun i j => decide (A i < A j)) low (low + 4 - low)
      go_wp2_with fail
      refine (youngest_int b off n low (low + 4) _ _ L A R _ rfl (by simp) (by omega) (by omega) (HH.out.drewN q)).mono ?_
      rintro e w' ⟨rfl, q1, rfl⟩
      generalize argm (fun i j => decide (A i < A j)) low (low + 4 - low) = y at *
      by_cases hyl : y < low + 2
      all_goals
        go_wp2
        go_roundw
        case rel =>
          refine ⟨1, _, 1, _, ?_, by first | rfl | go_num, by first | rfl | go_num, rfl, ?_, by omega⟩
          rotate_left
          · rw [← HLF.out, HA.out]; first | rw [if_pos hyl] | rw [if_neg hyl]
          · show _ + 2 ≤ n; omega
        case measure => simp [intOf]
    · have hle' : low + 8 ≤ n := hle
      clear hle
      have HA : Hid (leaf A 3 low = leaf A 2 (if argm (fun i j => decide (A i < A j)) low (low + 8 - low) < low + 4 then low + 4 else low)) := by
        rw [show low + 8 - low = 8 by omega]; rfl
      have hy := argm_bd (fun i j => decide (A i < A j)) low (low + 8 - low)
      go_wp2_with fail
      refine (youngest_int b off n low (low + 8) _ _ L A R _ rfl (by simp) (by omega) (by omega) (HH.out.drewN q)).mono ?_
      rintro e w' ⟨rfl, q1, rfl⟩
      generalize argm (fun i j => decide (A i < A j)) low (low + 8 - low) = y at *
      by_cases hyl : y < low + 4
      all_goals
        go_wp2
        go_roundw
        case rel =>
          refine ⟨2, _, 2, _, ?_, by first | rfl | go_num, by first | rfl | go_num, rfl, ?_, by omega⟩
          rotate_left
          · rw [← HLF.out, HA.out]; first | rw [if_pos hyl] | rw [if_neg hyl]
          · show _ + 4 ≤ n; omega
        case measure => simp [intOf]

end Go.Proofs.Ytobniidkkmlilaa

/- The reference's cache, as plain data. No program is named here. -/
namespace Go.Coh

structure RC where
  S : Nat
  W : Nat
  P : Nat
  L : Nat → Int
  T : Nat → Int
  R : Nat → Int
  clock : Int
  fills : Int
  psel : Int

def RC.n (s : RC) : Nat := s.S * s.W

/-- the first way of a line's set -/
def RC.lo (s : RC) (x : Int) : Nat := (x % s.S).toNat * s.W

/-- a place in a set, as a place over all sets -/
def ofs (lo : Nat) : Option Nat → Int
  | some j => (lo + j : Nat)
  | none => -1

def RC.find (s : RC) (x : Int) : Option Nat := findN (fun j => s.L (s.lo x + j)) x s.W

/-- the policy by which a set does -/
def asP (P set : Nat) (psel : Int) : Nat := if P ≠ 4 then P else if set % 4 = 0 then 2 else if set % 4 = 1 then 3 else if psel ≤ 7 then 2 else 3
def RC.as (s : RC) (x : Int) : Nat := asP s.P (x % s.S).toNat s.psel

def RC.stamp (s : RC) (i : Nat) : RC := { s with clock := s.clock + 1, T := upd s.T i (s.clock + 1) }
def RC.found (s : RC) (i : Nat) : RC := { s.stamp i with R := upd s.R i 0 }

/-- ranks from lo to hi go up by d -/
def liftFrom (lo hi : Nat) (d : Int) (R : Nat → Int) : Nat → Int := fun i => if lo ≤ i ∧ i < hi then R i + d else R i

def RC.ranked (s : RC) (lo : Nat) : Nat := argm (fun i j => decide (s.R j < s.R i)) lo s.W
/-- the way whose line has to go, where none is empty -/
def RC.victim (s : RC) (p lo : Nat) : Nat :=
  if p = 0 then argm (fun i j => decide (s.T i < s.T j)) lo s.W else if p = 1 then leaf (fun i => - s.T i) (lg s.W) lo else s.ranked lo
def RC.lifted (s : RC) (p lo : Nat) : RC := if p = 0 ∨ p = 1 then s else { s with R := liftFrom lo (lo + s.W) (3 - s.R (s.ranked lo)) s.R }

def RC.hole (s : RC) (x : Int) : Option Nat := findN (fun j => s.L (s.lo x + j)) (-1) s.W
def RC.roomW (s : RC) (x : Int) : Nat := match s.hole x with
  | some j => s.lo x + j
  | none => s.victim (s.as x) (s.lo x)
def RC.roomOut (s : RC) (x : Int) : Int := match s.hole x with
  | some _ => -1
  | none => s.L (s.roomW x)
def RC.roomS (s : RC) (x : Int) : RC := match s.hole x with
  | some _ => s
  | none => s.lifted (s.as x) (s.lo x)

def RC.put (s : RC) (k : Nat) (x : Int) : RC :=
  let t := { s.stamp k with L := upd s.L k x, R := upd s.R k 2 }
  if s.as x = 3 then { t with fills := s.fills + 1, R := upd s.R k (if (s.fills + 1) % 8 ≠ 0 then 3 else 2) } else t

end Go.Coh
