import Derived.Test.YtobniidkkmlilabPk19
import Derived.Test.YtobniidkkmlilabPk20
import Derived.Test.YtobniidkkmlilabPk21

/- The reference's machine: what holds of it at all times (plain data). -/
namespace Go.Proofs.Ytobniidkkmlilab
open Go.RowKit Go.Coh

/-- the lines of a cache: each in its own set, each once -/
structure LnOk (s : RC) : Prop where
  rg : ∀ i j, i < s.S → j < s.W → s.L (i * s.W + j) = -1 ∨ (0 ≤ s.L (i * s.W + j) ∧ s.L (i * s.W + j) < 64 ∧ (s.L (i * s.W + j) % s.S).toNat = i)
  un : ∀ i j j', i < s.S → j < s.W → j' < s.W → s.L (i * s.W + j) = s.L (i * s.W + j') → s.L (i * s.W + j) ≠ -1 → j = j'

def Hs (s : RC) (y : Int) : Prop := ∃ j, j < s.W ∧ s.L (s.lo y + j) = y

theorem find_none {s : RC} {y : Int} : s.find y = none ↔ ¬ Hs s y := by
  unfold RC.find Hs
  rw [findN_none]
  exact ⟨fun h ⟨j, hj, e⟩ => h j hj e, fun h j hj e => h ⟨j, hj, e⟩⟩
theorem find_some {s : RC} {y : Int} (h : Hs s y) : ∃ j, s.find y = some j := by
  cases e : s.find y with
  | some j => exact ⟨j, rfl⟩
  | none => exact absurd h (find_none.1 e)
theorem find_isSome {s : RC} {y : Int} : (s.find y).isSome = true ↔ Hs s y := by
  cases e : s.find y with
  | some j =>
    have := findN_some.1 e
    exact ⟨fun _ => ⟨j, this.1, this.2.1⟩, fun _ => rfl⟩
  | none => exact ⟨fun h => (by cases h), fun h => absurd h (find_none.1 e)⟩
theorem find_at {s : RC} {y : Int} {j : Nat} (h : s.find y = some j) : j < s.W ∧ s.L (s.lo y + j) = y := ⟨(findN_some.1 h).1, (findN_some.1 h).2.1⟩

theorem Hs.congr {s s' : RC} {y : Int} (e1 : s'.S = s.S) (e2 : s'.W = s.W) (e3 : s'.L = s.L) : Hs s' y ↔ Hs s y := by
  unfold Hs RC.lo; rw [e1, e2, e3]
theorem LnOk.congr {s s' : RC} (h : LnOk s) (e1 : s'.S = s.S) (e2 : s'.W = s.W) (e3 : s'.L = s.L) : LnOk s' := by
  refine ⟨?_, ?_⟩
  · rw [e1, e2, e3]; exact h.rg
  · rw [e1, e2, e3]; exact h.un

theorem sets_inj {W i i' j j' : Nat} (hj : j < W) (hj' : j' < W) (e : i * W + j = i' * W + j') : i = i' ∧ j = j' := by
  by_cases h : i = i'
  · subst h; exact ⟨rfl, by omega⟩
  · exact absurd ⟨by omega, by omega⟩ (apart_sets (i := i) (i0 := i') (W := W) (j := j) h hj)

theorem lo_eq (s : RC) (x : Int) : s.lo x = (x % s.S).toNat * s.W := rfl
theorem set_lt {s : RC} (h : RcOk s) (x : Int) : (x % s.S).toNat < s.S := RC.num_lt s x h.sb.1

/-- way i * W + j has come to hold x (or nothing) -/
theorem upd_set (f : Nat → Int) (W i j i' j' : Nat) (v : Int) (hj : j < W) (hj' : j' < W) : upd f (i * W + j) v (i' * W + j') = if i' = i ∧ j' = j then v else f (i' * W + j') := by
  unfold upd
  by_cases e : i' = i ∧ j' = j
  · rw [if_pos e, if_pos (by rw [e.1, e.2])]
  · rw [if_neg e, if_neg (fun h => e (sets_inj hj' hj h))]

theorem put_ln {s s' : RC} (h : LnOk s) (ok : RcOk s) (e1 : s'.S = s.S) (e2 : s'.W = s.W) {x : Int} {j0 : Nat} (hj0 : j0 < s.W) (e3 : s'.L = upd s.L (s.lo x + j0) x) (hx : 0 ≤ x) (hx2 : x < 64) (hn : ¬ Hs s x) :
    LnOk s' ∧ ∀ y, 0 ≤ y → (Hs s' y ↔ y = x ∨ (Hs s y ∧ y ≠ s.L (s.lo x + j0))) := by
  have hi0 := set_lt ok x
  have key : ∀ i j, j < s.W → s'.L (i * s.W + j) = if i = (x % s.S).toNat ∧ j = j0 then x else s.L (i * s.W + j) := fun i j hj => by
    rw [e3, lo_eq]; exact upd_set _ _ _ _ _ _ _ hj0 hj
  refine ⟨⟨fun i j hi hj => ?_, fun i j j' hi hj hj' e ne => ?_⟩, fun y hy => ?_⟩
  · rw [e1] at hi; rw [e2] at hj
    rw [e2, e1, key i j hj]
    by_cases c : i = (x % s.S).toNat ∧ j = j0
    · rw [if_pos c]; exact .inr ⟨hx, hx2, c.1.symm⟩
    · rw [if_neg c]; exact h.rg i j hi hj
  · rw [e1] at hi; rw [e2] at hj hj'
    rw [e2, key i j hj, key i j' hj'] at e
    rw [e2, key i j hj] at ne
    by_cases c : i = (x % s.S).toNat ∧ j = j0
    · by_cases c' : i = (x % s.S).toNat ∧ j' = j0
      · omega
      · rw [if_pos c, if_neg c'] at e
        exact absurd ⟨j', hj', by rw [lo_eq, ← c.1]; exact e.symm⟩ hn
    · by_cases c' : i = (x % s.S).toNat ∧ j' = j0
      · rw [if_neg c, if_pos c'] at e
        exact absurd ⟨j, hj, by rw [lo_eq, ← c'.1]; exact e⟩ hn
      · rw [if_neg c, if_neg c'] at e
        rw [if_neg c] at ne
        exact h.un i j j' hi hj hj' e ne
  · have hiy := set_lt ok y
    constructor
    · rintro ⟨j, hj, e⟩
      rw [e2] at hj
      have e' : s'.L ((y % s.S).toNat * s.W + j) = y := by rw [← e1, ← e2]; exact e
      rw [key _ j hj] at e'
      by_cases c : (y % s.S).toNat = (x % s.S).toNat ∧ j = j0
      · rw [if_pos c] at e'; exact .inl e'.symm
      · rw [if_neg c] at e'
        refine .inr ⟨⟨j, hj, e'⟩, fun ey => c ?_⟩
        rw [lo_eq] at ey
        have hr := h.rg _ j0 hi0 hj0
        rw [← ey] at hr
        rcases hr with hr | ⟨_, _, hr⟩
        · omega
        · refine ⟨hr, h.un _ j j0 hiy hj hj0 ?_ (by rw [e']; omega)⟩
          rw [e', hr]; exact ey
    · rintro (e | ⟨⟨j, hj, e⟩, ne⟩)
      · subst e
        refine ⟨j0, by rw [e2]; exact hj0, ?_⟩
        rw [lo_eq, e1, e2, key _ j0 hj0, if_pos ⟨rfl, rfl⟩]
      · refine ⟨j, by rw [e2]; exact hj, ?_⟩
        rw [lo_eq, e1, e2, key _ j hj]
        by_cases c : (y % s.S).toNat = (x % s.S).toNat ∧ j = j0
        · exact absurd (by rw [lo_eq, ← c.1, ← c.2]; exact e.symm) ne
        · rw [if_neg c]; exact e

theorem clear_ln {s s' : RC} (h : LnOk s) (ok : RcOk s) (e1 : s'.S = s.S) (e2 : s'.W = s.W) {x : Int} {j0 : Nat} (hj0 : j0 < s.W) (e3 : s'.L = upd s.L (s.lo x + j0) (-1)) (hx : s.L (s.lo x + j0) = x) :
    LnOk s' ∧ ∀ y, 0 ≤ y → (Hs s' y ↔ Hs s y ∧ y ≠ x) := by
  have hi0 := set_lt ok x
  have key : ∀ i j, j < s.W → s'.L (i * s.W + j) = if i = (x % s.S).toNat ∧ j = j0 then -1 else s.L (i * s.W + j) := fun i j hj => by
    rw [e3, lo_eq]; exact upd_set _ _ _ _ _ _ _ hj0 hj
  refine ⟨⟨fun i j hi hj => ?_, fun i j j' hi hj hj' e ne => ?_⟩, fun y hy => ?_⟩
  · rw [e1] at hi; rw [e2] at hj
    rw [e2, e1, key i j hj]
    by_cases c : i = (x % s.S).toNat ∧ j = j0
    · rw [if_pos c]; exact .inl rfl
    · rw [if_neg c]; exact h.rg i j hi hj
  · rw [e1] at hi; rw [e2] at hj hj'
    rw [e2, key i j hj, key i j' hj'] at e
    rw [e2, key i j hj] at ne
    by_cases c : i = (x % s.S).toNat ∧ j = j0
    · rw [if_pos c] at ne; exact absurd rfl ne
    · rw [if_neg c] at e ne
      by_cases c' : i = (x % s.S).toNat ∧ j' = j0
      · rw [if_pos c'] at e; exact absurd e ne
      · rw [if_neg c'] at e
        exact h.un i j j' hi hj hj' e ne
  · have hiy := set_lt ok y
    constructor
    · rintro ⟨j, hj, e⟩
      rw [e2] at hj
      have e' : s'.L ((y % s.S).toNat * s.W + j) = y := by rw [← e1, ← e2]; exact e
      rw [key _ j hj] at e'
      by_cases c : (y % s.S).toNat = (x % s.S).toNat ∧ j = j0
      · rw [if_pos c] at e'; omega
      · rw [if_neg c] at e'
        refine ⟨⟨j, hj, e'⟩, fun ey => c ?_⟩
        subst ey
        refine ⟨rfl, h.un _ j j0 hiy hj hj0 ?_ (by rw [e']; omega)⟩
        rw [e']; exact hx.symm
    · rintro ⟨⟨j, hj, e⟩, ne⟩
      refine ⟨j, by rw [e2]; exact hj, ?_⟩
      rw [lo_eq, e1, e2, key _ j hj]
      by_cases c : (y % s.S).toNat = (x % s.S).toNat ∧ j = j0
      · refine absurd ?_ ne
        rw [← e, lo_eq, c.1, c.2]; exact hx
      · rw [if_neg c]; exact e

/-- the way that room tells -/
theorem lifted_L (s : RC) (p lo : Nat) : (s.lifted p lo).L = s.L ∧ (s.lifted p lo).S = s.S ∧ (s.lifted p lo).W = s.W ∧ (s.lifted p lo).P = s.P ∧ (s.lifted p lo).T = s.T ∧ (s.lifted p lo).clock = s.clock ∧ (s.lifted p lo).fills = s.fills ∧ (s.lifted p lo).psel = s.psel := by
  unfold RC.lifted; split <;> exact ⟨rfl, rfl, rfl, rfl, rfl, rfl, rfl, rfl⟩
theorem roomS_L (s : RC) (x : Int) : (s.roomS x).L = s.L ∧ (s.roomS x).S = s.S ∧ (s.roomS x).W = s.W ∧ (s.roomS x).P = s.P ∧ (s.roomS x).T = s.T ∧ (s.roomS x).clock = s.clock ∧ (s.roomS x).fills = s.fills ∧ (s.roomS x).psel = s.psel := by
  unfold RC.roomS; split
  · exact ⟨rfl, rfl, rfl, rfl, rfl, rfl, rfl, rfl⟩
  · exact lifted_L s _ _
theorem put_L (s : RC) (k : Nat) (x : Int) : (s.put k x).L = upd s.L k x ∧ (s.put k x).S = s.S ∧ (s.put k x).W = s.W ∧ (s.put k x).P = s.P ∧ (s.put k x).clock = s.clock + 1 ∧ (s.put k x).fills ≤ s.fills + 1 ∧ (s.put k x).psel = s.psel := by
  unfold RC.put
  split
  · exact ⟨rfl, rfl, rfl, rfl, rfl, by show s.fills + 1 ≤ s.fills + 1; omega, rfl⟩
  · exact ⟨rfl, rfl, rfl, rfl, rfl, by show s.fills ≤ s.fills + 1; omega, rfl⟩

theorem victimIn (s : RC) (p lo : Nat) (hw : Size s.W) : ∃ j, j < s.W ∧ s.victim p lo = lo + j := by
  have hb := hw.pos
  have am : ∀ c : Nat → Nat → Bool, ∃ j, j < s.W ∧ argm c lo s.W = lo + j := fun c => by
    have := argm_bd c lo s.W
    exact ⟨argm c lo s.W - lo, by omega, by omega⟩
  unfold RC.victim
  split
  · exact am _
  · split
    · have := leaf_bd (fun i => - s.T i) (lg s.W) lo
      have e : 2 ^ lg s.W = s.W := by rcases hw with h | h | h | h <;> rw [h] <;> rfl
      exact ⟨leaf (fun i => - s.T i) (lg s.W) lo - lo, by omega, by omega⟩
    · exact am _
theorem room_in {s : RC} (ok : RcOk s) (x : Int) : ∃ j, j < s.W ∧ s.roomW x = s.lo x + j ∧ s.roomOut x = s.L (s.lo x + j) := by
  unfold RC.roomOut RC.roomW
  cases e : s.hole x with
  | some j =>
    have := findN_some.1 e
    exact ⟨j, this.1, rfl, this.2.1.symm⟩
  | none =>
    obtain ⟨j, hj, ej⟩ := victimIn s (s.as x) (s.lo x) ok.wz
    exact ⟨j, hj, ej, by rw [ej]⟩

/-- the line that has to go: it is in the set -/
theorem out_in {s : RC} (ok : RcOk s) (ln : LnOk s) (x : Int) : s.roomOut x < 64 ∧ (0 ≤ s.roomOut x → ∃ j, s.roomW x = s.lo (s.roomOut x) + j ∧ s.find (s.roomOut x) = some j ∧ s.lo (s.roomOut x) = s.lo x) := by
  obtain ⟨j, hj, e1, e2⟩ := room_in ok x
  have hi := set_lt ok x
  have hr := ln.rg _ j hi hj
  rw [← lo_eq, ← e2] at hr
  rcases hr with hr | ⟨h1, h2, h3⟩
  · exact ⟨by omega, fun h => by omega⟩
  · refine ⟨h2, fun _ => ?_⟩
    have elo : s.lo (s.roomOut x) = s.lo x := by rw [lo_eq, lo_eq, h3]
    obtain ⟨j', e'⟩ := find_some (s := s) (y := s.roomOut x) ⟨j, hj, by rw [elo]; exact e2.symm⟩
    have ha := find_at e'
    have : j' = j := ln.un _ j' j hi ha.1 hj (by rw [← lo_eq, ← elo, ha.2, elo]; exact e2) (by rw [← lo_eq, ← elo, ha.2]; omega)
    subst this
    exact ⟨j', by rw [elo]; exact e1, e', elo⟩

theorem find_congr {s s' : RC} (y : Int) (e1 : s'.S = s.S) (e2 : s'.W = s.W) (e3 : s'.L = s.L) : s'.find y = s.find y := by
  unfold RC.find RC.lo; rw [e1, e2, e3]

/-- first caches and who has what -/
structure FI (n : Nat) (F : Nat → RC) (H : Nat → Nat → Int) (B : Int) : Prop where
  ok : ∀ i, RcOk (F i)
  ln : ∀ i, i < n → LnOk (F i)
  cl : ∀ i, (F i).clock ≤ B
  fl : ∀ i, (F i).fills ≤ B
  hs : ∀ i l, i < n → l < 64 → (H i l ≠ 0 ↔ Hs (F i) l)
  h0 : ∀ i l, n ≤ i → H i l = 0
  pp : ∀ i, i < n → (F i).P ≤ 1

section
variable {n : Nat} {F : Nat → RC} {H H' : Nat → Nat → Int} {B B' : Int}

theorem FI.mono (h : FI n F H B) (hb : B ≤ B') : FI n F H B' :=
  ⟨h.ok, h.ln, fun i => Int.le_trans (h.cl i) hb, fun i => Int.le_trans (h.fl i) hb, h.hs, h.h0, h.pp⟩

theorem FI.has (h : FI n F H B) (e : ∀ i l, H' i l = 0 ↔ H i l = 0) : FI n F H' B :=
  ⟨h.ok, h.ln, h.cl, h.fl, fun i l hi hl => by rw [← h.hs i l hi hl, Ne, Ne, e], fun i l hi => (e i l).2 (h.h0 i l hi), h.pp⟩

theorem FI.turn (h : FI n F H B) {c : Nat} (hc : c < n) {r : RC} (ok : RcOk r) (ln : LnOk r) (cl : r.clock ≤ B) (fl : r.fills ≤ B) (pp : r.P ≤ 1) (hs : ∀ l, l < 64 → (H' c l ≠ 0 ↔ Hs r l)) (ho : ∀ i l, i ≠ c → H' i l = H i l) : FI n (updC F c r) H' B := by
  have e1 : updC F c r c = r := by unfold updC; rw [if_pos rfl]
  have e2 : ∀ i, i ≠ c → updC F c r i = F i := fun i hi => by unfold updC; rw [if_neg hi]
  refine ⟨fun i => ?_, fun i hi => ?_, fun i => ?_, fun i => ?_, fun i l hi hl => ?_, fun i l hi => ?_, fun i hi => ?_⟩
  · by_cases e : i = c
    · subst e; rw [e1]; exact ok
    · rw [e2 i e]; exact h.ok i
  · by_cases e : i = c
    · subst e; rw [e1]; exact ln
    · rw [e2 i e]; exact h.ln i hi
  · by_cases e : i = c
    · subst e; rw [e1]; exact cl
    · rw [e2 i e]; exact h.cl i
  · by_cases e : i = c
    · subst e; rw [e1]; exact fl
    · rw [e2 i e]; exact h.fl i
  · by_cases e : i = c
    · subst e; rw [e1]; exact hs l hl
    · rw [e2 i e, ho i l e]; exact h.hs i l hi hl
  · rw [ho i l (by omega)]; exact h.h0 i l hi
  · by_cases e : i = c
    · subst e; rw [e1]; exact pp
    · rw [e2 i e]; exact h.pp i hi

theorem FI.found (h : FI n F H B) {c : Nat} (hc : c < n) (k : Nat) : FI n (updC F c ((F c).found k)) H (B + 1) := by
  have h1 := h.mono (B' := B + 1) (by omega)
  refine h1.turn hc ((h.ok c).found k) ((h.ln c hc).congr rfl rfl rfl) ?_ (h1.fl c) (h.pp c hc) (fun l hl => ?_) (fun _ _ _ => rfl)
  · show (F c).clock + 1 ≤ B + 1
    have := h.cl c; omega
  · rw [h.hs c l hc hl, Hs.congr (s := F c)] <;> rfl

/-- core c loses the line l -/
theorem FI.lose (h : FI n F H B) {c l j : Nat} (hc : c < n) (hl : l < 64) (hj : (F c).find l = some j) : FI n (updC F c (RC.clear (F c) ((F c).lo l + j))) (updH H c l 0) B := by
  have ha := find_at hj
  obtain ⟨l1, l2⟩ := clear_ln (s := F c) (s' := RC.clear (F c) ((F c).lo l + j)) (h.ln c hc) (h.ok c) rfl rfl ha.1 rfl ha.2
  refine h.turn hc ((h.ok c).clear _) l1 (h.cl c) (h.fl c) (h.pp c hc) (fun y hy => ?_) (fun i y hi => ?_)
  · rw [l2 y (by omega), ← h.hs c y hc hy]
    unfold updH
    by_cases e : y = l
    · subst e; simp
    · rw [if_neg (by omega)]
      exact ⟨fun a => ⟨a, by omega⟩, fun a => a.1⟩
  · unfold updH; rw [if_neg (by omega)]

/-- the line l, which it has not, is put into core c's first cache; what had to go is gone -/
theorem FI.take (h : FI n F H B) {c l : Nat} (hc : c < n) (hl : l < 64) (hn : H c l = 0) (v : Int) (hv : v ≠ 0) {r : RC} {H' : Nat → Nat → Int}
    (ok : RcOk r) (e1 : r.S = (F c).S) (e2 : r.W = (F c).W) (e3 : r.L = upd (F c).L ((F c).roomW l) l) (e4 : r.P = (F c).P) (cl : r.clock ≤ (F c).clock + 1) (fl : r.fills ≤ (F c).fills + 1)
    (hh : ∀ y : Nat, y < 64 → H' c y = if y = l then v else if (y : Int) = (F c).roomOut l then 0 else H c y) (ho : ∀ i y, i ≠ c → H' i y = H i y) : FI n (updC F c r) H' (B + 1) := by
  obtain ⟨j, hj, w1, w2⟩ := room_in (h.ok c) l
  have hnl : ¬ Hs (F c) l := fun hh => (h.hs c l hc hl).2 hh hn
  rw [w1] at e3
  obtain ⟨l1, l2⟩ := put_ln (h.ln c hc) (h.ok c) e1 e2 hj e3 (by omega) (by omega) hnl
  refine (h.mono (B' := B + 1) (by omega)).turn hc ok l1 (by have := h.cl c; omega) (by have := h.fl c; omega) (by rw [e4]; exact h.pp c hc) (fun y hy => ?_) ho
  rw [l2 y (by omega), ← h.hs c y hc hy, hh y hy, ← w2]
  by_cases ey : y = l
  · subst ey; rw [if_pos rfl]; exact ⟨fun _ => .inl rfl, fun _ => hv⟩
  · rw [if_neg ey]
    by_cases eo : (y : Int) = (F c).roomOut l
    · rw [if_pos eo]
      exact ⟨fun a => absurd rfl a, fun a => by rcases a with a | a; omega; exact absurd eo a.2⟩
    · rw [if_neg eo]
      exact ⟨fun a => .inr ⟨a, eo⟩, fun a => by rcases a with a | a; omega; exact a.1⟩
end

end Go.Proofs.Ytobniidkkmlilab
