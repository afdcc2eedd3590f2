/- One set by itself: the reference's touches are the program's. Plain functions alone. -/
import Derived.Test.YtobniidkkmlilaaRq
namespace Go.Coh

structure OneRel (p n : Nat) (s : St) (r : RC) : Prop where
  S : r.S = 1
  W : r.W = n
  P : r.P = p
  set : SetRel 0 n s.L s.A s.R r.L r.T r.R r.clock
  c : s.c = r.fills % 8
  f : 0 ≤ r.fills
  k : 0 ≤ r.clock
  q : r.psel = 7

variable {p n : Nat} {s : St} {r : RC} {x : Int}

theorem OneRel.lo (h : OneRel p n s r) (x : Int) : r.lo x = 0 := by unfold RC.lo; rw [h.S]; simp
theorem OneRel.as (h : OneRel p n s r) (hp : p ≤ 3) (x : Int) : r.as x = p := by unfold RC.as asP; rw [h.P, if_pos (by omega)]
theorem OneRel.find (h : OneRel p n s r) (x : Int) : r.find x = findN s.L x n := by
  unfold RC.find
  rw [h.lo, h.W]
  exact h.set.find x
theorem OneRel.hole (h : OneRel p n s r) (x : Int) : r.hole x = findN s.L (-1) n := by
  unfold RC.hole
  rw [h.lo, h.W]
  exact h.set.find (-1)

theorem upd0 (f g : Nat → Int) (n k : Nat) (v : Int) (h : ∀ j, j < n → f (0 + j) = g j) : ∀ j, j < n → upd f (0 + k) v (0 + j) = upd g k v j := fun j hj => by
  unfold upd
  by_cases e : j = k
  · rw [if_pos (by omega), if_pos e]
  · rw [if_neg (by omega), if_neg e]; exact h j hj

theorem OneRel.hit (h : OneRel p n s r) {k : Nat} (hk : k < n) : OneRel p n ⟨s.L, touchA n k s.A, upd s.R k 0, s.c⟩ (r.found (0 + k)) :=
  ⟨h.S, h.W, h.P, h.set.touch hk h.k h.set.l (upd0 _ _ _ _ _ h.set.r) (fun _ _ _ e => e), h.c, h.f, by show 0 ≤ r.clock + 1; have := h.k; omega, h.q⟩

theorem next_rel (p : Nat) (c f : Int) (hc : c = f % 8) :
    nextRank p c = (if p = 3 then (if (f + 1) % 8 ≠ 0 then 3 else 2) else 2) ∧ nextCount p c = (if p = 3 then (f + 1) % 8 else c) := by
  by_cases p3 : p = 3
  · subst p3
    by_cases h : c + 1 < 8
    · have e : (f + 1) % 8 ≠ 0 := by omega
      have e2 : c + 1 = (f + 1) % 8 := by omega
      simp [nextRank, nextCount, e, e2]
      omega
    · have e : (f + 1) % 8 = 0 := by omega
      simp [nextRank, nextCount, h, e]
  · simp [nextRank, nextCount, p3]

/-- a line is put into way k -/
theorem OneRel.put (h : OneRel p n s r) (hp : p ≤ 3) {k : Nat} (hk : k < n) (x : Int) :
    OneRel p n ⟨upd s.L k x, touchA n k s.A, upd s.R k (nextRank p s.c), nextCount p s.c⟩ (r.put (0 + k) x) := by
  obtain ⟨e1, e2⟩ := next_rel p s.c r.fills h.c
  have has := h.as hp x
  have hst : ∀ v, SetRel 0 n (upd s.L k x) (touchA n k s.A) (upd s.R k v) (upd r.L (0 + k) x) (upd r.T (0 + k) (r.clock + 1)) (upd r.R (0 + k) v) (r.clock + 1) := fun v =>
    h.set.touch hk h.k (upd0 _ _ _ _ _ h.set.l) (upd0 _ _ _ _ _ h.set.r) (fun j _ hj hne => by unfold upd at hne; rw [if_neg hj] at hne; exact hne)
  have hf := h.f
  have hck := h.k
  unfold RC.put
  rw [has]
  by_cases p3 : p = 3
  · rw [if_pos p3]
    rw [if_pos p3] at e1 e2
    refine ⟨h.S, h.W, h.P, ?_, ?_, by show 0 ≤ r.fills + 1; omega, by show 0 ≤ r.clock + 1; omega, h.q⟩
    · rw [e1]; exact hst _
    · rw [e2]
  · rw [if_neg p3]
    rw [if_neg p3] at e1 e2
    refine ⟨h.S, h.W, h.P, ?_, ?_, h.f, by show 0 ≤ r.clock + 1; omega, h.q⟩
    · rw [e1]; exact hst _
    · rw [e2]; exact h.c

theorem OneRel.lift (h : OneRel p n s r) : OneRel p n ⟨s.L, s.A, victimR p n s.R, s.c⟩ (r.lifted p 0) := by
  unfold RC.lifted victimR
  by_cases hp : p = 0 ∨ p = 1
  · rw [if_pos hp, if_pos hp]; exact h
  · rw [if_neg hp, if_neg hp]
    have hr : r.ranked 0 = 0 + oldestW n s.R := by unfold RC.ranked; rw [h.W]; exact h.set.ranked
    refine ⟨h.S, h.W, h.P, ⟨h.set.l, fun j hj => ?_, h.set.perm, h.set.ord, h.set.dist, h.set.tb, h.set.pos⟩, h.c, h.f, h.k, h.q⟩
    show liftFrom 0 (0 + r.W) (3 - r.R (r.ranked 0)) r.R (0 + j) = liftR n (3 - s.R (oldestW n s.R)) s.R j
    have ho : oldestW n s.R < n := argm_lt _ _ _ _ (by omega) (by omega)
    rw [hr, h.set.r _ ho, h.W]
    unfold liftFrom liftR
    rw [if_pos (by omega), if_pos hj, h.set.r j hj]

theorem OneRel.step (h : OneRel p n s r) (hp : p ≤ 3) (hn : Size n) : r.tchT x = tchT p n x s ∧ OneRel p n (tchS p n x s) (r.tchS x) := by
  have hF := h.find x
  have hH := h.hole x
  have hlo := h.lo x
  have has := h.as hp x
  unfold RC.tchT RC.tchS tchT tchS
  rw [hF]
  cases hf : findN s.L x n with
  | some k =>
    rw [hlo]
    refine ⟨?_, h.hit (findN_some.1 hf).1⟩
    show (⟨true, 0 + k, -1⟩ : Tch) = ⟨true, k, -1⟩
    rw [Nat.zero_add]
  | none =>
    show (⟨false, r.roomW x, r.roomOut x⟩ : Tch) = ⟨false, putW p n s.L s.A s.R, s.L (putW p n s.L s.A s.R)⟩ ∧ OneRel p n ⟨upd s.L (putW p n s.L s.A s.R) x, touchA n (putW p n s.L s.A s.R) s.A, upd (putR p n s.L s.R) (putW p n s.L s.A s.R) (nextRank p s.c), nextCount p s.c⟩ ((r.roomS x).put (r.roomW x) x)
    cases he : findN s.L (-1) n with
    | some e =>
      obtain ⟨h1, h2, _⟩ := findN_some.1 he
      have ew : r.roomW x = 0 + e := by unfold RC.roomW; rw [hH, he, hlo]
      have eo : r.roomOut x = -1 := by unfold RC.roomOut; rw [hH, he]
      have es : r.roomS x = r := by unfold RC.roomS; rw [hH, he]
      have pw : putW p n s.L s.A s.R = e := by unfold putW; rw [he]
      have pr : putR p n s.L s.R = s.R := by unfold putR; rw [he]
      rw [ew, eo, es, pw, pr, h2]
      exact ⟨by rw [Nat.zero_add], h.put hp h1 x⟩
    | none =>
      have hfull := findN_none.1 he
      have ev : r.victim p 0 = 0 + victimW p n s.A s.R := by
        have := h.set.victim hn hfull p
        unfold RC.victim RC.ranked
        rw [h.W]
        exact this
      have ew : r.roomW x = 0 + victimW p n s.A s.R := by unfold RC.roomW; rw [hH, he, hlo, has]; exact ev
      have eo : r.roomOut x = r.L (r.roomW x) := by unfold RC.roomOut; rw [hH, he]
      have es : r.roomS x = r.lifted p 0 := by unfold RC.roomS; rw [hH, he, hlo, has]
      have pw : putW p n s.L s.A s.R = victimW p n s.A s.R := by unfold putW; rw [he]
      have pr : putR p n s.L s.R = victimR p n s.R := by unfold putR; rw [he]
      have hv := victimW_lt (p := p) s.A s.R hn
      rw [eo, ew, es, pw, pr, h.set.l _ hv]
      exact ⟨by rw [Nat.zero_add], (h.lift).put hp hv x⟩

theorem OneRel.new (p n : Nat) : OneRel p n (newS n) ⟨1, n, p, fun _ => -1, fun _ => 0, fun _ => 0, 0, 0, 7⟩ :=
  ⟨rfl, rfl, rfl, SetRel.new 0 n, rfl, by show (0 : Int) ≤ 0; omega, by show (0 : Int) ≤ 0; omega, rfl⟩

/-- the reference's state behind the first k lines -/
def rcRun (p n : Nat) (xs : Nat → Int) : Nat → RC
  | 0 => ⟨1, n, p, fun _ => -1, fun _ => 0, fun _ => 0, 0, 0, 7⟩
  | k + 1 => (rcRun p n xs k).tchS (xs k)

theorem OneRel.run (hp : p ≤ 3) (hn : Size n) (xs : Nat → Int) : ∀ k, OneRel p n (tchRun p n xs k) (rcRun p n xs k)
  | 0 => OneRel.new p n
  | k + 1 => ((OneRel.run hp hn xs k).step hp hn).2

theorem rcT_eq (hp : p ≤ 3) (hn : Size n) (xs : Nat → Int) (k : Nat) : (rcRun p n xs k).tchT (xs k) = tchRunT p n xs k :=
  ((OneRel.run hp hn xs k).step hp hn).1

end Go.Coh
