import Derived.Test.YtobniidkkmlilabPk03
import Derived.Test.YtobniidkkmlilabPk14

/- Stamps and ages: the reference's set and the program's. Plain functions alone. -/
namespace Go.Coh

theorem findN_congr {L L' : Nat → Int} {x : Int} : ∀ {n : Nat}, (∀ j, j < n → L j = L' j) → findN L x n = findN L' x n
  | 0, _ => rfl
  | n + 1, h => by
    unfold findN
    rw [findN_congr (fun j hj => h j (by omega)), h n (by omega)]

theorem argm_shift (c : Nat → Nat → Bool) (lo a : Nat) : ∀ k, argm c (lo + a) k = lo + argm (fun i j => c (lo + i) (lo + j)) a k
  | 0 => rfl
  | k + 1 => by
    unfold argm
    rw [argm_shift c lo a k]
    have e : lo + a + k = lo + (a + k) := by omega
    rw [e]
    split <;> rfl

theorem argm_congr {c c' : Nat → Nat → Bool} {lo : Nat} : ∀ {k : Nat}, (∀ i j, lo ≤ i → i < lo + k → lo ≤ j → j < lo + k → c i j = c' i j) → argm c lo k = argm c' lo k
  | 0, _ => rfl
  | k + 1, h => by
    unfold argm
    have ih := argm_congr (c := c) (c' := c') (lo := lo) (k := k) (fun i j h1 h2 h3 h4 => h i j h1 (by omega) h3 (by omega))
    rw [ih]
    have hb := argm_bd c' lo k
    rw [h (lo + k) (argm c' lo k) (by omega) (by omega) hb.1 (by omega)]

theorem leaf_shift (A : Nat → Int) (lo : Nat) : ∀ m a, leaf A m (lo + a) = lo + leaf (fun j => A (lo + j)) m a
  | 0, _ => rfl
  | m + 1, a => by
    unfold leaf
    rw [argm_shift]
    have e : ∀ y, (lo + y < lo + a + 2 ^ m) = (y < a + 2 ^ m) := fun y => by rw [eq_iff_iff]; omega
    simp only [e]
    split
    · rw [show lo + a + 2 ^ m = lo + (a + 2 ^ m) by omega, leaf_shift A lo m]
    · exact leaf_shift A lo m a

theorem leaf_congr {A A' : Nat → Int} : ∀ {m a : Nat}, (∀ i j, a ≤ i → i < a + 2 ^ m → a ≤ j → j < a + 2 ^ m → (A i < A j ↔ A' i < A' j)) → leaf A m a = leaf A' m a
  | 0, _, _ => rfl
  | m + 1, a, h => by
    have h2 : 2 ^ (m + 1) = 2 ^ m + 2 ^ m := by rw [Nat.pow_succ]; omega
    unfold leaf
    have e : argm (fun i j => decide (A i < A j)) a (2 ^ (m + 1)) = argm (fun i j => decide (A' i < A' j)) a (2 ^ (m + 1)) :=
      argm_congr (fun i j h1 h2 h3 h4 => by rw [Bool.eq_iff_iff]; simp only [decide_eq_true_eq]; exact h i j h1 h2 h3 h4)
    rw [e]
    split
    · exact leaf_congr (fun i j h1 h3 h4 h5 => h i j (by omega) (by omega) (by omega) (by omega))
    · exact leaf_congr (fun i j h1 h3 h4 h5 => h i j (by omega) (by omega) (by omega) (by omega))

/-- The n ways from lo on, as the reference has them (lines, stamps, ranks), against lines, ages and ranks. -/
structure SetRel (lo n : Nat) (L A R rL rT rR : Nat → Int) (clock : Int) : Prop where
  l : ∀ j, j < n → rL (lo + j) = L j
  r : ∀ j, j < n → rR (lo + j) = R j
  perm : Perm n A
  ord : ∀ j j', j < n → j' < n → rT (lo + j) < rT (lo + j') → A j' < A j
  dist : ∀ j j', j < n → j' < n → rT (lo + j) = rT (lo + j') → rT (lo + j) = 0 ∨ j = j'
  tb : ∀ j, j < n → 0 ≤ rT (lo + j) ∧ rT (lo + j) ≤ clock
  pos : ∀ j, j < n → L j ≠ -1 → 0 < rT (lo + j)

section
variable {lo n : Nat} {L A R rL rT rR : Nat → Int} {clock : Int}

theorem SetRel.find (h : SetRel lo n L A R rL rT rR clock) (x : Int) : findN (fun j => rL (lo + j)) x n = findN L x n := findN_congr h.l

/-- where no way is empty, stamps and ages are two ways to say the same -/
theorem SetRel.cmp (h : SetRel lo n L A R rL rT rR clock) (hfull : ∀ j, j < n → L j ≠ -1) {i j : Nat} (hi : i < n) (hj : j < n) : rT (lo + i) < rT (lo + j) ↔ A j < A i := by
  constructor
  · exact h.ord i j hi hj
  · intro ha
    by_cases e : rT (lo + i) < rT (lo + j)
    · exact e
    · exfalso
      by_cases e2 : rT (lo + j) < rT (lo + i)
      · have := h.ord j i hj hi e2; omega
      · have e3 : rT (lo + i) = rT (lo + j) := by omega
        have := h.pos i hi (hfull i hi)
        rcases h.dist i j hi hj e3 with h0 | h0
        · omega
        · subst h0; omega

theorem SetRel.touch (h : SetRel lo n L A R rL rT rR clock) {k : Nat} (hk : k < n) (hc : 0 ≤ clock) {L' R' rL' rR' : Nat → Int}
    (hl : ∀ j, j < n → rL' (lo + j) = L' j) (hr : ∀ j, j < n → rR' (lo + j) = R' j) (hpos : ∀ j, j < n → j ≠ k → L' j ≠ -1 → L j ≠ -1) :
    SetRel lo n L' (touchA n k A) R' rL' (upd rT (lo + k) (clock + 1)) rR' (clock + 1) := by
  have up : ∀ j, j < n → upd rT (lo + k) (clock + 1) (lo + j) = if j = k then clock + 1 else rT (lo + j) := fun j _ => by
    unfold upd
    by_cases e : j = k
    · rw [if_pos (by omega), if_pos e]
    · rw [if_neg (by omega), if_neg e]
  have ak := h.perm.rng k hk
  refine ⟨hl, hr, h.perm.touch hk, fun j j' hj hj' hlt => ?_, fun j j' hj hj' he => ?_, fun j hj => ?_, fun j hj hne => ?_⟩
  · rw [up j hj, up j' hj'] at hlt
    have tj := h.tb j hj
    have tj' := h.tb j' hj'
    have aj := h.perm.rng j hj
    have aj' := h.perm.rng j' hj'
    unfold touchA
    by_cases e : j = k
    · rw [if_pos e] at hlt
      by_cases e' : j' = k
      · rw [if_pos e'] at hlt; omega
      · rw [if_neg e'] at hlt; omega
    · rw [if_neg e] at hlt
      have nj : A j ≠ A k := fun e1 => e (h.perm.inj j k hj hk e1)
      by_cases e' : j' = k
      · rw [if_pos e', if_neg e]
        split <;> omega
      · rw [if_neg e'] at hlt
        have ho := h.ord j j' hj hj' hlt
        have nj' : A j' ≠ A k := fun e1 => e' (h.perm.inj j' k hj' hk e1)
        rw [if_neg e', if_neg e]
        split <;> split <;> omega
  · rw [up j hj, up j' hj'] at he
    rw [up j hj]
    have tj := h.tb j hj
    have tj' := h.tb j' hj'
    by_cases e : j = k
    · rw [if_pos e] at he ⊢
      by_cases e' : j' = k
      · exact .inr (e.trans e'.symm)
      · rw [if_neg e'] at he; omega
    · rw [if_neg e] at he ⊢
      by_cases e' : j' = k
      · rw [if_pos e'] at he; omega
      · rw [if_neg e'] at he; exact h.dist j j' hj hj' he
  · rw [up j hj]
    have tj := h.tb j hj
    split <;> omega
  · rw [up j hj]
    by_cases e : j = k
    · rw [if_pos e]; omega
    · rw [if_neg e]; exact h.pos j hj (hpos j hj e hne)

theorem SetRel.ranked (h : SetRel lo n L A R rL rT rR clock) : argm (fun i j => decide (rR j < rR i)) lo n = lo + oldestW n R := by
  have := argm_shift (fun i j => decide (rR j < rR i)) lo 0 n
  rw [Nat.add_zero] at this
  rw [this]
  congr 1
  exact argm_congr (fun i j h1 h2 h3 h4 => by rw [h.r i (by omega), h.r j (by omega)])

theorem SetRel.victim (h : SetRel lo n L A R rL rT rR clock) (hn : Size n) (hfull : ∀ j, j < n → L j ≠ -1) (p : Nat) :
    (if p = 0 then argm (fun i j => decide (rT i < rT j)) lo n else if p = 1 then leaf (fun i => - rT i) (lg n) lo else argm (fun i j => decide (rR j < rR i)) lo n) = lo + victimW p n A R := by
  unfold victimW
  by_cases p0 : p = 0
  · rw [if_pos p0, if_pos p0]
    have := argm_shift (fun i j => decide (rT i < rT j)) lo 0 n
    rw [Nat.add_zero] at this
    rw [this]
    congr 1
    exact argm_congr (fun i j h1 h2 h3 h4 => by rw [Bool.eq_iff_iff]; simp only [decide_eq_true_eq]; exact h.cmp hfull (by omega) (by omega))
  · rw [if_neg p0, if_neg p0]
    by_cases p1 : p = 1
    · rw [if_pos p1, if_pos p1]
      have := leaf_shift (fun i => - rT i) lo (lg n) 0
      rw [Nat.add_zero] at this
      rw [this]
      congr 1
      have e : 2 ^ lg n = n := by rcases hn with rfl | rfl | rfl | rfl <;> rfl
      refine leaf_congr (fun i j h1 h2 h3 h4 => ?_)
      rw [e] at h2 h4
      have := h.cmp hfull (i := j) (j := i) (by omega) (by omega)
      rw [← this]
      omega
    · rw [if_neg p1, if_neg p1]
      exact h.ranked

theorem SetRel.new (lo n : Nat) : SetRel lo n (newL n) (newA n) (fun _ => 0) (fun _ => -1) (fun _ => 0) (fun _ => 0) 0 :=
  ⟨fun j hj => by unfold newL; rw [if_pos hj], fun _ _ => rfl, Perm.new n, fun j j' _ _ h => by omega, fun _ _ _ _ _ => .inl rfl, fun _ _ => by omega, fun j hj h => by unfold newL at h; rw [if_pos hj] at h; omega⟩
end

/-- one touch, as the reference does it -/
def RC.tchS (s : RC) (x : Int) : RC := match s.find x with
  | some j => s.found (s.lo x + j)
  | none => (s.roomS x).put (s.roomW x) x
def RC.tchT (s : RC) (x : Int) : Tch := match s.find x with
  | some j => ⟨true, s.lo x + j, -1⟩
  | none => ⟨false, s.roomW x, s.roomOut x⟩

end Go.Coh

/- One set by itself: the reference's touches are the program's. Plain functions alone. -/
namespace Go.Coh

structure OneRel (p n : Nat) (s : St) (r : RC) : Prop where
  S : r.S = 1
  W : r.W = n
  P : r.P = p
  set : SetRel 0 n s.L s.A s.R r.L r.T r.R r.clock
  c : s.c = r.fills % 8
  f : 0 ≤ r.fills
  k : 0 ≤ r.clock
  q : r.psel = 7

variable {p n : Nat} {s : St} {r : RC} {x : Int}

theorem OneRel.lo (h : OneRel p n s r) (x : Int) : r.lo x = 0 := by unfold RC.lo; rw [h.S]; simp
theorem OneRel.as (h : OneRel p n s r) (hp : p ≤ 3) (x : Int) : r.as x = p := by unfold RC.as asP; rw [h.P, if_pos (by omega)]
theorem OneRel.find (h : OneRel p n s r) (x : Int) : r.find x = findN s.L x n := by
  unfold RC.find
  rw [h.lo, h.W]
  exact h.set.find x
theorem OneRel.hole (h : OneRel p n s r) (x : Int) : r.hole x = findN s.L (-1) n := by
  unfold RC.hole
  rw [h.lo, h.W]
  exact h.set.find (-1)

theorem upd0 (f g : Nat → Int) (n k : Nat) (v : Int) (h : ∀ j, j < n → f (0 + j) = g j) : ∀ j, j < n → upd f (0 + k) v (0 + j) = upd g k v j := fun j hj => by
  unfold upd
  by_cases e : j = k
  · rw [if_pos (by omega), if_pos e]
  · rw [if_neg (by omega), if_neg e]; exact h j hj

theorem OneRel.hit (h : OneRel p n s r) {k : Nat} (hk : k < n) : OneRel p n ⟨s.L, touchA n k s.A, upd s.R k 0, s.c⟩ (r.found (0 + k)) :=
  ⟨h.S, h.W, h.P, h.set.touch hk h.k h.set.l (upd0 _ _ _ _ _ h.set.r) (fun _ _ _ e => e), h.c, h.f, by show 0 ≤ r.clock + 1; have := h.k; omega, h.q⟩

theorem next_rel (p : Nat) (c f : Int) (hc : c = f % 8) :
    nextRank p c = (if p = 3 then (if (f + 1) % 8 ≠ 0 then 3 else 2) else 2) ∧ nextCount p c = (if p = 3 then (f + 1) % 8 else c) := by
  by_cases p3 : p = 3
  · subst p3
    by_cases h : c + 1 < 8
    · have e : (f + 1) % 8 ≠ 0 := by omega
      have e2 : c + 1 = (f + 1) % 8 := by omega
      simp [nextRank, nextCount, e, e2]
      omega
    · have e : (f + 1) % 8 = 0 := by omega
      simp [nextRank, nextCount, h, e]
  · simp [nextRank, nextCount, p3]

/-- a line is put into way k -/
theorem OneRel.put (h : OneRel p n s r) (hp : p ≤ 3) {k : Nat} (hk : k < n) (x : Int) :
    OneRel p n ⟨upd s.L k x, touchA n k s.A, upd s.R k (nextRank p s.c), nextCount p s.c⟩ (r.put (0 + k) x) := by
  obtain ⟨e1, e2⟩ := next_rel p s.c r.fills h.c
  have has := h.as hp x
  have hst : ∀ v, SetRel 0 n (upd s.L k x) (touchA n k s.A) (upd s.R k v) (upd r.L (0 + k) x) (upd r.T (0 + k) (r.clock + 1)) (upd r.R (0 + k) v) (r.clock + 1) := fun v =>
    h.set.touch hk h.k (upd0 _ _ _ _ _ h.set.l) (upd0 _ _ _ _ _ h.set.r) (fun j _ hj hne => by unfold upd at hne; rw [if_neg hj] at hne; exact hne)
  have hf := h.f
  have hck := h.k
  unfold RC.put
  rw [has]
  by_cases p3 : p = 3
  · rw [if_pos p3]
    rw [if_pos p3] at e1 e2
    refine ⟨h.S, h.W, h.P, ?_, ?_, by show 0 ≤ r.fills + 1; omega, by show 0 ≤ r.clock + 1; omega, h.q⟩
    · rw [e1]; exact hst _
    · rw [e2]
  · rw [if_neg p3]
    rw [if_neg p3] at e1 e2
    refine ⟨h.S, h.W, h.P, ?_, ?_, h.f, by show 0 ≤ r.clock + 1; omega, h.q⟩
    · rw [e1]; exact hst _
    · rw [e2]; exact h.c

theorem OneRel.lift (h : OneRel p n s r) : OneRel p n ⟨s.L, s.A, victimR p n s.R, s.c⟩ (r.lifted p 0) := by
  unfold RC.lifted victimR
  by_cases hp : p = 0 ∨ p = 1
  · rw [if_pos hp, if_pos hp]; exact h
  · rw [if_neg hp, if_neg hp]
    have hr : r.ranked 0 = 0 + oldestW n s.R := by unfold RC.ranked; rw [h.W]; exact h.set.ranked
    refine ⟨h.S, h.W, h.P, ⟨h.set.l, fun j hj => ?_, h.set.perm, h.set.ord, h.set.dist, h.set.tb, h.set.pos⟩, h.c, h.f, h.k, h.q⟩
    show liftFrom 0 (0 + r.W) (3 - r.R (r.ranked 0)) r.R (0 + j) = liftR n (3 - s.R (oldestW n s.R)) s.R j
    have ho : oldestW n s.R < n := argm_lt _ _ _ _ (by omega) (by omega)
    rw [hr, h.set.r _ ho, h.W]
    unfold liftFrom liftR
    rw [if_pos (by omega), if_pos hj, h.set.r j hj]

theorem OneRel.step (h : OneRel p n s r) (hp : p ≤ 3) (hn : Size n) : r.tchT x = tchT p n x s ∧ OneRel p n (tchS p n x s) (r.tchS x) := by
  have hF := h.find x
  have hH := h.hole x
  have hlo := h.lo x
  have has := h.as hp x
  unfold RC.tchT RC.tchS tchT tchS
  rw [hF]
  cases hf : findN s.L x n with
  | some k =>
    rw [hlo]
    refine ⟨?_, h.hit (findN_some.1 hf).1⟩
    show (⟨true, 0 + k, -1⟩ : Tch) = ⟨true, k, -1⟩
    rw [Nat.zero_add]
  | none =>
    show (⟨false, r.roomW x, r.roomOut x⟩ : Tch) = ⟨false, putW p n s.L s.A s.R, s.L (putW p n s.L s.A s.R)⟩ ∧ OneRel p n ⟨upd s.L (putW p n s.L s.A s.R) x, touchA n (putW p n s.L s.A s.R) s.A, upd (putR p n s.L s.R) (putW p n s.L s.A s.R) (nextRank p s.c), nextCount p s.c⟩ ((r.roomS x).put (r.roomW x) x)
    cases he : findN s.L (-1) n with
    | some e =>
      obtain ⟨h1, h2, _⟩ := findN_some.1 he
      have ew : r.roomW x = 0 + e := by unfold RC.roomW; rw [hH, he, hlo]
      have eo : r.roomOut x = -1 := by unfold RC.roomOut; rw [hH, he]
      have es : r.roomS x = r := by unfold RC.roomS; rw [hH, he]
      have pw : putW p n s.L s.A s.R = e := by unfold putW; rw [he]
      have pr : putR p n s.L s.R = s.R := by unfold putR; rw [he]
      rw [ew, eo, es, pw, pr, h2]
      exact ⟨by rw [Nat.zero_add], h.put hp h1 x⟩
    | none =>
      have hfull := findN_none.1 he
      have ev : r.victim p 0 = 0 + victimW p n s.A s.R := by
        have := h.set.victim hn hfull p
        unfold RC.victim RC.ranked
        rw [h.W]
        exact this
      have ew : r.roomW x = 0 + victimW p n s.A s.R := by unfold RC.roomW; rw [hH, he, hlo, has]; exact ev
      have eo : r.roomOut x = r.L (r.roomW x) := by unfold RC.roomOut; rw [hH, he]
      have es : r.roomS x = r.lifted p 0 := by unfold RC.roomS; rw [hH, he, hlo, has]
      have pw : putW p n s.L s.A s.R = victimW p n s.A s.R := by unfold putW; rw [he]
      have pr : putR p n s.L s.R = victimR p n s.R := by unfold putR; rw [he]
      have hv := victimW_lt (p := p) s.A s.R hn
      rw [eo, ew, es, pw, pr, h.set.l _ hv]
      exact ⟨by rw [Nat.zero_add], (h.lift).put hp hv x⟩

theorem OneRel.new (p n : Nat) : OneRel p n (newS n) ⟨1, n, p, fun _ => -1, fun _ => 0, fun _ => 0, 0, 0, 7⟩ :=
  ⟨rfl, rfl, rfl, SetRel.new 0 n, rfl, by show (0 : Int) ≤ 0; omega, by show (0 : Int) ≤ 0; omega, rfl⟩

/-- the reference's state behind the first k lines -/
def rcRun (p n : Nat) (xs : Nat → Int) : Nat → RC
  | 0 => ⟨1, n, p, fun _ => -1, fun _ => 0, fun _ => 0, 0, 0, 7⟩
  | k + 1 => (rcRun p n xs k).tchS (xs k)

theorem OneRel.run (hp : p ≤ 3) (hn : Size n) (xs : Nat → Int) : ∀ k, OneRel p n (tchRun p n xs k) (rcRun p n xs k)
  | 0 => OneRel.new p n
  | k + 1 => ((OneRel.run hp hn xs k).step hp hn).2

theorem rcT_eq (hp : p ≤ 3) (hn : Size n) (xs : Nat → Int) (k : Nat) : (rcRun p n xs k).tchT (xs k) = tchRunT p n xs k :=
  ((OneRel.run hp hn xs k).step hp hn).1

end Go.Coh
