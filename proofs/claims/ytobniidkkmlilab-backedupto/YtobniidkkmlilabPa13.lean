import Derived.Test.YtobniidkkmlilabPa12
import Derived.Test.YtobniidkkmlilabPa03

/- One way; two ways; the line touched last. Plain functions alone. -/
namespace Go.Coh

variable {n p i : Nat} {xs : Nat → Int}

/-! one way -/
def oneT (xs : Nat → Int) (i : Nat) : Tch := if i = 0 then ⟨false, 0, -1⟩ else if xs i = xs (i - 1) then ⟨true, 0, -1⟩ else ⟨false, 0, xs (i - 1)⟩

theorem one_put (p : Nat) (L A R : Nat → Int) : putW p 1 L A R = 0 := by
  have := putW_lt (p := p) L A R (.inl rfl)
  omega

theorem one_step (p : Nat) (x : Int) (s : St) : (tchS p 1 x s).L 0 = x := by
  unfold tchS
  cases h : findN s.L x 1 with
  | some k =>
    obtain ⟨h1, h2, _⟩ := findN_some.1 h
    rw [show k = 0 by omega] at h2
    exact h2
  | none =>
    show upd s.L _ x 0 = x
    rw [one_put]; rfl

theorem one_L (p : Nat) (xs : Nat → Int) : ∀ i, (tchRun p 1 xs i).L 0 = if i = 0 then -1 else xs (i - 1)
  | 0 => rfl
  | i + 1 => by
    show (tchS p 1 (xs i) (tchRun p 1 xs i)).L 0 = _
    rw [one_step]; simp

theorem one_T (p : Nat) (hx : ∀ k, 0 ≤ xs k) (i : Nat) : tchRunT p 1 xs i = oneT xs i := by
  have hL := one_L p xs i
  unfold tchRunT tchT oneT
  cases h : findN (tchRun p 1 xs i).L (xs i) 1 with
  | some k =>
    obtain ⟨h1, h2, _⟩ := findN_some.1 h
    have hk : k = 0 := by omega
    subst hk
    rw [hL] at h2
    by_cases e : i = 0
    · rw [if_pos e] at h2; have := hx i; omega
    · rw [if_neg e] at h2 ⊢
      rw [if_pos h2.symm]
  | none =>
    have hn := findN_none.1 h 0 (by omega)
    rw [hL] at hn
    show (⟨false, putW p 1 _ _ _, (tchRun p 1 xs i).L (putW p 1 _ _ _)⟩ : Tch) = _
    rw [one_put, hL]
    by_cases e : i = 0
    · rw [if_pos e, if_pos e]
    · rw [if_neg e] at hn ⊢
      rw [if_neg e, if_neg (fun e' => hn e'.symm)]

/-! the ages stay a permutation, whatever the policy -/
theorem perm_run (hn : Size n) : ∀ i, Perm n (tchRun p n xs i).A
  | 0 => Perm.new n
  | i + 1 => by
    have ih := perm_run hn i
    show Perm n (tchS p n (xs i) (tchRun p n xs i)).A
    unfold tchS
    cases h : findN (tchRun p n xs i).L (xs i) n with
    | some k => exact ih.touch (findN_some.1 h).1
    | none => exact ih.touch (putW_lt _ _ _ hn)

/-! two ways -/
theorem two_victim (A R R' : Nat → Int) (h : Perm 2 A) : victimW 1 2 A R = victimW 0 2 A R' := by
  have hne : A 0 ≠ A 1 := fun e => absurd (h.inj 0 1 (by omega) (by omega) e) (by omega)
  have e0 : victimW 0 2 A R' = if A 0 < A 1 then 1 else 0 := by
    show argm (fun i j => decide (A j < A i)) 0 2 = _
    simp [argm]
  have e1 : victimW 1 2 A R = if A 1 < A 0 then 0 else 1 := by
    show leaf A 1 0 = _
    simp [leaf, argm]
    by_cases h1 : A 1 < A 0
    · simp [h1]
    · simp [h1]
  rw [e0, e1]
  by_cases h1 : A 0 < A 1
  · rw [if_pos h1, if_neg (by omega)]
  · rw [if_neg h1, if_pos (by omega)]

theorem two_put (L A R R' : Nat → Int) (h : Perm 2 A) : putW 1 2 L A R = putW 0 2 L A R' := by
  unfold putW
  cases findN L (-1) 2 with
  | some k => rfl
  | none => exact two_victim A R R' h

theorem two_run (xs : Nat → Int) : ∀ i, (tchRun 1 2 xs i).L = (tchRun 0 2 xs i).L ∧ (tchRun 1 2 xs i).A = (tchRun 0 2 xs i).A
  | 0 => ⟨rfl, rfl⟩
  | i + 1 => by
    obtain ⟨h1, h2⟩ := two_run xs i
    have hp := perm_run (p := 0) (xs := xs) (n := 2) (.inr (.inl rfl)) i
    show (tchS 1 2 (xs i) (tchRun 1 2 xs i)).L = (tchS 0 2 (xs i) (tchRun 0 2 xs i)).L ∧ (tchS 1 2 (xs i) (tchRun 1 2 xs i)).A = (tchS 0 2 (xs i) (tchRun 0 2 xs i)).A
    unfold tchS
    rw [h1]
    cases findN (tchRun 0 2 xs i).L (xs i) 2 with
    | some k => exact ⟨rfl, by show touchA 2 k _ = touchA 2 k _; rw [h2]⟩
    | none =>
      have e := two_put (tchRun 0 2 xs i).L (tchRun 0 2 xs i).A (tchRun 1 2 xs i).R (tchRun 0 2 xs i).R hp
      constructor
      · show upd _ (putW 1 2 _ (tchRun 1 2 xs i).A _) _ = upd _ _ _
        rw [h2, e]
      · show touchA 2 (putW 1 2 _ (tchRun 1 2 xs i).A _) (tchRun 1 2 xs i).A = touchA 2 _ _
        rw [h2, e]

theorem two_T (xs : Nat → Int) (i : Nat) : tchRunT 1 2 xs i = tchRunT 0 2 xs i := by
  obtain ⟨h1, h2⟩ := two_run xs i
  have hp := perm_run (p := 0) (xs := xs) (n := 2) (.inr (.inl rfl)) i
  unfold tchRunT tchT
  rw [h1]
  cases findN (tchRun 0 2 xs i).L (xs i) 2 with
  | some k => rfl
  | none =>
    have e := two_put (tchRun 0 2 xs i).L (tchRun 0 2 xs i).A (tchRun 1 2 xs i).R (tchRun 0 2 xs i).R hp
    show (⟨false, putW 1 2 _ (tchRun 1 2 xs i).A _, _⟩ : Tch) = ⟨false, _, _⟩
    rw [h2, e]

/-! the line touched last does not go -/
theorem argm_min (f : Nat → Int) (lo : Nat) : ∀ k j, lo ≤ j → j < lo + k → f (argm (fun i j => decide (f i < f j)) lo k) ≤ f j
  | 0, j, h1, h2 => by omega
  | k + 1, j, h1, h2 => by
    have ih := argm_min f lo k
    unfold argm
    by_cases h : f (lo + k) < f (argm (fun i j => decide (f i < f j)) lo k)
    · rw [if_pos (decide_eq_true h)]
      by_cases e : j = lo + k
      · subst e; exact Int.le_refl _
      · have := ih j h1 (by omega); omega
    · rw [if_neg (by simpa using h)]
      by_cases e : j = lo + k
      · subst e; omega
      · exact ih j h1 (by omega)

/-- no line stands twice; the line touched last stands where the age is 0 -/
structure Top (n : Nat) (L A : Nat → Int) (x : Int) : Prop where
  uniq : ∀ w w', w < n → w' < n → L w = L w' → L w = -1 ∨ w = w'
  top : ∃ u, u < n ∧ A u = 0 ∧ L u = x

theorem top_step (hn : Size n) {s : St} {x : Int} (hu : ∀ w w', w < n → w' < n → s.L w = s.L w' → s.L w = -1 ∨ w = w') : Top n (tchS p n x s).L (tchS p n x s).A x := by
  unfold tchS
  cases h : findN s.L x n with
  | some k =>
    obtain ⟨h1, h2, _⟩ := findN_some.1 h
    exact ⟨hu, k, h1, by show touchA n k s.A k = 0; unfold touchA; rw [if_pos rfl], h2⟩
  | none =>
    have hno := findN_none.1 h
    have hk := putW_lt (p := p) s.L s.A s.R hn
    generalize putW p n s.L s.A s.R = k at *
    show Top n (upd s.L k x) (touchA n k s.A) x
    refine ⟨fun w w' hw hw' e => ?_, k, hk, by unfold touchA; rw [if_pos rfl], by unfold upd; rw [if_pos rfl]⟩
    unfold upd at e ⊢
    by_cases e1 : w = k <;> by_cases e2 : w' = k
    · exact .inr (e1.trans e2.symm)
    · rw [if_pos e1, if_neg e2] at e; exact absurd e.symm (hno w' hw')
    · rw [if_neg e1, if_pos e2] at e; exact absurd e (hno w hw)
    · rw [if_neg e1, if_neg e2] at e; rw [if_neg e1]; exact hu w w' hw hw' e

theorem uniq_run (hn : Size n) : ∀ i w w', w < n → w' < n → (tchRun p n xs i).L w = (tchRun p n xs i).L w' → (tchRun p n xs i).L w = -1 ∨ w = w'
  | 0, w, w', hw, _, _ => .inl (by show newL n w = -1; unfold newL; rw [if_pos hw])
  | i + 1, w, w', hw, hw', e => (top_step hn (uniq_run hn i)).uniq w w' hw hw' e

theorem top_run (hn : Size n) (i : Nat) : Top n (tchRun p n xs (i + 1)).L (tchRun p n xs (i + 1)).A (xs i) := top_step hn (uniq_run hn i)

theorem leaf_ne (A : Nat → Int) (m u : Nat) (hu : argm (fun i j => decide (A i < A j)) 0 (2 ^ (m + 1)) = u) : leaf A (m + 1) 0 ≠ u := by
  unfold leaf
  rw [hu]
  by_cases h : u < 0 + 2 ^ m
  · rw [if_pos h]
    have := (leaf_bd A m (0 + 2 ^ m)).1
    omega
  · rw [if_neg h]
    have := (leaf_bd A m 0).2
    omega

theorem stays (hn : Size n) (h2 : 2 ≤ n) (hp : p ≤ 1) (hx : ∀ k, 0 ≤ xs k) (i : Nat) : (tchRunT p n xs (i + 1)).out ≠ xs i := by
  have hpm := perm_run (p := p) (xs := xs) hn (i + 1)
  obtain ⟨hu, u, hu1, hu2, hu3⟩ := top_run (p := p) (xs := xs) hn i
  have hxi := hx i
  unfold tchRunT tchT
  generalize tchRun p n xs (i + 1) = s at *
  cases h : findN s.L (xs (i + 1)) n with
  | some k => show (-1 : Int) ≠ xs i; omega
  | none =>
    show s.L (putW p n s.L s.A s.R) ≠ xs i
    cases he : findN s.L (-1) n with
    | some k =>
      obtain ⟨k1, k2, _⟩ := findN_some.1 he
      have : putW p n s.L s.A s.R = k := by unfold putW; rw [he]
      rw [this, k2]; omega
    | none =>
      have hno := findN_none.1 he
      have hW : putW p n s.L s.A s.R = victimW p n s.A s.R := by unfold putW; rw [he]
      rw [hW]
      have hv := victimW_lt (p := p) s.A s.R hn
      have hne : victimW p n s.A s.R ≠ u := by
        by_cases h0 : p = 0
        · subst h0
          intro e
          have := (hpm.oldest (by omega)).2
          have e' : oldestW n s.A = u := e
          rw [e', hu2] at this
          omega
        · have h1 : p = 1 := by omega
          subst h1
          have hy : argm (fun i j => decide (s.A i < s.A j)) 0 n = u := by
            have hy1 := argm_min s.A 0 n u (by omega) (by omega)
            have hy2 := argm_lt (fun i j => decide (s.A i < s.A j)) 0 n n (by omega) (by omega)
            have hy3 := (hpm.rng _ hy2).1
            exact hpm.inj _ _ hy2 hu1 (by omega)
          show leaf s.A (lg n) 0 ≠ u
          rcases hn with rfl | rfl | rfl | rfl
          · omega
          · exact leaf_ne s.A 0 u hy
          · exact leaf_ne s.A 1 u hy
          · exact leaf_ne s.A 2 u hy
      intro e
      rcases hu _ _ hv hu1 (e.trans hu3.symm) with h' | h'
      · exact hno _ hv h'
      · exact hne h'

end Go.Coh

/- Stamps and ages: the reference's set and the program's. Plain functions alone. -/
namespace Go.Coh

theorem findN_congr {L L' : Nat → Int} {x : Int} : ∀ {n : Nat}, (∀ j, j < n → L j = L' j) → findN L x n = findN L' x n
  | 0, _ => rfl
  | n + 1, h => by
    unfold findN
    rw [findN_congr (fun j hj => h j (by omega)), h n (by omega)]

theorem argm_shift (c : Nat → Nat → Bool) (lo a : Nat) : ∀ k, argm c (lo + a) k = lo + argm (fun i j => c (lo + i) (lo + j)) a k
  | 0 => rfl
  | k + 1 => by
    unfold argm
    rw [argm_shift c lo a k]
    have e : lo + a + k = lo + (a + k) := by omega
    rw [e]
    split <;> rfl

theorem argm_congr {c c' : Nat → Nat → Bool} {lo : Nat} : ∀ {k : Nat}, (∀ i j, lo ≤ i → i < lo + k → lo ≤ j → j < lo + k → c i j = c' i j) → argm c lo k = argm c' lo k
  | 0, _ => rfl
  | k + 1, h => by
    unfold argm
    have ih := argm_congr (c := c) (c' := c') (lo := lo) (k := k) (fun i j h1 h2 h3 h4 => h i j h1 (by omega) h3 (by omega))
    rw [ih]
    have hb := argm_bd c' lo k
    rw [h (lo + k) (argm c' lo k) (by omega) (by omega) hb.1 (by omega)]

theorem leaf_shift (A : Nat → Int) (lo : Nat) : ∀ m a, leaf A m (lo + a) = lo + leaf (fun j => A (lo + j)) m a
  | 0, _ => rfl
  | m + 1, a => by
    unfold leaf
    rw [argm_shift]
    have e : ∀ y, (lo + y < lo + a + 2 ^ m) = (y < a + 2 ^ m) := fun y => by rw [eq_iff_iff]; omega
    simp only [e]
    split
    · rw [show lo + a + 2 ^ m = lo + (a + 2 ^ m) by omega, leaf_shift A lo m]
    · exact leaf_shift A lo m a

theorem leaf_congr {A A' : Nat → Int} : ∀ {m a : Nat}, (∀ i j, a ≤ i → i < a + 2 ^ m → a ≤ j → j < a + 2 ^ m → (A i < A j ↔ A' i < A' j)) → leaf A m a = leaf A' m a
  | 0, _, _ => rfl
  | m + 1, a, h => by
    have h2 : 2 ^ (m + 1) = 2 ^ m + 2 ^ m := by rw [Nat.pow_succ]; omega
    unfold leaf
    have e : argm (fun i j => decide (A i < A j)) a (2 ^ (m + 1)) = argm (fun i j => decide (A' i < A' j)) a (2 ^ (m + 1)) :=
      argm_congr (fun i j h1 h2 h3 h4 => by rw [Bool.eq_iff_iff]; simp only [decide_eq_true_eq]; exact h i j h1 h2 h3 h4)
    rw [e]
    split
    · exact leaf_congr (fun i j h1 h3 h4 h5 => h i j (by omega) (by omega) (by omega) (by omega))
    · exact leaf_congr (fun i j h1 h3 h4 h5 => h i j (by omega) (by omega) (by omega) (by omega))

/-- The n ways from lo on, as the reference has them (lines, stamps, ranks), against lines, ages and ranks. -/
structure SetRel (lo n : Nat) (L A R rL rT rR : Nat → Int) (clock : Int) : Prop where
  l : ∀ j, j < n → rL (lo + j) = L j
  r : ∀ j, j < n → rR (lo + j) = R j
  perm : Perm n A
  ord : ∀ j j', j < n → j' < n → rT (lo + j) < rT (lo + j') → A j' < A j
  dist : ∀ j j', j < n → j' < n → rT (lo + j) = rT (lo + j') → rT (lo + j) = 0 ∨ j = j'
  tb : ∀ j, j < n → 0 ≤ rT (lo + j) ∧ rT (lo + j) ≤ clock
  pos : ∀ j, j < n → L j ≠ -1 → 0 < rT (lo + j)

section
variable {lo n : Nat} {L A R rL rT rR : Nat → Int} {clock : Int}

theorem SetRel.find (h : SetRel lo n L A R rL rT rR clock) (x : Int) : findN (fun j => rL (lo + j)) x n = findN L x n := findN_congr h.l

/-- where no way is empty, stamps and ages are two ways to say the same -/
theorem SetRel.cmp (h : SetRel lo n L A R rL rT rR clock) (hfull : ∀ j, j < n → L j ≠ -1) {i j : Nat} (hi : i < n) (hj : j < n) : rT (lo + i) < rT (lo + j) ↔ A j < A i := by
  constructor
  · exact h.ord i j hi hj
  · intro ha
    by_cases e : rT (lo + i) < rT (lo + j)
    · exact e
    · exfalso
      by_cases e2 : rT (lo + j) < rT (lo + i)
      · have := h.ord j i hj hi e2; omega
      · have e3 : rT (lo + i) = rT (lo + j) := by omega
        have := h.pos i hi (hfull i hi)
        rcases h.dist i j hi hj e3 with h0 | h0
        · omega
        · subst h0; omega

theorem SetRel.touch (h : SetRel lo n L A R rL rT rR clock) {k : Nat} (hk : k < n) (hc : 0 ≤ clock) {L' R' rL' rR' : Nat → Int}
    (hl : ∀ j, j < n → rL' (lo + j) = L' j) (hr : ∀ j, j < n → rR' (lo + j) = R' j) (hpos : ∀ j, j < n → j ≠ k → L' j ≠ -1 → L j ≠ -1) :
    SetRel lo n L' (touchA n k A) R' rL' (upd rT (lo + k) (clock + 1)) rR' (clock + 1) := by
  have up : ∀ j, j < n → upd rT (lo + k) (clock + 1) (lo + j) = if j = k then clock + 1 else rT (lo + j) := fun j _ => by
    unfold upd
    by_cases e : j = k
    · rw [if_pos (by omega), if_pos e]
    · rw [if_neg (by omega), if_neg e]
  have ak := h.perm.rng k hk
  refine ⟨hl, hr, h.perm.touch hk, fun j j' hj hj' hlt => ?_, fun j j' hj hj' he => ?_, fun j hj => ?_, fun j hj hne => ?_⟩
  · rw [up j hj, up j' hj'] at hlt
    have tj := h.tb j hj
    have tj' := h.tb j' hj'
    have aj := h.perm.rng j hj
    have aj' := h.perm.rng j' hj'
    unfold touchA
    by_cases e : j = k
    · rw [if_pos e] at hlt
      by_cases e' : j' = k
      · rw [if_pos e'] at hlt; omega
      · rw [if_neg e'] at hlt; omega
    · rw [if_neg e] at hlt
      have nj : A j ≠ A k := fun e1 => e (h.perm.inj j k hj hk e1)
      by_cases e' : j' = k
      · rw [if_pos e', if_neg e]
        split <;> omega
      · rw [if_neg e'] at hlt
        have ho := h.ord j j' hj hj' hlt
        have nj' : A j' ≠ A k := fun e1 => e' (h.perm.inj j' k hj' hk e1)
        rw [if_neg e', if_neg e]
        split <;> split <;> omega
  · rw [up j hj, up j' hj'] at he
    rw [up j hj]
    have tj := h.tb j hj
    have tj' := h.tb j' hj'
    by_cases e : j = k
    · rw [if_pos e] at he ⊢
      by_cases e' : j' = k
      · exact .inr (e.trans e'.symm)
      · rw [if_neg e'] at he; omega
    · rw [if_neg e] at he ⊢
      by_cases e' : j' = k
      · rw [if_pos e'] at he; omega
      · rw [if_neg e'] at he; exact h.dist j j' hj hj' he
  · rw [up j hj]
    have tj := h.tb j hj
    split <;> omega
  · rw [up j hj]
    by_cases e : j = k
    · rw [if_pos e]; omega
    · rw [if_neg e]; exact h.pos j hj (hpos j hj e hne)

theorem SetRel.ranked (h : SetRel lo n L A R rL rT rR clock) : argm (fun i j => decide (rR j < rR i)) lo n = lo + oldestW n R := by
  have := argm_shift (fun i j => decide (rR j < rR i)) lo 0 n
  rw [Nat.add_zero] at this
  rw [this]
  congr 1
  exact argm_congr (fun i j h1 h2 h3 h4 => by rw [h.r i (by omega), h.r j (by omega)])

theorem SetRel.victim (h : SetRel lo n L A R rL rT rR clock) (hn : Size n) (hfull : ∀ j, j < n → L j ≠ -1) (p : Nat) :
    (if p = 0 then argm (fun i j => decide (rT i < rT j)) lo n else if p = 1 then leaf (fun i => - rT i) (lg n) lo else argm (fun i j => decide (rR j < rR i)) lo n) = lo + victimW p n A R := by
  unfold victimW
  by_cases p0 : p = 0
  · rw [if_pos p0, if_pos p0]
    have := argm_shift (fun i j => decide (rT i < rT j)) lo 0 n
    rw [Nat.add_zero] at this
    rw [this]
    congr 1
    exact argm_congr (fun i j h1 h2 h3 h4 => by rw [Bool.eq_iff_iff]; simp only [decide_eq_true_eq]; exact h.cmp hfull (by omega) (by omega))
  · rw [if_neg p0, if_neg p0]
    by_cases p1 : p = 1
    · rw [if_pos p1, if_pos p1]
      have := leaf_shift (fun i => - rT i) lo (lg n) 0
      rw [Nat.add_zero] at this
      rw [this]
      congr 1
      have e : 2 ^ lg n = n := by rcases hn with rfl | rfl | rfl | rfl <;> rfl
      refine leaf_congr (fun i j h1 h2 h3 h4 => ?_)
      rw [e] at h2 h4
      have := h.cmp hfull (i := j) (j := i) (by omega) (by omega)
      rw [← this]
      omega
    · rw [if_neg p1, if_neg p1]
      exact h.ranked

theorem SetRel.new (lo n : Nat) : SetRel lo n (newL n) (newA n) (fun _ => 0) (fun _ => -1) (fun _ => 0) (fun _ => 0) 0 :=
  ⟨fun j hj => by unfold newL; rw [if_pos hj], fun _ _ => rfl, Perm.new n, fun j j' _ _ h => by omega, fun _ _ _ _ _ => .inl rfl, fun _ _ => by omega, fun j hj h => by unfold newL at h; rw [if_pos hj] at h; omega⟩
end

/-- one touch, as the reference does it -/
def RC.tchS (s : RC) (x : Int) : RC := match s.find x with
  | some j => s.found (s.lo x + j)
  | none => (s.roomS x).put (s.roomW x) x
def RC.tchT (s : RC) (x : Int) : Tch := match s.find x with
  | some j => ⟨true, s.lo x + j, -1⟩
  | none => ⟨false, s.roomW x, s.roomOut x⟩

end Go.Coh
