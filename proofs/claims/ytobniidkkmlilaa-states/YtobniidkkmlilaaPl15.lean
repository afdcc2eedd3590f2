import Derived.Test.YtobniidkkmlilaaPl14

/- With Oldest a touch is a hit just if fewer different lines than ways were touched since. Plain functions alone. -/
namespace Go.Coh

/-- how many lines were touched later than x, of the first i touches -/
def rk (xs : Nat → Int) : Nat → Int → Option Nat
  | 0, _ => none
  | i + 1, x => if x = xs i then some 0 else match rk xs i x with
    | none => none
    | some r => some (match rk xs i (xs i) with
      | some r' => if r' < r then r else r + 1
      | none => r + 1)

theorem rk_self (xs : Nat → Int) (i : Nat) : rk xs (i + 1) (xs i) = some 0 := by unfold rk; rw [if_pos rfl]
theorem rk_none (xs : Nat → Int) (i : Nat) (x : Int) (hx : x ≠ xs i) (h : rk xs i x = none) : rk xs (i + 1) x = none := by unfold rk; rw [if_neg hx, h]
theorem rk_up (xs : Nat → Int) (i : Nat) (x : Int) (r : Nat) (hx : x ≠ xs i) (h : rk xs i x = some r) (h' : ∀ r', rk xs i (xs i) = some r' → ¬ r' < r) : rk xs (i + 1) x = some (r + 1) := by
  unfold rk
  rw [if_neg hx, h]
  cases hy : rk xs i (xs i) with
  | none => rfl
  | some r' => show some (if r' < r then r else r + 1) = _; rw [if_neg (h' r' hy)]
theorem rk_stay (xs : Nat → Int) (i : Nat) (x : Int) (r r' : Nat) (hx : x ≠ xs i) (h : rk xs i x = some r) (hy : rk xs i (xs i) = some r') (h' : r' < r) : rk xs (i + 1) x = some r := by
  unfold rk
  rw [if_neg hx, h, hy]
  show some (if r' < r then r else r + 1) = _
  rw [if_pos h']

theorem rk_inj (xs : Nat → Int) : ∀ i x y r, rk xs i x = some r → rk xs i y = some r → x = y
  | 0, x, y, r, h, _ => by cases h
  | i + 1, x, y, r, h, h' => by
    have ih := rk_inj xs i
    by_cases ex : x = xs i <;> by_cases ey : y = xs i
    · rw [ex, ey]
    · exfalso
      subst ex
      rw [rk_self] at h
      injection h with h
      subst h
      cases hy : rk xs i y with
      | none => rw [rk_none xs i y ey hy] at h'; cases h'
      | some s =>
        by_cases hc : ∃ r', rk xs i (xs i) = some r' ∧ r' < s
        · obtain ⟨r', h1, h2⟩ := hc
          rw [rk_stay xs i y s r' ey hy h1 h2] at h'
          injection h' with h'
          omega
        · rw [rk_up xs i y s ey hy (fun r' h1 h2 => hc ⟨r', h1, h2⟩)] at h'
          injection h' with h'
          omega
    · exfalso
      subst ey
      rw [rk_self] at h'
      injection h' with h'
      subst h'
      cases hy : rk xs i x with
      | none => rw [rk_none xs i x ex hy] at h; cases h
      | some s =>
        by_cases hc : ∃ r', rk xs i (xs i) = some r' ∧ r' < s
        · obtain ⟨r', h1, h2⟩ := hc
          rw [rk_stay xs i x s r' ex hy h1 h2] at h
          injection h with h
          omega
        · rw [rk_up xs i x s ex hy (fun r' h1 h2 => hc ⟨r', h1, h2⟩)] at h
          injection h with h
          omega
    · cases hx : rk xs i x with
      | none => rw [rk_none xs i x ex hx] at h; cases h
      | some s =>
        cases hy : rk xs i y with
        | none => rw [rk_none xs i y ey hy] at h'; cases h'
        | some t =>
          by_cases hc : ∃ r', rk xs i (xs i) = some r' ∧ r' < s
          · obtain ⟨r', h1, h2⟩ := hc
            rw [rk_stay xs i x s r' ex hx h1 h2] at h
            injection h with h
            by_cases hd : r' < t
            · rw [rk_stay xs i y t r' ey hy h1 hd] at h'
              injection h' with h'
              exact ih x y s hx (by rw [hy]; congr 1; omega)
            · rw [rk_up xs i y t ey hy (fun r'' e1 e2 => by rw [h1] at e1; injection e1 with e1; omega)] at h'
              injection h' with h'
              have : t = r' := by omega
              subst this
              exact absurd (ih y (xs i) t hy h1) ey
          · rw [rk_up xs i x s ex hx (fun r' h1 h2 => hc ⟨r', h1, h2⟩)] at h
            injection h with h
            by_cases hd : ∃ r', rk xs i (xs i) = some r' ∧ r' < t
            · obtain ⟨r', h1, h2⟩ := hd
              rw [rk_stay xs i y t r' ey hy h1 h2] at h'
              injection h' with h'
              have hns : ¬ r' < s := fun h2 => hc ⟨r', h1, h2⟩
              have : s = r' := by omega
              subst this
              exact absurd (ih x (xs i) s hx h1) ex
            · rw [rk_up xs i y t ey hy (fun r' h1 h2 => hd ⟨r', h1, h2⟩)] at h'
              injection h' with h'
              exact ih x y s hx (by rw [hy]; congr 1; omega)

/-- the ages are 0, 1, .., n - 1 -/
structure Perm (n : Nat) (A : Nat → Int) : Prop where
  rng : ∀ w, w < n → 0 ≤ A w ∧ A w < n
  inj : ∀ w w', w < n → w' < n → A w = A w' → w = w'
  sur : ∀ r : Nat, r < n → ∃ w, w < n ∧ A w = r

theorem Perm.touch {n k : Nat} {A : Nat → Int} (h : Perm n A) (hk : k < n) : Perm n (touchA n k A) := by
  have ak := h.rng k hk
  refine ⟨fun w hw => ?_, fun w w' hw hw' e => ?_, fun r hr => ?_⟩
  · have aw := h.rng w hw
    unfold touchA
    split
    · omega
    · split <;> omega
  · have aw := h.rng w hw
    have aw' := h.rng w' hw'
    by_cases hne : w = w'
    · exact hne
    · exfalso
      have n1 : A w ≠ A w' := fun e => hne (h.inj w w' hw hw' e)
      have n2 : w ≠ k → A w ≠ A k := fun ne e => ne (h.inj w k hw hk e)
      have n3 : w' ≠ k → A w' ≠ A k := fun ne e => ne (h.inj w' k hw' hk e)
      unfold touchA at e
      by_cases e1 : w = k
      · have e2 : w' ≠ k := fun e2 => hne (e1.trans e2.symm)
        have n3' := n3 e2
        rw [if_pos e1, if_neg e2] at e
        split at e <;> omega
      · have n2' := n2 e1
        rw [if_neg e1] at e
        by_cases e2 : w' = k
        · rw [if_pos e2] at e
          split at e <;> omega
        · have n3' := n3 e2
          rw [if_neg e2] at e
          split at e <;> split at e <;> omega
  · by_cases h0 : r = 0
    · exact ⟨k, hk, by unfold touchA; rw [if_pos rfl, h0]; rfl⟩
    · by_cases h1 : (r : Int) ≤ A k
      · obtain ⟨w, hw, e⟩ := h.sur (r - 1) (by omega)
        refine ⟨w, hw, ?_⟩
        unfold touchA
        rw [if_neg (fun e1 => by subst e1; omega), if_pos ⟨hw, by omega⟩]
        omega
      · obtain ⟨w, hw, e⟩ := h.sur r hr
        refine ⟨w, hw, ?_⟩
        unfold touchA
        rw [if_neg (fun e1 => by subst e1; omega), if_neg (by omega)]
        omega

theorem Perm.oldest {n : Nat} {A : Nat → Int} (h : Perm n A) (hn : 0 < n) : oldestW n A < n ∧ A (oldestW n A) = (n - 1 : Nat) := by
  have hlt : oldestW n A < n := argm_lt _ _ _ _ (by omega) hn
  refine ⟨hlt, ?_⟩
  obtain ⟨w, hw, e⟩ := h.sur (n - 1) (by omega)
  have h1 : A w ≤ A (oldestW n A) := argm_max A 0 n w (by omega) (by omega)
  have h2 := h.rng _ hlt
  omega

theorem Perm.new (n : Nat) : Perm n (newA n) := by
  refine ⟨fun w hw => ?_, fun w w' hw hw' e => ?_, fun r hr => ⟨r, hr, ?_⟩⟩
  · unfold newA; rw [if_pos hw]; omega
  · unfold newA at e; rw [if_pos hw, if_pos hw'] at e; omega
  · unfold newA; rw [if_pos hr]

end Go.Coh

/- One way; two ways; the line touched last. Plain functions alone. -/
namespace Go.Coh

variable {n p i : Nat} {xs : Nat → Int}

/-! one way -/
def oneT (xs : Nat → Int) (i : Nat) : Tch := if i = 0 then ⟨false, 0, -1⟩ else if xs i = xs (i - 1) then ⟨true, 0, -1⟩ else ⟨false, 0, xs (i - 1)⟩

theorem one_put (p : Nat) (L A R : Nat → Int) : putW p 1 L A R = 0 := by
  have := putW_lt (p := p) L A R (.inl rfl)
  omega

theorem one_step (p : Nat) (x : Int) (s : St) : (tchS p 1 x s).L 0 = x := by
  unfold tchS
  cases h : findN s.L x 1 with
  | some k =>
    obtain ⟨h1, h2, _⟩ := findN_some.1 h
    rw [show k = 0 by omega] at h2
    exact h2
  | none =>
    show upd s.L _ x 0 = x
    rw [one_put]; rfl

theorem one_L (p : Nat) (xs : Nat → Int) : ∀ i, (tchRun p 1 xs i).L 0 = if i = 0 then -1 else xs (i - 1)
  | 0 => rfl
  | i + 1 => by
    show (tchS p 1 (xs i) (tchRun p 1 xs i)).L 0 = _
    rw [one_step]; simp

theorem one_T (p : Nat) (hx : ∀ k, 0 ≤ xs k) (i : Nat) : tchRunT p 1 xs i = oneT xs i := by
  have hL := one_L p xs i
  unfold tchRunT tchT oneT
  cases h : findN (tchRun p 1 xs i).L (xs i) 1 with
  | some k =>
    obtain ⟨h1, h2, _⟩ := findN_some.1 h
    have hk : k = 0 := by omega
    subst hk
    rw [hL] at h2
    by_cases e : i = 0
    · rw [if_pos e] at h2; have := hx i; omega
    · rw [if_neg e] at h2 ⊢
      rw [if_pos h2.symm]
  | none =>
    have hn := findN_none.1 h 0 (by omega)
    rw [hL] at hn
    show (⟨false, putW p 1 _ _ _, (tchRun p 1 xs i).L (putW p 1 _ _ _)⟩ : Tch) = _
    rw [one_put, hL]
    by_cases e : i = 0
    · rw [if_pos e, if_pos e]
    · rw [if_neg e] at hn ⊢
      rw [if_neg e, if_neg (fun e' => hn e'.symm)]

/-! the ages stay a permutation, whatever the policy -/
theorem perm_run (hn : Size n) : ∀ i, Perm n (tchRun p n xs i).A
  | 0 => Perm.new n
  | i + 1 => by
    have ih := perm_run hn i
    show Perm n (tchS p n (xs i) (tchRun p n xs i)).A
    unfold tchS
    cases h : findN (tchRun p n xs i).L (xs i) n with
    | some k => exact ih.touch (findN_some.1 h).1
    | none => exact ih.touch (putW_lt _ _ _ hn)

/-! two ways -/
theorem two_victim (A R R' : Nat → Int) (h : Perm 2 A) : victimW 1 2 A R = victimW 0 2 A R' := by
  have hne : A 0 ≠ A 1 := fun e => absurd (h.inj 0 1 (by omega) (by omega) e) (by omega)
  have e0 : victimW 0 2 A R' = if A 0 < A 1 then 1 else 0 := by
    show argm (fun i j => decide (A j < A i)) 0 2 = _
    simp [argm]
  have e1 : victimW 1 2 A R = if A 1 < A 0 then 0 else 1 := by
    show leaf A 1 0 = _
    simp [leaf, argm]
    by_cases h1 : A 1 < A 0
    · simp [h1]
    · simp [h1]
  rw [e0, e1]
  by_cases h1 : A 0 < A 1
  · rw [if_pos h1, if_neg (by omega)]
  · rw [if_neg h1, if_pos (by omega)]

theorem two_put (L A R R' : Nat → Int) (h : Perm 2 A) : putW 1 2 L A R = putW 0 2 L A R' := by
  unfold putW
  cases findN L (-1) 2 with
  | some k => rfl
  | none => exact two_victim A R R' h

theorem two_run (xs : Nat → Int) : ∀ i, (tchRun 1 2 xs i).L = (tchRun 0 2 xs i).L ∧ (tchRun 1 2 xs i).A = (tchRun 0 2 xs i).A
  | 0 => ⟨rfl, rfl⟩
  | i + 1 => by
    obtain ⟨h1, h2⟩ := two_run xs i
    have hp := perm_run (p := 0) (xs := xs) (n := 2) (.inr (.inl rfl)) i
    show (tchS 1 2 (xs i) (tchRun 1 2 xs i)).L = (tchS 0 2 (xs i) (tchRun 0 2 xs i)).L ∧ (tchS 1 2 (xs i) (tchRun 1 2 xs i)).A = (tchS 0 2 (xs i) (tchRun 0 2 xs i)).A
    unfold tchS
    rw [h1]
    cases findN (tchRun 0 2 xs i).L (xs i) 2 with
    | some k => exact ⟨rfl, by show touchA 2 k _ = touchA 2 k _; rw [h2]⟩
    | none =>
      have e := two_put (tchRun 0 2 xs i).L (tchRun 0 2 xs i).A (tchRun 1 2 xs i).R (tchRun 0 2 xs i).R hp
      constructor
      · show upd _ (putW 1 2 _ (tchRun 1 2 xs i).A _) _ = upd _ _ _
        rw [h2, e]
      · show touchA 2 (putW 1 2 _ (tchRun 1 2 xs i).A _) (tchRun 1 2 xs i).A = touchA 2 _ _
        rw [h2, e]

theorem two_T (xs : Nat → Int) (i : Nat) : tchRunT 1 2 xs i = tchRunT 0 2 xs i := by
  obtain ⟨h1, h2⟩ := two_run xs i
  have hp := perm_run (p := 0) (xs := xs) (n := 2) (.inr (.inl rfl)) i
  unfold tchRunT tchT
  rw [h1]
  cases findN (tchRun 0 2 xs i).L (xs i) 2 with
  | some k => rfl
  | none =>
    have e := two_put (tchRun 0 2 xs i).L (tchRun 0 2 xs i).A (tchRun 1 2 xs i).R (tchRun 0 2 xs i).R hp
    show (⟨false, putW 1 2 _ (tchRun 1 2 xs i).A _, _⟩ : Tch) = ⟨false, _, _⟩
    rw [h2, e]

/-! the line touched last does not go -/
theorem argm_min (f : Nat → Int) (lo : Nat) : ∀ k j, lo ≤ j → j < lo + k → f (argm (fun i j => decide (f i < f j)) lo k) ≤ f j
  | 0, j, h1, h2 => by omega
  | k + 1, j, h1, h2 => by
    have ih := argm_min f lo k
    unfold argm
    by_cases h : f (lo + k) < f (argm (fun i j => decide (f i < f j)) lo k)
    · rw [if_pos (decide_eq_true h)]
      by_cases e : j = lo + k
      · subst e; exact Int.le_refl _
      · have := ih j h1 (by omega); omega
    · rw [if_neg (by simpa using h)]
      by_cases e : j = lo + k
      · subst e; omega
      · exact ih j h1 (by omega)

/-- no line stands twice; the line touched last stands where the age is 0 -/
structure Top (n : Nat) (L A : Nat → Int) (x : Int) : Prop where
  uniq : ∀ w w', w < n → w' < n → L w = L w' → L w = -1 ∨ w = w'
  top : ∃ u, u < n ∧ A u = 0 ∧ L u = x

theorem top_step (hn : Size n) {s : St} {x : Int} (hu : ∀ w w', w < n → w' < n → s.L w = s.L w' → s.L w = -1 ∨ w = w') : Top n (tchS p n x s).L (tchS p n x s).A x := by
  unfold tchS
  cases h : findN s.L x n with
  | some k =>
    obtain ⟨h1, h2, _⟩ := findN_some.1 h
    exact ⟨hu, k, h1, by show touchA n k s.A k = 0; unfold touchA; rw [if_pos rfl], h2⟩
  | none =>
    have hno := findN_none.1 h
    have hk := putW_lt (p := p) s.L s.A s.R hn
    generalize putW p n s.L s.A s.R = k at *
    show Top n (upd s.L k x) (touchA n k s.A) x
    refine ⟨fun w w' hw hw' e => ?_, k, hk, by unfold touchA; rw [if_pos rfl], by unfold upd; rw [if_pos rfl]⟩
    unfold upd at e ⊢
    by_cases e1 : w = k <;> by_cases e2 : w' = k
    · exact .inr (e1.trans e2.symm)
    · rw [if_pos e1, if_neg e2] at e; exact absurd e.symm (hno w' hw')
    · rw [if_neg e1, if_pos e2] at e; exact absurd e (hno w hw)
    · rw [if_neg e1, if_neg e2] at e; rw [if_neg e1]; exact hu w w' hw hw' e

theorem uniq_run (hn : Size n) : ∀ i w w', w < n → w' < n → (tchRun p n xs i).L w = (tchRun p n xs i).L w' → (tchRun p n xs i).L w = -1 ∨ w = w'
  | 0, w, w', hw, _, _ => .inl (by show newL n w = -1; unfold newL; rw [if_pos hw])
  | i + 1, w, w', hw, hw', e => (top_step hn (uniq_run hn i)).uniq w w' hw hw' e

theorem top_run (hn : Size n) (i : Nat) : Top n (tchRun p n xs (i + 1)).L (tchRun p n xs (i + 1)).A (xs i) := top_step hn (uniq_run hn i)

theorem leaf_ne (A : Nat → Int) (m u : Nat) (hu : argm (fun i j => decide (A i < A j)) 0 (2 ^ (m + 1)) = u) : leaf A (m + 1) 0 ≠ u := by
  unfold leaf
  rw [hu]
  by_cases h : u < 0 + 2 ^ m
  · rw [if_pos h]
    have := (leaf_bd A m (0 + 2 ^ m)).1
    omega
  · rw [if_neg h]
    have := (leaf_bd A m 0).2
    omega

theorem stays (hn : Size n) (h2 : 2 ≤ n) (hp : p ≤ 1) (hx : ∀ k, 0 ≤ xs k) (i : Nat) : (tchRunT p n xs (i + 1)).out ≠ xs i := by
  have hpm := perm_run (p := p) (xs := xs) hn (i + 1)
  obtain ⟨hu, u, hu1, hu2, hu3⟩ := top_run (p := p) (xs := xs) hn i
  have hxi := hx i
  unfold tchRunT tchT
  generalize tchRun p n xs (i + 1) = s at *
  cases h : findN s.L (xs (i + 1)) n with
  | some k => show (-1 : Int) ≠ xs i; omega
  | none =>
    show s.L (putW p n s.L s.A s.R) ≠ xs i
    cases he : findN s.L (-1) n with
    | some k =>
      obtain ⟨k1, k2, _⟩ := findN_some.1 he
      have : putW p n s.L s.A s.R = k := by unfold putW; rw [he]
      rw [this, k2]; omega
    | none =>
      have hno := findN_none.1 he
      have hW : putW p n s.L s.A s.R = victimW p n s.A s.R := by unfold putW; rw [he]
      rw [hW]
      have hv := victimW_lt (p := p) s.A s.R hn
      have hne : victimW p n s.A s.R ≠ u := by
        by_cases h0 : p = 0
        · subst h0
          intro e
          have := (hpm.oldest (by omega)).2
          have e' : oldestW n s.A = u := e
          rw [e', hu2] at this
          omega
        · have h1 : p = 1 := by omega
          subst h1
          have hy : argm (fun i j => decide (s.A i < s.A j)) 0 n = u := by
            have hy1 := argm_min s.A 0 n u (by omega) (by omega)
            have hy2 := argm_lt (fun i j => decide (s.A i < s.A j)) 0 n n (by omega) (by omega)
            have hy3 := (hpm.rng _ hy2).1
            exact hpm.inj _ _ hy2 hu1 (by omega)
          show leaf s.A (lg n) 0 ≠ u
          rcases hn with rfl | rfl | rfl | rfl
          · omega
          · exact leaf_ne s.A 0 u hy
          · exact leaf_ne s.A 1 u hy
          · exact leaf_ne s.A 2 u hy
      intro e
      rcases hu _ _ hv hu1 (e.trans hu3.symm) with h' | h'
      · exact hno _ hv h'
      · exact hne h'

end Go.Coh
