/- With Oldest a touch is a hit just if fewer different lines than ways were touched since. Plain functions alone. -/
import Derived.Test.YtobniidkkmlilaaPr
namespace Go.Coh

/-- how many lines were touched later than x, of the first i touches -/
def rk (xs : Nat → Int) : Nat → Int → Option Nat
  | 0, _ => none
  | i + 1, x => if x = xs i then some 0 else match rk xs i x with
    | none => none
    | some r => some (match rk xs i (xs i) with
      | some r' => if r' < r then r else r + 1
      | none => r + 1)

theorem rk_self (xs : Nat → Int) (i : Nat) : rk xs (i + 1) (xs i) = some 0 := by unfold rk; rw [if_pos rfl]
theorem rk_none (xs : Nat → Int) (i : Nat) (x : Int) (hx : x ≠ xs i) (h : rk xs i x = none) : rk xs (i + 1) x = none := by unfold rk; rw [if_neg hx, h]
theorem rk_up (xs : Nat → Int) (i : Nat) (x : Int) (r : Nat) (hx : x ≠ xs i) (h : rk xs i x = some r) (h' : ∀ r', rk xs i (xs i) = some r' → ¬ r' < r) : rk xs (i + 1) x = some (r + 1) := by
  unfold rk
  rw [if_neg hx, h]
  cases hy : rk xs i (xs i) with
  | none => rfl
  | some r' => show some (if r' < r then r else r + 1) = _; rw [if_neg (h' r' hy)]
theorem rk_stay (xs : Nat → Int) (i : Nat) (x : Int) (r r' : Nat) (hx : x ≠ xs i) (h : rk xs i x = some r) (hy : rk xs i (xs i) = some r') (h' : r' < r) : rk xs (i + 1) x = some r := by
  unfold rk
  rw [if_neg hx, h, hy]
  show some (if r' < r then r else r + 1) = _
  rw [if_pos h']

theorem rk_inj (xs : Nat → Int) : ∀ i x y r, rk xs i x = some r → rk xs i y = some r → x = y
  | 0, x, y, r, h, _ => by cases h
  | i + 1, x, y, r, h, h' => by
    have ih := rk_inj xs i
    by_cases ex : x = xs i <;> by_cases ey : y = xs i
    · rw [ex, ey]
    · exfalso
      subst ex
      rw [rk_self] at h
      injection h with h
      subst h
      cases hy : rk xs i y with
      | none => rw [rk_none xs i y ey hy] at h'; cases h'
      | some s =>
        by_cases hc : ∃ r', rk xs i (xs i) = some r' ∧ r' < s
        · obtain ⟨r', h1, h2⟩ := hc
          rw [rk_stay xs i y s r' ey hy h1 h2] at h'
          injection h' with h'
          omega
        · rw [rk_up xs i y s ey hy (fun r' h1 h2 => hc ⟨r', h1, h2⟩)] at h'
          injection h' with h'
          omega
    · exfalso
      subst ey
      rw [rk_self] at h'
      injection h' with h'
      subst h'
      cases hy : rk xs i x with
      | none => rw [rk_none xs i x ex hy] at h; cases h
      | some s =>
        by_cases hc : ∃ r', rk xs i (xs i) = some r' ∧ r' < s
        · obtain ⟨r', h1, h2⟩ := hc
          rw [rk_stay xs i x s r' ex hy h1 h2] at h
          injection h with h
          omega
        · rw [rk_up xs i x s ex hy (fun r' h1 h2 => hc ⟨r', h1, h2⟩)] at h
          injection h with h
          omega
    · cases hx : rk xs i x with
      | none => rw [rk_none xs i x ex hx] at h; cases h
      | some s =>
        cases hy : rk xs i y with
        | none => rw [rk_none xs i y ey hy] at h'; cases h'
        | some t =>
          by_cases hc : ∃ r', rk xs i (xs i) = some r' ∧ r' < s
          · obtain ⟨r', h1, h2⟩ := hc
            rw [rk_stay xs i x s r' ex hx h1 h2] at h
            injection h with h
            by_cases hd : r' < t
            · rw [rk_stay xs i y t r' ey hy h1 hd] at h'
              injection h' with h'
              exact ih x y s hx (by rw [hy]; congr 1; omega)
            · rw [rk_up xs i y t ey hy (fun r'' e1 e2 => by rw [h1] at e1; injection e1 with e1; omega)] at h'
              injection h' with h'
              have : t = r' := by omega
              subst this
              exact absurd (ih y (xs i) t hy h1) ey
          · rw [rk_up xs i x s ex hx (fun r' h1 h2 => hc ⟨r', h1, h2⟩)] at h
            injection h with h
            by_cases hd : ∃ r', rk xs i (xs i) = some r' ∧ r' < t
            · obtain ⟨r', h1, h2⟩ := hd
              rw [rk_stay xs i y t r' ey hy h1 h2] at h'
              injection h' with h'
              have hns : ¬ r' < s := fun h2 => hc ⟨r', h1, h2⟩
              have : s = r' := by omega
              subst this
              exact absurd (ih x (xs i) s hx h1) ex
            · rw [rk_up xs i y t ey hy (fun r' h1 h2 => hd ⟨r', h1, h2⟩)] at h'
              injection h' with h'
              exact ih x y s hx (by rw [hy]; congr 1; omega)

/-- the ages are 0, 1, .., n - 1 -/
structure Perm (n : Nat) (A : Nat → Int) : Prop where
  rng : ∀ w, w < n → 0 ≤ A w ∧ A w < n
  inj : ∀ w w', w < n → w' < n → A w = A w' → w = w'
  sur : ∀ r : Nat, r < n → ∃ w, w < n ∧ A w = r

theorem Perm.touch {n k : Nat} {A : Nat → Int} (h : Perm n A) (hk : k < n) : Perm n (touchA n k A) := by
  have ak := h.rng k hk
  refine ⟨fun w hw => ?_, fun w w' hw hw' e => ?_, fun r hr => ?_⟩
  · have aw := h.rng w hw
    unfold touchA
    split
    · omega
    · split <;> omega
  · have aw := h.rng w hw
    have aw' := h.rng w' hw'
    by_cases hne : w = w'
    · exact hne
    · exfalso
      have n1 : A w ≠ A w' := fun e => hne (h.inj w w' hw hw' e)
      have n2 : w ≠ k → A w ≠ A k := fun ne e => ne (h.inj w k hw hk e)
      have n3 : w' ≠ k → A w' ≠ A k := fun ne e => ne (h.inj w' k hw' hk e)
      unfold touchA at e
      by_cases e1 : w = k
      · have e2 : w' ≠ k := fun e2 => hne (e1.trans e2.symm)
        have n3' := n3 e2
        rw [if_pos e1, if_neg e2] at e
        split at e <;> omega
      · have n2' := n2 e1
        rw [if_neg e1] at e
        by_cases e2 : w' = k
        · rw [if_pos e2] at e
          split at e <;> omega
        · have n3' := n3 e2
          rw [if_neg e2] at e
          split at e <;> split at e <;> omega
  · by_cases h0 : r = 0
    · exact ⟨k, hk, by unfold touchA; rw [if_pos rfl, h0]; rfl⟩
    · by_cases h1 : (r : Int) ≤ A k
      · obtain ⟨w, hw, e⟩ := h.sur (r - 1) (by omega)
        refine ⟨w, hw, ?_⟩
        unfold touchA
        rw [if_neg (fun e1 => by subst e1; omega), if_pos ⟨hw, by omega⟩]
        omega
      · obtain ⟨w, hw, e⟩ := h.sur r hr
        refine ⟨w, hw, ?_⟩
        unfold touchA
        rw [if_neg (fun e1 => by subst e1; omega), if_neg (by omega)]
        omega

theorem Perm.oldest {n : Nat} {A : Nat → Int} (h : Perm n A) (hn : 0 < n) : oldestW n A < n ∧ A (oldestW n A) = (n - 1 : Nat) := by
  have hlt : oldestW n A < n := argm_lt _ _ _ _ (by omega) hn
  refine ⟨hlt, ?_⟩
  obtain ⟨w, hw, e⟩ := h.sur (n - 1) (by omega)
  have h1 : A w ≤ A (oldestW n A) := argm_max A 0 n w (by omega) (by omega)
  have h2 := h.rng _ hlt
  omega

theorem Perm.new (n : Nat) : Perm n (newA n) := by
  refine ⟨fun w hw => ?_, fun w w' hw hw' e => ?_, fun r hr => ⟨r, hr, ?_⟩⟩
  · unfold newA; rw [if_pos hw]; omega
  · unfold newA at e; rw [if_pos hw, if_pos hw'] at e; omega
  · unfold newA; rw [if_pos hr]

end Go.Coh
