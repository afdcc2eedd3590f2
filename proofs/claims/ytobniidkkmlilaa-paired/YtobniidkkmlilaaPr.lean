/- What 'since' counts, as plain functions. No program is named here. -/
import Derived.Test.YtobniidkkmlilaaPure
namespace Go.Coh

/-- behind k, ahead of j: the line of k does not stand there -/
def fresh (xs : Nat → Int) (k : Nat) : Nat → Bool
  | 0 => true
  | j + 1 => fresh xs k j && !(decide (k < j) && decide (xs j = xs k))

theorem fresh_iff {xs : Nat → Int} {k : Nat} : ∀ {i : Nat}, fresh xs k i = true ↔ ∀ j, k < j → j < i → xs j ≠ xs k
  | 0 => by simp [fresh]
  | i + 1 => by
    have ih := @fresh_iff xs k i
    unfold fresh
    rw [Bool.and_eq_true, ih]
    constructor
    · rintro ⟨h1, h2⟩ j hj1 hj2
      by_cases e : j = i
      · subst e
        intro he
        simp [hj1, he] at h2
      · exact h1 j hj1 (by omega)
    · intro h
      refine ⟨fun j h1 h2 => h j h1 (by omega), ?_⟩
      by_cases hk : k < i
      · have := h i hk (by omega)
        simp [this]
      · simp [hk]

theorem fresh_start (xs : Nat → Int) (k : Nat) : fresh xs k (k + 1) = true := fresh_iff.2 fun j h1 h2 => by omega

/-- how many different lines stand from t on, ahead of i -/
def cnt (xs : Nat → Int) (i t : Nat) : Nat := (List.range i).countP fun k => decide (t ≤ k) && fresh xs k i

theorem cnt_top (xs : Nat → Int) (i : Nat) : cnt xs i i = 0 := by
  unfold cnt
  rw [List.countP_eq_zero]
  intro k hk
  simp at hk
  simp; omega

theorem countP_add (p q r : Nat → Bool) (l : List Nat) (h : ∀ x ∈ l, (p x).toNat = (q x).toNat + (r x).toNat) : l.countP p = l.countP q + l.countP r := by
  induction l with
  | nil => rfl
  | cons a t ih =>
    have ha := h a (by simp)
    have ht := ih (fun x hx => h x (by simp [hx]))
    rw [List.countP_cons, List.countP_cons, List.countP_cons, ht]
    have e : ∀ b : Bool, (if b = true then 1 else 0) = b.toNat := fun b => by cases b <;> rfl
    rw [e, e, e]
    omega

theorem countP_one (i k : Nat) (hk : k < i) : (List.range i).countP (fun x => decide (x = k)) = 1 := by
  induction i with
  | zero => omega
  | succ i ih =>
    rw [List.range_succ, List.countP_append]
    by_cases e : k = i
    · subst e
      have : (List.range k).countP (fun x => decide (x = k)) = 0 := by
        rw [List.countP_eq_zero]; intro x hx; simp at hx; simp; omega
      rw [this]; simp
    · rw [ih (by omega)]
      simp; omega

theorem cnt_succ (xs : Nat → Int) (i k : Nat) (hk : k < i) : cnt xs i k = cnt xs i (k + 1) + if fresh xs k i then 1 else 0 := by
  unfold cnt
  have h := countP_add (fun x => decide (k ≤ x) && fresh xs x i) (fun x => decide (k + 1 ≤ x) && fresh xs x i) (fun x => decide (x = k) && fresh xs k i) (List.range i) (by
    intro x _
    by_cases e : x = k
    · subst e
      simp
      intro h; omega
    · have : decide (k ≤ x) = decide (k + 1 ≤ x) := by rw [Bool.eq_iff_iff]; simp; omega
      simp [e, this])
  rw [h]
  congr 1
  cases fresh xs k i with
  | true => simp; exact countP_one i k hk
  | false => simp

/-- what 'since' answers -/
def SinceR (xs : Nat → Int) (i : Nat) (r : Int) : Prop :=
  (r = -1 ∧ ∀ k, k < i → xs k ≠ xs i) ∨ ∃ k, k < i ∧ xs k = xs i ∧ (∀ j, k < j → j < i → xs j ≠ xs i) ∧ r = cnt xs i (k + 1)

theorem cnt_le (xs : Nat → Int) (i t : Nat) : cnt xs i t ≤ i := by
  unfold cnt
  have := List.countP_le_length (p := fun k => decide (t ≤ k) && fresh xs k i) (l := List.range i)
  simpa using this

end Go.Coh
