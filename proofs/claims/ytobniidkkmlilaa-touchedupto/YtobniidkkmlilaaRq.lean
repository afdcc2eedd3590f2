/- Stamps and ages: the reference's set and the program's. Plain functions alone. -/
import Derived.Test.YtobniidkkmlilaaRp
import Derived.Test.YtobniidkkmlilaaPu
namespace Go.Coh

theorem findN_congr {L L' : Nat → Int} {x : Int} : ∀ {n : Nat}, (∀ j, j < n → L j = L' j) → findN L x n = findN L' x n
  | 0, _ => rfl
  | n + 1, h => by
    unfold findN
    rw [findN_congr (fun j hj => h j (by omega)), h n (by omega)]

theorem argm_shift (c : Nat → Nat → Bool) (lo a : Nat) : ∀ k, argm c (lo + a) k = lo + argm (fun i j => c (lo + i) (lo + j)) a k
  | 0 => rfl
  | k + 1 => by
    unfold argm
    rw [argm_shift c lo a k]
    have e : lo + a + k = lo + (a + k) := by omega
    rw [e]
    split <;> rfl

theorem argm_congr {c c' : Nat → Nat → Bool} {lo : Nat} : ∀ {k : Nat}, (∀ i j, lo ≤ i → i < lo + k → lo ≤ j → j < lo + k → c i j = c' i j) → argm c lo k = argm c' lo k
  | 0, _ => rfl
  | k + 1, h => by
    unfold argm
    have ih := argm_congr (c := c) (c' := c') (lo := lo) (k := k) (fun i j h1 h2 h3 h4 => h i j h1 (by omega) h3 (by omega))
    rw [ih]
    have hb := argm_bd c' lo k
    rw [h (lo + k) (argm c' lo k) (by omega) (by omega) hb.1 (by omega)]

theorem leaf_shift (A : Nat → Int) (lo : Nat) : ∀ m a, leaf A m (lo + a) = lo + leaf (fun j => A (lo + j)) m a
  | 0, _ => rfl
  | m + 1, a => by
    unfold leaf
    rw [argm_shift]
    have e : ∀ y, (lo + y < lo + a + 2 ^ m) = (y < a + 2 ^ m) := fun y => by rw [eq_iff_iff]; omega
    simp only [e]
    split
    · rw [show lo + a + 2 ^ m = lo + (a + 2 ^ m) by omega, leaf_shift A lo m]
    · exact leaf_shift A lo m a

theorem leaf_congr {A A' : Nat → Int} : ∀ {m a : Nat}, (∀ i j, a ≤ i → i < a + 2 ^ m → a ≤ j → j < a + 2 ^ m → (A i < A j ↔ A' i < A' j)) → leaf A m a = leaf A' m a
  | 0, _, _ => rfl
  | m + 1, a, h => by
    have h2 : 2 ^ (m + 1) = 2 ^ m + 2 ^ m := by rw [Nat.pow_succ]; omega
    unfold leaf
    have e : argm (fun i j => decide (A i < A j)) a (2 ^ (m + 1)) = argm (fun i j => decide (A' i < A' j)) a (2 ^ (m + 1)) :=
      argm_congr (fun i j h1 h2 h3 h4 => by rw [Bool.eq_iff_iff]; simp only [decide_eq_true_eq]; exact h i j h1 h2 h3 h4)
    rw [e]
    split
    · exact leaf_congr (fun i j h1 h3 h4 h5 => h i j (by omega) (by omega) (by omega) (by omega))
    · exact leaf_congr (fun i j h1 h3 h4 h5 => h i j (by omega) (by omega) (by omega) (by omega))

/-- The n ways from lo on, as the reference has them (lines, stamps, ranks), against lines, ages and ranks. -/
structure SetRel (lo n : Nat) (L A R rL rT rR : Nat → Int) (clock : Int) : Prop where
  l : ∀ j, j < n → rL (lo + j) = L j
  r : ∀ j, j < n → rR (lo + j) = R j
  perm : Perm n A
  ord : ∀ j j', j < n → j' < n → rT (lo + j) < rT (lo + j') → A j' < A j
  dist : ∀ j j', j < n → j' < n → rT (lo + j) = rT (lo + j') → rT (lo + j) = 0 ∨ j = j'
  tb : ∀ j, j < n → 0 ≤ rT (lo + j) ∧ rT (lo + j) ≤ clock
  pos : ∀ j, j < n → L j ≠ -1 → 0 < rT (lo + j)

section
variable {lo n : Nat} {L A R rL rT rR : Nat → Int} {clock : Int}

theorem SetRel.find (h : SetRel lo n L A R rL rT rR clock) (x : Int) : findN (fun j => rL (lo + j)) x n = findN L x n := findN_congr h.l

/-- where no way is empty, stamps and ages are two ways to say the same -/
theorem SetRel.cmp (h : SetRel lo n L A R rL rT rR clock) (hfull : ∀ j, j < n → L j ≠ -1) {i j : Nat} (hi : i < n) (hj : j < n) : rT (lo + i) < rT (lo + j) ↔ A j < A i := by
  constructor
  · exact h.ord i j hi hj
  · intro ha
    by_cases e : rT (lo + i) < rT (lo + j)
    · exact e
    · exfalso
      by_cases e2 : rT (lo + j) < rT (lo + i)
      · have := h.ord j i hj hi e2; omega
      · have e3 : rT (lo + i) = rT (lo + j) := by omega
        have := h.pos i hi (hfull i hi)
        rcases h.dist i j hi hj e3 with h0 | h0
        · omega
        · subst h0; omega

theorem SetRel.touch (h : SetRel lo n L A R rL rT rR clock) {k : Nat} (hk : k < n) (hc : 0 ≤ clock) {L' R' rL' rR' : Nat → Int}
    (hl : ∀ j, j < n → rL' (lo + j) = L' j) (hr : ∀ j, j < n → rR' (lo + j) = R' j) (hpos : ∀ j, j < n → j ≠ k → L' j ≠ -1 → L j ≠ -1) :
    SetRel lo n L' (touchA n k A) R' rL' (upd rT (lo + k) (clock + 1)) rR' (clock + 1) := by
  have up : ∀ j, j < n → upd rT (lo + k) (clock + 1) (lo + j) = if j = k then clock + 1 else rT (lo + j) := fun j _ => by
    unfold upd
    by_cases e : j = k
    · rw [if_pos (by omega), if_pos e]
    · rw [if_neg (by omega), if_neg e]
  have ak := h.perm.rng k hk
  refine ⟨hl, hr, h.perm.touch hk, fun j j' hj hj' hlt => ?_, fun j j' hj hj' he => ?_, fun j hj => ?_, fun j hj hne => ?_⟩
  · rw [up j hj, up j' hj'] at hlt
    have tj := h.tb j hj
    have tj' := h.tb j' hj'
    have aj := h.perm.rng j hj
    have aj' := h.perm.rng j' hj'
    unfold touchA
    by_cases e : j = k
    · rw [if_pos e] at hlt
      by_cases e' : j' = k
      · rw [if_pos e'] at hlt; omega
      · rw [if_neg e'] at hlt; omega
    · rw [if_neg e] at hlt
      have nj : A j ≠ A k := fun e1 => e (h.perm.inj j k hj hk e1)
      by_cases e' : j' = k
      · rw [if_pos e', if_neg e]
        split <;> omega
      · rw [if_neg e'] at hlt
        have ho := h.ord j j' hj hj' hlt
        have nj' : A j' ≠ A k := fun e1 => e' (h.perm.inj j' k hj' hk e1)
        rw [if_neg e', if_neg e]
        split <;> split <;> omega
  · rw [up j hj, up j' hj'] at he
    rw [up j hj]
    have tj := h.tb j hj
    have tj' := h.tb j' hj'
    by_cases e : j = k
    · rw [if_pos e] at he ⊢
      by_cases e' : j' = k
      · exact .inr (e.trans e'.symm)
      · rw [if_neg e'] at he; omega
    · rw [if_neg e] at he ⊢
      by_cases e' : j' = k
      · rw [if_pos e'] at he; omega
      · rw [if_neg e'] at he; exact h.dist j j' hj hj' he
  · rw [up j hj]
    have tj := h.tb j hj
    split <;> omega
  · rw [up j hj]
    by_cases e : j = k
    · rw [if_pos e]; omega
    · rw [if_neg e]; exact h.pos j hj (hpos j hj e hne)

theorem SetRel.ranked (h : SetRel lo n L A R rL rT rR clock) : argm (fun i j => decide (rR j < rR i)) lo n = lo + oldestW n R := by
  have := argm_shift (fun i j => decide (rR j < rR i)) lo 0 n
  rw [Nat.add_zero] at this
  rw [this]
  congr 1
  exact argm_congr (fun i j h1 h2 h3 h4 => by rw [h.r i (by omega), h.r j (by omega)])

theorem SetRel.victim (h : SetRel lo n L A R rL rT rR clock) (hn : Size n) (hfull : ∀ j, j < n → L j ≠ -1) (p : Nat) :
    (if p = 0 then argm (fun i j => decide (rT i < rT j)) lo n else if p = 1 then leaf (fun i => - rT i) (lg n) lo else argm (fun i j => decide (rR j < rR i)) lo n) = lo + victimW p n A R := by
  unfold victimW
  by_cases p0 : p = 0
  · rw [if_pos p0, if_pos p0]
    have := argm_shift (fun i j => decide (rT i < rT j)) lo 0 n
    rw [Nat.add_zero] at this
    rw [this]
    congr 1
    exact argm_congr (fun i j h1 h2 h3 h4 => by rw [Bool.eq_iff_iff]; simp only [decide_eq_true_eq]; exact h.cmp hfull (by omega) (by omega))
  · rw [if_neg p0, if_neg p0]
    by_cases p1 : p = 1
    · rw [if_pos p1, if_pos p1]
      have := leaf_shift (fun i => - rT i) lo (lg n) 0
      rw [Nat.add_zero] at this
      rw [this]
      congr 1
      have e : 2 ^ lg n = n := by rcases hn with rfl | rfl | rfl | rfl <;> rfl
      refine leaf_congr (fun i j h1 h2 h3 h4 => ?_)
      rw [e] at h2 h4
      have := h.cmp hfull (i := j) (j := i) (by omega) (by omega)
      rw [← this]
      omega
    · rw [if_neg p1, if_neg p1]
      exact h.ranked

theorem SetRel.new (lo n : Nat) : SetRel lo n (newL n) (newA n) (fun _ => 0) (fun _ => -1) (fun _ => 0) (fun _ => 0) 0 :=
  ⟨fun j hj => by unfold newL; rw [if_pos hj], fun _ _ => rfl, Perm.new n, fun j j' _ _ h => by omega, fun _ _ _ _ _ => .inl rfl, fun _ _ => by omega, fun j hj h => by unfold newL at h; rw [if_pos hj] at h; omega⟩
end

/-- one touch, as the reference does it -/
def RC.tchS (s : RC) (x : Int) : RC := match s.find x with
  | some j => s.found (s.lo x + j)
  | none => (s.roomS x).put (s.roomW x) x
def RC.tchT (s : RC) (x : Int) : Tch := match s.find x with
  | some j => ⟨true, s.lo x + j, -1⟩
  | none => ⟨false, s.roomW x, s.roomOut x⟩

end Go.Coh
