
/- The plain functions that the set's methods compute. No program is named here. -/
namespace Go.Coh

/-- the first of the first n places at which x stands -/
def findN (L : Nat → Int) (x : Int) : Nat → Option Nat
  | 0 => none
  | n + 1 => match findN L x n with
    | some k => some k
    | none => if L n = x then some n else none

/-- a place, or -1 -/
def oi : Option Nat → Int
  | some k => k
  | none => -1

theorem findN_none {L : Nat → Int} {x : Int} : ∀ {n : Nat}, findN L x n = none ↔ ∀ j, j < n → L j ≠ x
  | 0 => by simp [findN]
  | n + 1 => by
    have ih := @findN_none L x n
    unfold findN
    cases h : findN L x n with
    | some k =>
      simp only [reduceCtorEq, false_iff]
      intro hall
      have : findN L x n = none := ih.2 fun j hj => hall j (by omega)
      rw [h] at this; cases this
    | none =>
      have hn := ih.1 h
      by_cases e : L n = x
      · simp only [e, if_true, reduceCtorEq, false_iff]
        intro hall; exact hall n (by omega) e
      · simp only [e, if_false, true_iff]
        intro j hj
        by_cases hjn : j = n
        · subst hjn; exact e
        · exact hn j (by omega)

theorem findN_some {L : Nat → Int} {x : Int} {k : Nat} : ∀ {n : Nat}, findN L x n = some k ↔ k < n ∧ L k = x ∧ ∀ j, j < k → L j ≠ x
  | 0 => by simp [findN]
  | n + 1 => by
    have ih := @findN_some L x k n
    unfold findN
    cases h : findN L x n with
    | some i =>
      have hi := (@findN_some L x i n).1 h
      simp only [Option.some.injEq]
      constructor
      · rintro rfl; exact ⟨by omega, hi.2⟩
      · rintro ⟨h1, h2, h3⟩
        by_cases hlt : i < k
        · exact absurd hi.2.1 (h3 i hlt)
        · by_cases hgt : k < i
          · exact absurd h2 (hi.2.2 k hgt)
          · omega
    | none =>
      have hn := findN_none.1 h
      by_cases e : L n = x
      · simp only [e, if_true, Option.some.injEq]
        constructor
        · rintro rfl; exact ⟨by omega, e, hn⟩
        · rintro ⟨h1, h2, h3⟩
          by_cases hkn : k < n
          · exact absurd h2 (hn k hkn)
          · omega
      · simp only [e, if_false, reduceCtorEq, false_iff]
        rintro ⟨h1, h2, h3⟩
        by_cases hkn : k = n
        · subst hkn; exact e h2
        · exact hn k (by omega) h2

/-- the place, of lo, lo+1, .. (k of them), that c likes best; lo where there is none -/
def argm (c : Nat → Nat → Bool) (lo : Nat) : Nat → Nat
  | 0 => lo
  | k + 1 => if c (lo + k) (argm c lo k) then lo + k else argm c lo k

theorem argm_bd (c : Nat → Nat → Bool) (lo : Nat) : ∀ k, lo ≤ argm c lo k ∧ (argm c lo k < lo + k ∨ argm c lo k = lo)
  | 0 => by simp [argm]
  | k + 1 => by
    have := argm_bd c lo k
    unfold argm
    split <;> omega

theorem argm_lt (c : Nat → Nat → Bool) (lo k m : Nat) (hk : lo + k ≤ m) (hlo : lo < m) : argm c lo k < m := by
  have := argm_bd c lo k
  omega

/-- behind 'touch way' -/
def touchA (n way : Nat) (A : Nat → Int) : Nat → Int := fun i => if i = way then 0 else if i < n ∧ A i < A way then A i + 1 else A i

/-- .. while it goes on, k ways are done -/
def touchTo (k : Nat) (before : Int) (A : Nat → Int) : Nat → Int := fun i => if i < k ∧ A i < before then A i + 1 else A i

/-- Tree: m halvings from low on -/
def leaf (A : Nat → Int) : Nat → Nat → Nat
  | 0, low => low
  | m + 1, low => leaf A m (if argm (fun i j => decide (A i < A j)) low (2 ^ (m + 1)) < low + 2 ^ m then low + 2 ^ m else low)

theorem leaf_bd (A : Nat → Int) : ∀ m low, low ≤ leaf A m low ∧ leaf A m low < low + 2 ^ m
  | 0, low => by simp [leaf]
  | m + 1, low => by
    unfold leaf
    have h := leaf_bd A m (if argm (fun i j => decide (A i < A j)) low (2 ^ (m + 1)) < low + 2 ^ m then low + 2 ^ m else low)
    have h2 : 2 ^ (m + 1) = 2 ^ m + 2 ^ m := by rw [Nat.pow_succ]; omega
    revert h
    split <;> intro h <;> omega

def oldestW (n : Nat) (A : Nat → Int) : Nat := argm (fun i j => decide (A j < A i)) 0 n
def liftR (k : Nat) (d : Int) (R : Nat → Int) : Nat → Int := fun i => if i < k then R i + d else R i

/-- how often a size can be halved -/
def lg (n : Nat) : Nat := if n = 8 then 3 else if n = 4 then 2 else if n = 2 then 1 else 0

/-- the victim's way, and the ranks behind the choice -/
def victimW (p n : Nat) (A R : Nat → Int) : Nat := if p = 0 then oldestW n A else if p = 1 then leaf A (lg n) 0 else oldestW n R
def victimR (p n : Nat) (R : Nat → Int) : Nat → Int := if p = 0 ∨ p = 1 then R else liftR n (3 - R (oldestW n R)) R

def Size (n : Nat) : Prop := n = 1 ∨ n = 2 ∨ n = 4 ∨ n = 8

theorem victimW_lt {p n : Nat} (A R : Nat → Int) (hn : Size n) : victimW p n A R < n := by
  have h0 : 0 < n := by rcases hn with h | h | h | h <;> omega
  unfold victimW oldestW
  split
  · exact argm_lt _ _ _ _ (by omega) h0
  · split
    · have := (leaf_bd A (lg n) 0).2
      have e : 2 ^ lg n = n := by rcases hn with rfl | rfl | rfl | rfl <;> rfl
      omega
    · exact argm_lt _ _ _ _ (by omega) h0

def upd (g : Nat → Int) (i : Nat) (v : Int) : Nat → Int := fun j => if j = i then v else g j

def putW (p n : Nat) (L A R : Nat → Int) : Nat := match findN L (-1) n with
  | some k => k
  | none => victimW p n A R
def putR (p n : Nat) (L R : Nat → Int) : Nat → Int := match findN L (-1) n with
  | some _ => R
  | none => victimR p n R

theorem putW_lt {p n : Nat} (L A R : Nat → Int) (hn : Size n) : putW p n L A R < n := by
  unfold putW
  cases h : findN L (-1) n with
  | some k => exact (findN_some.1 h).1
  | none => exact victimW_lt A R hn

/-- what Next answers, and the count behind it -/
def nextRank (p : Nat) (c : Int) : Int := if p ≠ 3 then 2 else if c + 1 < 8 then 3 else 2
def nextCount (p : Nat) (c : Int) : Int := if p ≠ 3 then c else if c + 1 < 8 then c + 1 else 0

/-- a new set of n ways, k of them done -/
def newL (k : Nat) : Nat → Int := fun j => if j < k then -1 else 0
def newA (k : Nat) : Nat → Int := fun j => if j < k then j else 0

/-- how things stand: lines, ages, ranks; how many lines Rare has put in since its last Often-th one -/
structure St where
  L : Nat → Int
  A : Nat → Int
  R : Nat → Int
  c : Int

/-- what comes of a touch -/
structure Tch where
  hit : Bool
  way : Nat
  out : Int

def tchT (p n : Nat) (x : Int) (s : St) : Tch := match findN s.L x n with
  | some k => ⟨true, k, -1⟩
  | none => ⟨false, putW p n s.L s.A s.R, s.L (putW p n s.L s.A s.R)⟩

def tchS (p n : Nat) (x : Int) (s : St) : St := match findN s.L x n with
  | some k => ⟨s.L, touchA n k s.A, upd s.R k 0, s.c⟩
  | none => ⟨upd s.L (putW p n s.L s.A s.R) x, touchA n (putW p n s.L s.A s.R) s.A, upd (putR p n s.L s.R) (putW p n s.L s.A s.R) (nextRank p s.c), nextCount p s.c⟩

def newS (n : Nat) : St := ⟨newL n, newA n, fun _ => 0, 0⟩

/-- the state behind the first k lines, and what comes of line k -/
def tchRun (p n : Nat) (xs : Nat → Int) : Nat → St
  | 0 => newS n
  | k + 1 => tchS p n (xs k) (tchRun p n xs k)
def tchRunT (p n : Nat) (xs : Nat → Int) (k : Nat) : Tch := tchT p n (xs k) (tchRun p n xs k)

/-- the bounds within which all stays -/
structure Bd (s : St) : Prop where
  a : ∀ j, 0 ≤ s.A j ∧ s.A j ≤ 100
  r : ∀ j, 0 ≤ s.R j ∧ s.R j ≤ 3
  c : 0 ≤ s.c ∧ s.c < 8

theorem argm_max (f : Nat → Int) (lo : Nat) : ∀ k j, lo ≤ j → j < lo + k → f j ≤ f (argm (fun i j => decide (f j < f i)) lo k)
  | 0, j, h1, h2 => by omega
  | k + 1, j, h1, h2 => by
    have ih := argm_max f lo k
    unfold argm
    by_cases h : f (argm (fun i j => decide (f j < f i)) lo k) < f (lo + k)
    · rw [if_pos (decide_eq_true h)]
      by_cases e : j = lo + k
      · subst e; exact Int.le_refl _
      · have := ih j h1 (by omega); omega
    · rw [if_neg (by simpa using h)]
      by_cases e : j = lo + k
      · subst e; omega
      · exact ih j h1 (by omega)

theorem touchA_bd {n way : Nat} {A : Nat → Int} (h : ∀ j, 0 ≤ A j ∧ A j ≤ 100) (j : Nat) : 0 ≤ touchA n way A j ∧ touchA n way A j ≤ 100 := by
  unfold touchA
  have h1 := h j
  have h2 := h way
  split
  · omega
  · split <;> omega

theorem putR_bd {p n : Nat} {L R : Nat → Int} (h : ∀ j, 0 ≤ R j ∧ R j ≤ 3) (j : Nat) : 0 ≤ putR p n L R j ∧ putR p n L R j ≤ 3 := by
  unfold putR
  cases findN L (-1) n with
  | some k => exact h j
  | none =>
    show 0 ≤ victimR p n R j ∧ victimR p n R j ≤ 3
    unfold victimR
    by_cases hp : p = 0 ∨ p = 1
    · rw [if_pos hp]; exact h j
    · rw [if_neg hp]
      unfold liftR
      have h1 := h j
      have h2 := h (oldestW n R)
      split
      · rename_i hj
        have h3 : R j ≤ R (oldestW n R) := argm_max R 0 n j (by omega) (by omega)
        omega
      · exact h1

theorem upd_bd {R : Nat → Int} {i : Nat} {v lo hi : Int} (h : ∀ j, lo ≤ R j ∧ R j ≤ hi) (hv : lo ≤ v ∧ v ≤ hi) (j : Nat) : lo ≤ upd R i v j ∧ upd R i v j ≤ hi := by
  unfold upd; split
  · exact hv
  · exact h j

theorem next_bd {p : Nat} {c : Int} (h : 0 ≤ c ∧ c < 8) : (0 ≤ nextRank p c ∧ nextRank p c ≤ 3) ∧ (0 ≤ nextCount p c ∧ nextCount p c < 8) := by
  unfold nextRank nextCount
  split
  · exact ⟨by omega, h⟩
  · split <;> omega

theorem Bd.step {p n : Nat} {x : Int} {s : St} (h : Bd s) : Bd (tchS p n x s) := by
  unfold tchS
  split
  · exact ⟨touchA_bd h.a, upd_bd h.r (by omega), h.c⟩
  · exact ⟨touchA_bd h.a, upd_bd (putR_bd h.r) (next_bd h.c).1, (next_bd h.c).2⟩

theorem Bd.new {n : Nat} (hn : n ≤ 8) : Bd (newS n) := by
  refine ⟨fun j => ?_, fun j => by simp [newS], by simp [newS]⟩
  show 0 ≤ newA n j ∧ newA n j ≤ 100
  unfold newA; split <;> omega

theorem Bd.run {p n : Nat} {xs : Nat → Int} (hn : n ≤ 8) : ∀ k, Bd (tchRun p n xs k)
  | 0 => Bd.new hn
  | k + 1 => (Bd.run hn k).step

theorem tchT_way {p n : Nat} {x : Int} {s : St} (hn : Size n) : (tchT p n x s).way < n := by
  unfold tchT
  cases h : findN s.L x n with
  | some k => exact (findN_some.1 h).1
  | none => exact putW_lt s.L s.A s.R hn

end Go.Coh
