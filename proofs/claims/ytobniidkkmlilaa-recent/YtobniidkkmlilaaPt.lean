/- With Oldest a touch is a hit just if fewer different lines than ways were touched since: the sets. -/
import Derived.Test.YtobniidkkmlilaaPs
namespace Go.Coh

/-- f ways are full, and hold the f lines touched last. -/
structure LRU (n : Nat) (xs : Nat → Int) (i : Nat) (L A : Nat → Int) (f : Nat) : Prop where
  le : f ≤ n
  perm : Perm n A
  full : ∀ w, w < f → 0 ≤ L w ∧ ∃ r : Nat, A w = r ∧ rk xs i (L w) = some r
  empty : ∀ w, f ≤ w → w < n → L w = -1 ∧ A w = w
  small : f < n → ∀ x r, rk xs i x = some r → r < f

variable {n f i : Nat} {xs L A : Nat → Int}

theorem LRU.age_lt (h : LRU n xs i L A f) {w : Nat} (hw : w < f) : A w < f := by
  by_cases e : A w < f
  · exact e
  · exfalso
    have hn := h.le
    have hr := h.perm.rng w (by omega)
    have he := h.empty (A w).toNat (by omega) (by omega)
    have := h.perm.inj w (A w).toNat (by omega) (by omega) (by rw [he.2]; omega)
    omega

theorem LRU.has (h : LRU n xs i L A f) {x : Int} {r : Nat} (hr : rk xs i x = some r) (hlt : r < n) : ∃ w, w < f ∧ L w = x := by
  have hrf : r < f := by
    by_cases e : f < n
    · exact h.small e x r hr
    · omega
  obtain ⟨w, hw, e⟩ := h.perm.sur r hlt
  have hwf : w < f := by
    by_cases hwf : w < f
    · exact hwf
    · have := (h.empty w (by omega) hw).2; omega
  obtain ⟨_, r', h1, h2⟩ := h.full w hwf
  have : r' = r := by omega
  subst this
  exact ⟨w, hwf, rk_inj xs i _ _ _ h2 hr⟩

theorem LRU.in (h : LRU n xs i L A f) {x : Int} (hx : 0 ≤ x) {w : Nat} (hw : w < n) (e : L w = x) : w < f := by
  by_cases hwf : w < f
  · exact hwf
  · have := (h.empty w (by omega) hw).1; omega

theorem LRU.uniq (h : LRU n xs i L A f) {w w' : Nat} (hw : w < f) (hw' : w' < f) (e : L w = L w') : w = w' := by
  obtain ⟨_, r, h1, h2⟩ := h.full w hw
  obtain ⟨_, r', h1', h2'⟩ := h.full w' hw'
  rw [e, h2'] at h2
  injection h2 with h2
  have := h.le
  exact h.perm.inj w w' (by omega) (by omega) (by omega)

theorem LRU.hit (h : LRU n xs i L A f) {k : Nat} (hk : k < n) (hx : 0 ≤ xs i) (e : L k = xs i) : LRU n xs (i + 1) L (touchA n k A) f := by
  have hkf := h.in hx hk e
  have hle := h.le
  obtain ⟨_, rK, k1, k2⟩ := h.full k hkf
  rw [e] at k2
  refine ⟨h.le, h.perm.touch hk, fun w hw => ?_, fun w h1 h2 => ?_, fun hf x r hr => ?_⟩
  · obtain ⟨w0, r, w1, w2⟩ := h.full w hw
    refine ⟨w0, ?_⟩
    by_cases hwk : w = k
    · exact ⟨0, by unfold touchA; rw [if_pos hwk]; rfl, by rw [hwk, e]; exact rk_self xs i⟩
    · have hne : L w ≠ xs i := fun e' => hwk (h.uniq hw hkf (e'.trans e.symm))
      have hane : A w ≠ A k := fun e' => hwk (h.perm.inj w k (by omega) hk e')
      by_cases hc : A w < A k
      · refine ⟨r + 1, by unfold touchA; rw [if_neg hwk, if_pos ⟨by omega, hc⟩]; omega, rk_up xs i _ r hne w2 (fun r' hr' => ?_)⟩
        rw [k2] at hr'; injection hr' with hr'; omega
      · exact ⟨r, by unfold touchA; rw [if_neg hwk, if_neg (by omega)]; exact w1, rk_stay xs i _ r rK hne w2 k2 (by omega)⟩
  · have he := h.empty w h1 h2
    have hkl := h.age_lt hkf
    refine ⟨he.1, ?_⟩
    unfold touchA
    rw [if_neg (by omega), if_neg (by omega)]
    exact he.2
  · have hkl := h.age_lt hkf
    by_cases ex : x = xs i
    · subst ex; rw [rk_self] at hr; injection hr with hr; omega
    · cases hx0 : rk xs i x with
      | none => rw [rk_none xs i x ex hx0] at hr; cases hr
      | some s =>
        have hs := h.small hf x s hx0
        by_cases hc : rK < s
        · rw [rk_stay xs i x s rK ex hx0 k2 hc] at hr; injection hr with hr; omega
        · rw [rk_up xs i x s ex hx0 (fun r' e1 e2 => by rw [k2] at e1; injection e1 with e1; omega)] at hr
          injection hr with hr
          have : s ≠ rK := fun e' => ex (rk_inj xs i _ _ s hx0 (by rw [k2, e']))
          omega

theorem LRU.fill (h : LRU n xs i L A f) (hf : f < n) (hx : 0 ≤ xs i) (hno : ∀ w, w < n → L w ≠ xs i) : LRU n xs (i + 1) (upd L f (xs i)) (touchA n f A) (f + 1) := by
  have hnone : rk xs i (xs i) = none := by
    cases hr : rk xs i (xs i) with
    | none => rfl
    | some r =>
      have := h.small hf _ _ hr
      obtain ⟨w, hw, e⟩ := h.has hr (by omega)
      exact absurd e (hno w (by omega))
  have af := (h.empty f (Nat.le_refl _) hf).2
  refine ⟨hf, h.perm.touch hf, fun w hw => ?_, fun w h1 h2 => ?_, fun hf' x r hr => ?_⟩
  · by_cases hwf : w = f
    · subst hwf
      exact ⟨by unfold upd; rw [if_pos rfl]; exact hx, 0, by unfold touchA; rw [if_pos rfl]; rfl, by unfold upd; rw [if_pos rfl]; exact rk_self xs i⟩
    · have hw' : w < f := by omega
      obtain ⟨w0, r, w1, w2⟩ := h.full w hw'
      have hal := h.age_lt hw'
      have eL : upd L f (xs i) w = L w := by unfold upd; rw [if_neg hwf]
      rw [eL]
      refine ⟨w0, r + 1, by unfold touchA; rw [if_neg hwf, if_pos ⟨by omega, by omega⟩]; omega, rk_up xs i _ r (hno w (by omega)) w2 (fun r' hr' => ?_)⟩
      rw [hnone] at hr'; cases hr'
  · have he := h.empty w (by omega) h2
    refine ⟨by unfold upd; rw [if_neg (by omega)]; exact he.1, ?_⟩
    unfold touchA
    rw [if_neg (by omega), if_neg (by omega)]
    exact he.2
  · by_cases ex : x = xs i
    · subst ex; rw [rk_self] at hr; injection hr with hr; omega
    · cases hx0 : rk xs i x with
      | none => rw [rk_none xs i x ex hx0] at hr; cases hr
      | some s =>
        have hs := h.small hf x s hx0
        rw [rk_up xs i x s ex hx0 (fun r' e1 e2 => by rw [hnone] at e1; cases e1)] at hr
        injection hr with hr
        omega

theorem LRU.drop (h : LRU n xs i L A n) (hn : 0 < n) (hx : 0 ≤ xs i) (hno : ∀ w, w < n → L w ≠ xs i) : LRU n xs (i + 1) (upd L (oldestW n A) (xs i)) (touchA n (oldestW n A) A) n := by
  obtain ⟨hk, ak⟩ := h.perm.oldest hn
  generalize oldestW n A = k at *
  refine ⟨h.le, h.perm.touch hk, fun w hw => ?_, fun w h1 h2 => by omega, fun hf => by omega⟩
  by_cases hwk : w = k
  · subst hwk
    exact ⟨by unfold upd; rw [if_pos rfl]; exact hx, 0, by unfold touchA; rw [if_pos rfl]; rfl, by unfold upd; rw [if_pos rfl]; exact rk_self xs i⟩
  · obtain ⟨w0, r, w1, w2⟩ := h.full w hw
    have hane : A w ≠ A k := fun e' => hwk (h.perm.inj w k hw hk e')
    have hr := h.perm.rng w hw
    have eL : upd L k (xs i) w = L w := by unfold upd; rw [if_neg hwk]
    rw [eL]
    refine ⟨w0, r + 1, by unfold touchA; rw [if_neg hwk, if_pos ⟨by omega, by omega⟩]; omega, rk_up xs i _ r (hno w hw) w2 (fun r' hr' hlt => ?_)⟩
    obtain ⟨w', hw', e'⟩ := h.has hr' (by omega)
    exact hno w' hw' e'

theorem LRU.step (hn : 0 < n) (h : LRU n xs i L A f) (hx : 0 ≤ xs i) (R : Nat → Int) (c : Int) :
    ∃ f', LRU n xs (i + 1) (tchS 0 n (xs i) ⟨L, A, R, c⟩).L (tchS 0 n (xs i) ⟨L, A, R, c⟩).A f' := by
  unfold tchS
  cases hf : findN L (xs i) n with
  | some k =>
    obtain ⟨h1, h2, _⟩ := findN_some.1 hf
    exact ⟨f, h.hit h1 hx h2⟩
  | none =>
    have hno := findN_none.1 hf
    show ∃ f', LRU n xs (i + 1) (upd L (putW 0 n L A R) (xs i)) (touchA n (putW 0 n L A R) A) f'
    cases he : findN L (-1) n with
    | some k =>
      obtain ⟨h1, h2, h3⟩ := findN_some.1 he
      have hkf : f ≤ k := by
        by_cases e : k < f
        · have := (h.full k e).1; omega
        · omega
      have hfk : k = f := by
        by_cases e : f < k
        · exact absurd (h.empty f (Nat.le_refl _) (by omega)).1 (h3 f e)
        · omega
      have : putW 0 n L A R = f := by unfold putW; rw [he]; exact hfk
      rw [this]
      exact ⟨f + 1, h.fill (by omega) hx hno⟩
    | none =>
      have h3 := findN_none.1 he
      have hfn : f = n := by
        by_cases e : f < n
        · exact absurd (h.empty f (Nat.le_refl _) e).1 (h3 f e)
        · have := h.le; omega
      subst hfn
      have : putW 0 f L A R = oldestW f A := by unfold putW; rw [he]; rfl
      rw [this]
      exact ⟨f, h.drop hn hx hno⟩

theorem LRU.run (hn : 0 < n) : ∀ i, (∀ k, k < i → 0 ≤ xs k) → ∃ f, LRU n xs i (tchRun 0 n xs i).L (tchRun 0 n xs i).A f
  | 0, _ => ⟨0, Nat.zero_le _, Perm.new n, fun w hw => absurd hw (Nat.not_lt_zero _), fun w _ hw => ⟨by show newL n w = -1; unfold newL; rw [if_pos hw], by show newA n w = w; unfold newA; rw [if_pos hw]⟩, fun _ x r hr => by cases hr⟩
  | i + 1, hx => by
    obtain ⟨f, hf⟩ := LRU.run hn i (fun k hk => hx k (by omega))
    exact hf.step hn (hx i (by omega)) _ _

/-- a hit just if the line is among the n touched last -/
theorem hit_iff (hn : 0 < n) (i : Nat) (hx : ∀ k, k ≤ i → 0 ≤ xs k) : (tchRunT 0 n xs i).hit = true ↔ ∃ r, r < n ∧ rk xs i (xs i) = some r := by
  obtain ⟨f, hf⟩ := LRU.run (n := n) (xs := xs) hn i (fun k hk => hx k (by omega))
  unfold tchRunT tchT
  constructor
  · intro h
    cases hF : findN (tchRun 0 n xs i).L (xs i) n with
    | none => rw [hF] at h; cases h
    | some k =>
      obtain ⟨h1, h2, _⟩ := findN_some.1 hF
      have hk := hf.in (hx i (Nat.le_refl _)) h1 h2
      obtain ⟨_, r, r1, r2⟩ := hf.full k hk
      have := hf.perm.rng k h1
      exact ⟨r, by omega, by rw [← h2]; exact r2⟩
  · rintro ⟨r, hr, h⟩
    obtain ⟨w, hw, e⟩ := hf.has h hr
    cases hF : findN (tchRun 0 n xs i).L (xs i) n with
    | none => exact absurd e (findN_none.1 hF w (by have := hf.le; omega))
    | some k => rfl

/-- the last place of a line, or none -/
theorem last_or (xs : Nat → Int) (x : Int) : ∀ i, (∀ k, k < i → xs k ≠ x) ∨ ∃ k, k < i ∧ xs k = x ∧ ∀ j, k < j → j < i → xs j ≠ x
  | 0 => .inl fun k hk => by omega
  | i + 1 => by
    by_cases e : xs i = x
    · exact .inr ⟨i, by omega, e, fun j h1 h2 => by omega⟩
    · rcases last_or xs x i with h | ⟨k, h1, h2, h3⟩
      · refine .inl fun k hk => ?_
        by_cases e' : k = i
        · subst e'; exact e
        · exact h k (by omega)
      · refine .inr ⟨k, by omega, h2, fun j j1 j2 => ?_⟩
        by_cases e' : j = i
        · subst e'; exact e
        · exact h3 j j1 (by omega)

theorem rk_never (xs : Nat → Int) : ∀ i x, (∀ k, k < i → xs k ≠ x) → rk xs i x = none
  | 0, _, _ => rfl
  | i + 1, x, h => rk_none xs i x (fun e => h i (by omega) e.symm) (rk_never xs i x fun k hk => h k (by omega))

theorem cnt_mono (xs : Nat → Int) (i s t : Nat) (h : s ≤ t) : cnt xs i t ≤ cnt xs i s := by
  unfold cnt
  refine List.countP_mono_left fun x _ hx => ?_
  simp at hx ⊢
  exact ⟨by omega, hx.2⟩

theorem cnt_next (xs : Nat → Int) (i t : Nat) (ht : t ≤ i) : cnt xs (i + 1) t = (List.range i).countP (fun k => decide (t ≤ k) && fresh xs k (i + 1)) + 1 := by
  unfold cnt
  rw [List.range_succ, List.countP_append]
  congr 1
  simp [fresh_start, ht]

theorem fresh_next {xs : Nat → Int} {k i : Nat} (hk : k < i) : fresh xs k (i + 1) = (fresh xs k i && !decide (xs i = xs k)) := by
  show (fresh xs k i && !(decide (k < i) && decide (xs i = xs k))) = _
  simp [hk]

theorem rk_cnt (xs : Nat → Int) : ∀ i k, k < i → (∀ j, k < j → j < i → xs j ≠ xs k) → rk xs i (xs k) = some (cnt xs i (k + 1))
  | 0, k, h, _ => by omega
  | i + 1, k, hk, hl => by
    have ih := rk_cnt xs i
    by_cases e : k = i
    · subst e; rw [rk_self, cnt_top]
    · have hki : k < i := by omega
      have hne : xs k ≠ xs i := fun e' => hl i hki (by omega) e'.symm
      have hk0 := ih k hki (fun j h1 h2 => hl j h1 (by omega))
      have hfr : fresh xs k i = true := fresh_iff.2 fun j h1 h2 => hl j h1 (by omega)
      rw [cnt_next xs i (k + 1) (by omega)]
      rcases last_or xs (xs i) i with hno | ⟨m, m1, m2, m3⟩
      · rw [rk_up xs i (xs k) _ hne hk0 (fun r' hr' => by rw [rk_never xs i _ hno] at hr'; cases hr')]
        congr 2
        unfold cnt
        refine List.countP_congr fun x hx => ?_
        simp at hx
        rw [fresh_next hx]
        have hns : ¬ xs i = xs x := fun e' => hno x hx e'.symm
        simp [hns]
      · have hm0 := ih m m1 (fun j h1 h2 => by rw [m2]; exact m3 j h1 h2)
        rw [m2] at hm0
        have hmk : m ≠ k := fun e' => hne (by rw [← e', m2])
        have hfm : fresh xs m i = true := fresh_iff.2 fun j h1 h2 => by rw [m2]; exact m3 j h1 h2
        by_cases hlt : k < m
        · have hs := cnt_succ xs i m m1
          rw [hfm, if_pos rfl] at hs
          have hmono := cnt_mono xs i (k + 1) m (by omega)
          rw [rk_stay xs i (xs k) _ _ hne hk0 hm0 (by omega)]
          congr 1
          have hadd := countP_add (fun x => decide (k + 1 ≤ x) && fresh xs x i) (fun x => decide (k + 1 ≤ x) && fresh xs x (i + 1)) (fun x => decide (x = m)) (List.range i) (by
            intro x hx
            simp at hx
            rw [fresh_next hx]
            by_cases ex : x = m
            · subst ex
              simp [hfm, m2]; omega
            · have : (fresh xs x i && decide (xs i = xs x)) = false := by
                cases hfx : fresh xs x i with
                | false => rfl
                | true =>
                  simp
                  intro e'
                  have h1 := fresh_iff.1 hfx
                  by_cases hxm : x < m
                  · exact h1 m hxm m1 (by rw [m2, e'])
                  · exact m3 x (by omega) hx e'.symm
              cases h1 : fresh xs x i <;> cases h2 : decide (xs i = xs x) <;> simp_all)
          rw [countP_one i m m1] at hadd
          exact hadd
        · have hs := cnt_succ xs i k hki
          rw [hfr, if_pos rfl] at hs
          have hmono := cnt_mono xs i (m + 1) k (by omega)
          rw [rk_up xs i (xs k) _ hne hk0 (fun r' hr' => by rw [hm0] at hr'; injection hr' with hr'; omega)]
          congr 2
          unfold cnt
          refine List.countP_congr fun x hx => ?_
          simp at hx
          rw [fresh_next hx]
          by_cases hkx : k + 1 ≤ x
          · have : xs i ≠ xs x := fun e' => m3 x (by omega) hx e'.symm
            simp [this]
          · simp [hkx]

theorem recent_pure (hn : 0 < n) (i : Nat) (r : Int) (hx : ∀ k, k ≤ i → 0 ≤ xs k) (h : SinceR xs i r) : (tchRunT 0 n xs i).hit = (decide (0 ≤ r) && decide (r < n)) := by
  rw [Bool.eq_iff_iff, hit_iff hn i hx]
  rcases h with ⟨rfl, h⟩ | ⟨k, h1, h2, h3, rfl⟩
  · rw [rk_never xs i _ h]
    simp
  · have := rk_cnt xs i k h1 (fun j j1 j2 => by rw [h2]; exact h3 j j1 j2)
    rw [h2] at this
    rw [this]
    simp

end Go.Coh
