import Derived.Test.YtobniidkkmlilabPa11
import Derived.Test.YtobniidkkmlilabPa01

/- The walks over the reference's machine: dropped. -/
namespace Go.Proofs.Ytobniidkkmlilab
open Go.RowKit Go.Coh

/-- core i loses the line, wherever it is -/
def RM.loseAt (m : RM) (i l : Nat) : RM := match (m.firsts i).find l with
  | some j => m.losesS i l ((m.firsts i).lo l + j)
  | none => m
/-- the first k cores have lost it -/
def RM.dropK (m : RM) (l : Nat) : Nat → RM
  | 0 => m
  | k + 1 => if m.has k l ≠ 0 then ((m.dropK l k).loseAt k l).bump 7 else m.dropK l k
def RM.droppedS (m : RM) (l : Nat) : RM :=
  let m1 := m.dropK l m.cores
  let m2 := if m1.lasts l = 2 then m1.writtenS l else m1
  { m2 with lasts := upd m2.lasts l 0 }

theorem RM.losesS_keep (m : RM) (c l k : Nat) : (m.losesS c l k).cores = m.cores ∧ (m.losesS c l k).conf = m.conf ∧ (m.losesS c l k).far = m.far ∧ (m.losesS c l k).tally = m.tally ∧ (m.losesS c l k).words = m.words ∧ (m.losesS c l k).mem = m.mem ∧
    (∀ i, i ≠ c → (m.losesS c l k).firsts i = m.firsts i ∧ ∀ x, (m.losesS c l k).has i x = m.has i x) := by
  unfold RM.losesS
  refine ⟨by split <;> rfl, by split <;> rfl, by split <;> rfl, by split <;> rfl, by split <;> rfl, by split <;> rfl, fun i hi => ⟨?_, fun x => ?_⟩⟩
  · show updC m.firsts c _ i = _
    unfold updC; rw [if_neg hi]
  · show updH m.has c l 0 i x = _
    unfold updH; rw [if_neg (fun h => hi h.1)]

theorem RM.loseAt_keep (m : RM) (c l : Nat) : (m.loseAt c l).cores = m.cores ∧ (m.loseAt c l).conf = m.conf ∧ (m.loseAt c l).far = m.far ∧ (m.loseAt c l).tally = m.tally ∧ (m.loseAt c l).words = m.words ∧ (m.loseAt c l).mem = m.mem ∧
    (∀ i, i ≠ c → (m.loseAt c l).firsts i = m.firsts i ∧ ∀ x, (m.loseAt c l).has i x = m.has i x) := by
  unfold RM.loseAt
  split
  · exact RM.losesS_keep m c l _
  · exact ⟨rfl, rfl, rfl, rfl, rfl, rfl, fun i _ => ⟨rfl, fun x => rfl⟩⟩

theorem RM.dropK_keep (m : RM) (l : Nat) : ∀ k, (m.dropK l k).cores = m.cores ∧ (m.dropK l k).conf = m.conf ∧ (m.dropK l k).far = m.far ∧ (m.dropK l k).words = m.words ∧ (m.dropK l k).mem = m.mem ∧
    (m.tally 7 ≤ (m.dropK l k).tally 7 ∧ (m.dropK l k).tally 7 ≤ m.tally 7 + k) ∧ (∀ j, j ≠ 7 → (m.dropK l k).tally j = m.tally j) ∧ (∀ i, k ≤ i → (m.dropK l k).firsts i = m.firsts i ∧ ∀ x, (m.dropK l k).has i x = m.has i x)
  | 0 => ⟨rfl, rfl, rfl, rfl, rfl, ⟨by show m.tally 7 ≤ m.tally 7; omega, by show m.tally 7 ≤ m.tally 7 + ((0 : Nat) : Int); omega⟩, fun _ _ => rfl, fun i _ => ⟨rfl, fun _ => rfl⟩⟩
  | k + 1 => by
    obtain ⟨h1, h2, h3, h4, h5, h6, h7, h8⟩ := RM.dropK_keep m l k
    unfold RM.dropK
    split
    · obtain ⟨g1, g2, g3, g4, g5, g6, g7⟩ := RM.loseAt_keep (m.dropK l k) k l
      have t7 : ((((m.dropK l k).loseAt k l).bump 7).tally 7) = (m.dropK l k).tally 7 + 1 := by
        show upd ((m.dropK l k).loseAt k l).tally 7 (((m.dropK l k).loseAt k l).tally 7 + 1) 7 = _
        unfold upd; rw [if_pos rfl, g4]
      refine ⟨g1.trans h1, g2.trans h2, g3.trans h3, g5.trans h4, g6.trans h5, ⟨by rw [t7]; omega, by rw [t7]; omega⟩, fun j hj => ?_, fun i hi => ⟨?_, fun x => ?_⟩⟩
      · show upd ((m.dropK l k).loseAt k l).tally 7 (((m.dropK l k).loseAt k l).tally 7 + 1) j = _
        unfold upd; rw [if_neg hj, g4]; exact h7 j hj
      · exact ((g7 i (by omega)).1).trans (h8 i (by omega)).1
      · exact ((g7 i (by omega)).2 x).trans ((h8 i (by omega)).2 x)
    · exact ⟨h1, h2, h3, h4, h5, by omega, h7, fun i hi => h8 i (by omega)⟩

set_option maxRecDepth 100000 in
set_option maxHeartbeats 1000000 in
theorem refDropped_any (y : Lay) (m : RM) (l : Nat) (w : World) (hc : 0 < m.cores ∧ m.cores ≤ 4) (hl : l < 64) (ok : ∀ i, RcOk (m.firsts i)) (hf : ∀ i, i < m.cores → m.has i l ≠ 0 → ∃ j, (m.firsts i).find l = some j)
    (ht : ∀ k, 0 ≤ m.tally k ∧ m.tally k ≤ 2305843009213693952) (H : RmAt w y m) :
    Calls Try.prog 87 #[.pointer (some ⟨y.blk 0, 0, none⟩), .int .i64 l] w fun e w' => e = .returned (.tuple #[]) ∧ RmAt w' y (m.droppedS l) ∧ Upd (rmS y m.cores) w w' := by
  have HH : Hid (RmAt w y m) := H
  have HOK : Hid (∀ i, RcOk (m.firsts i)) := ok
  have HFD : Hid (∀ i, i < m.cores → m.has i l ≠ 0 → ∃ j, (m.firsts i).find l = some j) := hf
  have HT : Hid (∀ k, 0 ≤ m.tally k ∧ m.tally k ≤ 2305843009213693952) := ht
  clear H ok hf ht
  go_enter Try.func87, Try.ntmps87
  go_wp2
  go_loopw [4] (fun i wr => ∃ k : Nat, k ≤ m.cores ∧ i = .int .i64 k ∧ RmAt wr y (m.dropK l k) ∧ Upd (rmS y m.cores) w wr) (fun i _ => m.cores - (intOf i).toNat)
  case atStart => exact ⟨0, by omega, rfl, HH.out, Upd.refl _ _⟩
  case round =>
    obtain ⟨k, hk, rfl, hs, hu⟩ := hrel
    have HS : Hid (RmAt wr y (m.dropK l k)) := hs
    have HU : Hid (Upd (rmS y m.cores) w wr) := hu
    obtain ⟨e1, e2, e3, e4, e5, e6, e7, e8⟩ := RM.dropK_keep m l k
    have h0 := hs.conf.c 0 (by omega)
    rw [hs.c0, e1] at h0
    have t7 := HT.out 7
    by_cases hlt : k < m.cores
    · have hh := hs.has k l (by omega) hl
      rw [(e8 k (Nat.le_refl _)).2 l] at hh
      by_cases e : m.has k l = 0
      · have HD : Hid (m.dropK l (k + 1) = m.dropK l k) := by show (if m.has k l ≠ 0 then _ else _) = _; rw [if_neg (by simp [e])]
        rw [e] at hh
        clear hs hu e e1 e2 e3 e4 e5 e6 e7 e8
        go_wp2
        go_roundw
        case rel => exact ⟨k + 1, by omega, by go_num, by rw [HD.out]; exact HS.out, HU.out⟩
        case measure => simp [intOf]; omega
      · obtain ⟨j, hj⟩ := HFD.out k hlt e
        have HD : Hid (m.dropK l (k + 1) = ((m.dropK l k).losesS k l (((m.dropK l k).firsts k).lo l + j)).bump 7) := by
          show (if m.has k l ≠ 0 then _ else _) = _
          rw [if_pos e]
          unfold RM.loseAt
          rw [(e8 k (Nat.le_refl _)).1, hj]
        have hj' : ((m.dropK l k).firsts k).find l = some j := by rw [(e8 k (Nat.le_refl _)).1]; exact hj
        have hok' : RcOk ((m.dropK l k).firsts k) := by rw [(e8 k (Nat.le_refl _)).1]; exact HOK.out k
        have hb : (m.has k l != 0) = true := by simpa using e
        have HJ : Hid (((m.dropK l k).firsts k).find l = some j) := hj'
        have HOK' : Hid (RcOk ((m.dropK l k).firsts k)) := hok'
        have HE1 : Hid ((m.dropK l k).cores = m.cores) := e1
        have hcc : k < (m.dropK l k).cores := by omega
        have hcc4 : (m.dropK l k).cores ≤ 4 := by omega
        clear hs hu e e1 e2 e3 e4 e5 e8 hj hj' hok' e7
        go_wp2_with fail
        refine (refLoses_any y (m.dropK l k) k l j wr hcc hcc4 hl HOK'.out HJ.out _ rfl HS.out).mono ?_
        rintro e w1 ⟨rfl, hs1, hu1⟩
        rw [HE1.out] at hu1
        have h1 := hs1.tally.c 7 (by omega)
        have h1f := hs1.tally.f 7 (by omega)
        have HS1 : Hid _ := hs1
        have HU1 : Hid _ := HU.out.trans hu1
        rw [(RM.losesS_keep (m.dropK l k) k l _).2.2.2.1] at h1
        clear hs1 hu1
        go_wp2
        go_roundw
        case rel =>
          refine ⟨k + 1, by omega, by go_num, ?_, HU1.out.setCell (fun _ => rmS_0 _) _⟩
          rw [HD.out]
          have R := HS1.out.setTally 7 (by omega) ((m.dropK l k).tally 7 + 1)
          unfold RM.bump
          rw [(RM.losesS_keep (m.dropK l k) k l _).2.2.2.1]
          rw [(RM.losesS_keep (m.dropK l k) k l _).2.2.2.1] at R
          exact R
        case measure => simp [intOf]; omega
    · have hkc : k = m.cores := by omega
      subst hkc
      have h2 := hs.lasts.c l hl
      have h2f := hs.lasts.f l hl
      have t8 := HT.out 8
      rw [← e7 8 (by omega)] at t8
      have HE1 : Hid ((m.dropK l m.cores).cores = m.cores) := e1
      have HDS : Hid (m.droppedS l = (let m2 := if (m.dropK l m.cores).lasts l = 2 then (m.dropK l m.cores).writtenS l else m.dropK l m.cores; { m2 with lasts := upd m2.lasts l 0 })) := rfl
      clear hs hu e1 e2 e3 e4 e5 e6 e7 e8
      generalize m.dropK l m.cores = mm at *
      by_cases e : mm.lasts l = 2
      · have HD2 : Hid (m.droppedS l = { mm.writtenS l with lasts := upd (mm.writtenS l).lasts l 0 }) := by show _ = _; rw [HDS.out]; simp only [if_pos e]
        rw [e] at h2
        go_wp2_with fail
        refine (refWritten_any y mm l wr hl (by omega) HS.out).mono ?_
        rintro e w1 ⟨rfl, hs1, hu1⟩
        have h3 := hs1.lasts.c l hl
        have h3f := hs1.lasts.f l hl
        have HS1 : Hid _ := hs1
        rw [HE1.out] at hu1
        have HU1 : Hid _ := HU.out.trans hu1
        clear hs1 hu1
        go_wp2
        go_end0
        exact ⟨rfl, by rw [HD2.out]; exact HS1.out.setLasts l hl 0, HU1.out.setCell (fun _ => rmS_0 _) _⟩
      · have HD2 : Hid (m.droppedS l = { mm with lasts := upd mm.lasts l 0 }) := by show _ = _; rw [HDS.out]; simp only [if_neg e]
        have hb : (mm.lasts l == 2) = false := by simpa using e
        clear e
        go_wp2
        go_end0
        exact ⟨rfl, by rw [HD2.out]; exact HS.out.setLasts l hl 0, HU.out.setCell (fun _ => rmS_0 _) _⟩

end Go.Proofs.Ytobniidkkmlilab

/- What 'since' counts, as plain functions. No program is named here. -/
namespace Go.Coh

/-- behind k, ahead of j: the line of k does not stand there -/
def fresh (xs : Nat → Int) (k : Nat) : Nat → Bool
  | 0 => true
  | j + 1 => fresh xs k j && !(decide (k < j) && decide (xs j = xs k))

theorem fresh_iff {xs : Nat → Int} {k : Nat} : ∀ {i : Nat}, fresh xs k i = true ↔ ∀ j, k < j → j < i → xs j ≠ xs k
  | 0 => by simp [fresh]
  | i + 1 => by
    have ih := @fresh_iff xs k i
    unfold fresh
    rw [Bool.and_eq_true, ih]
    constructor
    · rintro ⟨h1, h2⟩ j hj1 hj2
      by_cases e : j = i
      · subst e
        intro he
        simp [hj1, he] at h2
      · exact h1 j hj1 (by omega)
    · intro h
      refine ⟨fun j h1 h2 => h j h1 (by omega), ?_⟩
      by_cases hk : k < i
      · have := h i hk (by omega)
        simp [this]
      · simp [hk]

theorem fresh_start (xs : Nat → Int) (k : Nat) : fresh xs k (k + 1) = true := fresh_iff.2 fun j h1 h2 => by omega

/-- how many different lines stand from t on, ahead of i -/
def cnt (xs : Nat → Int) (i t : Nat) : Nat := (List.range i).countP fun k => decide (t ≤ k) && fresh xs k i

theorem cnt_top (xs : Nat → Int) (i : Nat) : cnt xs i i = 0 := by
  unfold cnt
  rw [List.countP_eq_zero]
  intro k hk
  simp at hk
  simp; omega

theorem countP_add (p q r : Nat → Bool) (l : List Nat) (h : ∀ x ∈ l, (p x).toNat = (q x).toNat + (r x).toNat) : l.countP p = l.countP q + l.countP r := by
  induction l with
  | nil => rfl
  | cons a t ih =>
    have ha := h a (by simp)
    have ht := ih (fun x hx => h x (by simp [hx]))
    rw [List.countP_cons, List.countP_cons, List.countP_cons, ht]
    have e : ∀ b : Bool, (if b = true then 1 else 0) = b.toNat := fun b => by cases b <;> rfl
    rw [e, e, e]
    omega

theorem countP_one (i k : Nat) (hk : k < i) : (List.range i).countP (fun x => decide (x = k)) = 1 := by
  induction i with
  | zero => omega
  | succ i ih =>
    rw [List.range_succ, List.countP_append]
    by_cases e : k = i
    · subst e
      have : (List.range k).countP (fun x => decide (x = k)) = 0 := by
        rw [List.countP_eq_zero]; intro x hx; simp at hx; simp; omega
      rw [this]; simp
    · rw [ih (by omega)]
      simp; omega

theorem cnt_succ (xs : Nat → Int) (i k : Nat) (hk : k < i) : cnt xs i k = cnt xs i (k + 1) + if fresh xs k i then 1 else 0 := by
  unfold cnt
  have h := countP_add (fun x => decide (k ≤ x) && fresh xs x i) (fun x => decide (k + 1 ≤ x) && fresh xs x i) (fun x => decide (x = k) && fresh xs k i) (List.range i) (by
    intro x _
    by_cases e : x = k
    · subst e
      simp
      intro h; omega
    · have : decide (k ≤ x) = decide (k + 1 ≤ x) := by rw [Bool.eq_iff_iff]; simp; omega
      simp [e, this])
  rw [h]
  congr 1
  cases fresh xs k i with
  | true => simp; exact countP_one i k hk
  | false => simp

/-- what 'since' answers -/
def SinceR (xs : Nat → Int) (i : Nat) (r : Int) : Prop :=
  (r = -1 ∧ ∀ k, k < i → xs k ≠ xs i) ∨ ∃ k, k < i ∧ xs k = xs i ∧ (∀ j, k < j → j < i → xs j ≠ xs i) ∧ r = cnt xs i (k + 1)

theorem cnt_le (xs : Nat → Int) (i t : Nat) : cnt xs i t ≤ i := by
  unfold cnt
  have := List.countP_le_length (p := fun k => decide (t ≤ k) && fresh xs k i) (l := List.range i)
  simpa using this

end Go.Coh

/- With Oldest a touch is a hit just if fewer different lines than ways were touched since. Plain functions alone. -/
namespace Go.Coh

/-- how many lines were touched later than x, of the first i touches -/
def rk (xs : Nat → Int) : Nat → Int → Option Nat
  | 0, _ => none
  | i + 1, x => if x = xs i then some 0 else match rk xs i x with
    | none => none
    | some r => some (match rk xs i (xs i) with
      | some r' => if r' < r then r else r + 1
      | none => r + 1)

theorem rk_self (xs : Nat → Int) (i : Nat) : rk xs (i + 1) (xs i) = some 0 := by unfold rk; rw [if_pos rfl]
theorem rk_none (xs : Nat → Int) (i : Nat) (x : Int) (hx : x ≠ xs i) (h : rk xs i x = none) : rk xs (i + 1) x = none := by unfold rk; rw [if_neg hx, h]
theorem rk_up (xs : Nat → Int) (i : Nat) (x : Int) (r : Nat) (hx : x ≠ xs i) (h : rk xs i x = some r) (h' : ∀ r', rk xs i (xs i) = some r' → ¬ r' < r) : rk xs (i + 1) x = some (r + 1) := by
  unfold rk
  rw [if_neg hx, h]
  cases hy : rk xs i (xs i) with
  | none => rfl
  | some r' => show some (if r' < r then r else r + 1) = _; rw [if_neg (h' r' hy)]
theorem rk_stay (xs : Nat → Int) (i : Nat) (x : Int) (r r' : Nat) (hx : x ≠ xs i) (h : rk xs i x = some r) (hy : rk xs i (xs i) = some r') (h' : r' < r) : rk xs (i + 1) x = some r := by
  unfold rk
  rw [if_neg hx, h, hy]
  show some (if r' < r then r else r + 1) = _
  rw [if_pos h']

theorem rk_inj (xs : Nat → Int) : ∀ i x y r, rk xs i x = some r → rk xs i y = some r → x = y
  | 0, x, y, r, h, _ => by cases h
  | i + 1, x, y, r, h, h' => by
    have ih := rk_inj xs i
    by_cases ex : x = xs i <;> by_cases ey : y = xs i
    · rw [ex, ey]
    · exfalso
      subst ex
      rw [rk_self] at h
      injection h with h
      subst h
      cases hy : rk xs i y with
      | none => rw [rk_none xs i y ey hy] at h'; cases h'
      | some s =>
        by_cases hc : ∃ r', rk xs i (xs i) = some r' ∧ r' < s
        · obtain ⟨r', h1, h2⟩ := hc
          rw [rk_stay xs i y s r' ey hy h1 h2] at h'
          injection h' with h'
          omega
        · rw [rk_up xs i y s ey hy (fun r' h1 h2 => hc ⟨r', h1, h2⟩)] at h'
          injection h' with h'
          omega
    · exfalso
      subst ey
      rw [rk_self] at h'
      injection h' with h'
      subst h'
      cases hy : rk xs i x with
      | none => rw [rk_none xs i x ex hy] at h; cases h
      | some s =>
        by_cases hc : ∃ r', rk xs i (xs i) = some r' ∧ r' < s
        · obtain ⟨r', h1, h2⟩ := hc
          rw [rk_stay xs i x s r' ex hy h1 h2] at h
          injection h with h
          omega
        · rw [rk_up xs i x s ex hy (fun r' h1 h2 => hc ⟨r', h1, h2⟩)] at h
          injection h with h
          omega
    · cases hx : rk xs i x with
      | none => rw [rk_none xs i x ex hx] at h; cases h
      | some s =>
        cases hy : rk xs i y with
        | none => rw [rk_none xs i y ey hy] at h'; cases h'
        | some t =>
          by_cases hc : ∃ r', rk xs i (xs i) = some r' ∧ r' < s
          · obtain ⟨r', h1, h2⟩ := hc
            rw [rk_stay xs i x s r' ex hx h1 h2] at h
            injection h with h
            by_cases hd : r' < t
            · rw [rk_stay xs i y t r' ey hy h1 hd] at h'
              injection h' with h'
              exact ih x y s hx (by rw [hy]; congr 1; omega)
            · rw [rk_up xs i y t ey hy (fun r'' e1 e2 => by rw [h1] at e1; injection e1 with e1; omega)] at h'
              injection h' with h'
              have : t = r' := by omega
              subst this
              exact absurd (ih y (xs i) t hy h1) ey
          · rw [rk_up xs i x s ex hx (fun r' h1 h2 => hc ⟨r', h1, h2⟩)] at h
            injection h with h
            by_cases hd : ∃ r', rk xs i (xs i) = some r' ∧ r' < t
            · obtain ⟨r', h1, h2⟩ := hd
              rw [rk_stay xs i y t r' ey hy h1 h2] at h'
              injection h' with h'
              have hns : ¬ r' < s := fun h2 => hc ⟨r', h1, h2⟩
              have : s = r' := by omega
              subst this
              exact absurd (ih x (xs i) s hx h1) ex
            · rw [rk_up xs i y t ey hy (fun r' h1 h2 => hd ⟨r', h1, h2⟩)] at h'
              injection h' with h'
              exact ih x y s hx (by rw [hy]; congr 1; omega)

/-- the ages are 0, 1, .., n - 1 -/
structure Perm (n : Nat) (A : Nat → Int) : Prop where
  rng : ∀ w, w < n → 0 ≤ A w ∧ A w < n
  inj : ∀ w w', w < n → w' < n → A w = A w' → w = w'
  sur : ∀ r : Nat, r < n → ∃ w, w < n ∧ A w = r

theorem Perm.touch {n k : Nat} {A : Nat → Int} (h : Perm n A) (hk : k < n) : Perm n (touchA n k A) := by
  have ak := h.rng k hk
  refine ⟨fun w hw => ?_, fun w w' hw hw' e => ?_, fun r hr => ?_⟩
  · have aw := h.rng w hw
    unfold touchA
    split
    · omega
    · split <;> omega
  · have aw := h.rng w hw
    have aw' := h.rng w' hw'
    by_cases hne : w = w'
    · exact hne
    · exfalso
      have n1 : A w ≠ A w' := fun e => hne (h.inj w w' hw hw' e)
      have n2 : w ≠ k → A w ≠ A k := fun ne e => ne (h.inj w k hw hk e)
      have n3 : w' ≠ k → A w' ≠ A k := fun ne e => ne (h.inj w' k hw' hk e)
      unfold touchA at e
      by_cases e1 : w = k
      · have e2 : w' ≠ k := fun e2 => hne (e1.trans e2.symm)
        have n3' := n3 e2
        rw [if_pos e1, if_neg e2] at e
        split at e <;> omega
      · have n2' := n2 e1
        rw [if_neg e1] at e
        by_cases e2 : w' = k
        · rw [if_pos e2] at e
          split at e <;> omega
        · have n3' := n3 e2
          rw [if_neg e2] at e
          split at e <;> split at e <;> omega
  · by_cases h0 : r = 0
    · exact ⟨k, hk, by unfold touchA; rw [if_pos rfl, h0]; rfl⟩
    · by_cases h1 : (r : Int) ≤ A k
      · obtain ⟨w, hw, e⟩ := h.sur (r - 1) (by omega)
        refine ⟨w, hw, ?_⟩
        unfold touchA
        rw [if_neg (fun e1 => by subst e1; omega), if_pos ⟨hw, by omega⟩]
        omega
      · obtain ⟨w, hw, e⟩ := h.sur r hr
        refine ⟨w, hw, ?_⟩
        unfold touchA
        rw [if_neg (fun e1 => by subst e1; omega), if_neg (by omega)]
        omega

theorem Perm.oldest {n : Nat} {A : Nat → Int} (h : Perm n A) (hn : 0 < n) : oldestW n A < n ∧ A (oldestW n A) = (n - 1 : Nat) := by
  have hlt : oldestW n A < n := argm_lt _ _ _ _ (by omega) hn
  refine ⟨hlt, ?_⟩
  obtain ⟨w, hw, e⟩ := h.sur (n - 1) (by omega)
  have h1 : A w ≤ A (oldestW n A) := argm_max A 0 n w (by omega) (by omega)
  have h2 := h.rng _ hlt
  omega

theorem Perm.new (n : Nat) : Perm n (newA n) := by
  refine ⟨fun w hw => ?_, fun w w' hw hw' e => ?_, fun r hr => ⟨r, hr, ?_⟩⟩
  · unfold newA; rw [if_pos hw]; omega
  · unfold newA at e; rw [if_pos hw, if_pos hw'] at e; omega
  · unfold newA; rw [if_pos hr]

end Go.Coh
