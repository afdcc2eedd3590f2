import Derived.Test.YtobniidkkmlilaaPk45

/- Plain: sizes and policies of the caches stay. -/
namespace Go.Proofs.Ytobniidkkmlilaa
open Go.RowKit Go.Coh

def SD (a b : RC) : Prop := b.S = a.S ∧ b.W = a.W ∧ b.P = a.P
theorem SD.refl (a : RC) : SD a a := ⟨rfl, rfl, rfl⟩
theorem SD.trans {a b c : RC} (h : SD a b) (k : SD b c) : SD a c := ⟨k.1.trans h.1, k.2.1.trans h.2.1, k.2.2.trans h.2.2⟩
theorem SD.roomS (s : RC) (x : Int) : SD s (s.roomS x) := ⟨(roomS_L s x).2.1, (roomS_L s x).2.2.1, (roomS_L s x).2.2.2.1⟩
theorem SD.put (s : RC) (k : Nat) (x : Int) : SD s (s.put k x) := ⟨(put_L s k x).2.1, (put_L s k x).2.2.1, (put_L s k x).2.2.2.1⟩
theorem SD.farPut (s : RC) (l : Nat) : SD s (farPut s l) := by
  unfold Go.Proofs.Ytobniidkkmlilaa.farPut
  exact (SD.trans (b := missS s l) ⟨rfl, rfl, rfl⟩ (SD.roomS _ _)).trans (SD.put _ _ _)
theorem SD.touch (s : RC) (l : Nat) : SD s (cTouch s l) := by
  unfold cTouch
  split
  · exact ⟨rfl, rfl, rfl⟩
  · exact SD.farPut s l

structure DimR (m m' : RM) : Prop where
  cf : m'.conf = m.conf
  fs : ∀ i, SD (m.firsts i) (m'.firsts i)
  fr : SD m.far m'.far
theorem DimR.refl (m : RM) : DimR m m := ⟨rfl, fun _ => SD.refl _, SD.refl _⟩
theorem DimR.trans {a b c : RM} (h : DimR a b) (k : DimR b c) : DimR a c := ⟨k.cf.trans h.cf, fun i => (h.fs i).trans (k.fs i), h.fr.trans k.fr⟩
theorem DimR.same {m m' : RM} (h1 : m'.conf = m.conf) (h2 : m'.firsts = m.firsts) (h3 : m'.far = m.far) : DimR m m' := ⟨h1, fun i => by rw [h2]; exact SD.refl _, by rw [h3]; exact SD.refl _⟩
theorem DimR.first {m m' : RM} {c : Nat} {r : RC} (h1 : m'.conf = m.conf) (h2 : m'.firsts = updC m.firsts c r) (h3 : m'.far = m.far) (hr : SD (m.firsts c) r) : DimR m m' :=
  ⟨h1, fun i => by
    rw [h2]; unfold updC
    by_cases e : i = c
    · subst e; rw [if_pos rfl]; exact hr
    · rw [if_neg e]; exact SD.refl _, by rw [h3]; exact SD.refl _⟩
theorem DimR.lose (m : RM) (c l : Nat) : DimR m (m.loseAt c l) := by
  unfold RM.loseAt
  split
  · refine DimR.first (c := c) (r := RC.clear (m.firsts c) ((m.firsts c).lo l + ‹Nat›)) ?_ ?_ ?_ ⟨rfl, rfl, rfl⟩
    all_goals (unfold RM.losesS; first | (dsimp only; done) | (dsimp only; split <;> rfl))
  · exact DimR.refl m
theorem DimR.dropK (m : RM) (l : Nat) : ∀ k, DimR m (m.dropK l k)
  | 0 => DimR.refl m
  | k + 1 => by
    unfold RM.dropK
    split
    · exact ((DimR.dropK m l k).trans (DimR.lose _ _ _)).trans (DimR.same rfl rfl rfl)
    · exact DimR.dropK m l k
theorem DimR.gone (m : RM) (o : Int) : DimR m (m.gone o) := by
  unfold RM.gone
  split
  · have h := DimR.dropK m o.toNat m.cores
    unfold RM.droppedS
    dsimp only
    split
    · exact h.trans (DimR.same rfl rfl rfl)
    · exact h.trans (DimR.same rfl rfl rfl)
  · exact DimR.refl m
theorem DimR.pFetch (m : RM) (l : Nat) : DimR m (m.pFetch l) := by
  unfold RM.pFetch
  split
  · exact ⟨rfl, fun _ => SD.refl _, ⟨rfl, rfl, rfl⟩⟩
  · have h := DimR.gone m ((missS m.far l).roomOut l)
    exact ⟨h.cf, h.fs, SD.farPut _ _⟩
theorem DimR.takeK (m : RM) (c l : Nat) : ∀ k, DimR m (m.takeK c l k)
  | 0 => DimR.refl m
  | k + 1 => by
    unfold RM.takeK
    split
    · exact ((DimR.takeK m c l k).trans (DimR.lose _ _ _)).trans (DimR.same rfl rfl rfl)
    · exact DimR.takeK m c l k
theorem DimR.shareK (m : RM) (l k : Nat) : DimR m (m.shareK l k) := DimR.same (RM.shareK_keep m l k).2.1 (RM.shareK_keep m l k).2.2.1 (RM.shareK_keep m l k).2.2.2.1
theorem DimR.taken (m : RM) (c l : Nat) (v : Int) : DimR m (m.takenS c l v) := by
  have h1 : DimR m (m.roomed c l) := DimR.first (c := c) rfl rfl rfl (SD.roomS _ _)
  have h2 : DimR m (m.cleared c l) := by
    unfold RM.cleared
    split
    · exact h1.trans (DimR.lose _ _ _)
    · exact h1
  exact h2.trans (DimR.first (c := c) (r := ((m.cleared c l).firsts c).put ((m.firsts c).roomW l) l) rfl rfl rfl (SD.put _ _ _))
theorem DimR.pLine (m : RM) (c l : Nat) : DimR m (m.pLine c l) := by
  unfold RM.pLine
  split
  · exact DimR.first (c := c) rfl rfl rfl (SD.touch _ _)
  · exact ((DimR.pFetch m l).trans (DimR.shareK _ _ _)).trans (DimR.taken _ _ _ _)
theorem DimR.pHere (m : RM) (c l : Nat) : DimR m (m.pHere c l) := by
  unfold RM.pHere
  split
  · exact DimR.first (c := c) rfl rfl rfl (SD.touch _ _)
  · exact DimR.first (c := c) rfl rfl rfl (SD.touch _ _)
theorem DimR.pSLine (m : RM) (c l : Nat) : DimR m (m.pSLine c l) := by
  unfold RM.pSLine
  split
  · exact ((DimR.pFetch m l).trans (DimR.takeK _ _ _ _)).trans (DimR.taken _ _ _ _)
  · exact ((DimR.pHere m c l).trans (DimR.takeK _ c l m.cores)).trans (DimR.same rfl rfl rfl)

/-- sizes and policies are those of the machine's numbers -/
structure Dm (m : RM) : Prop where
  fs : ∀ i, (m.firsts i).S = (m.conf 1).toNat ∧ (m.firsts i).W = (m.conf 2).toNat ∧ (m.firsts i).P = (m.conf 3).toNat
  fr : m.far.S = (m.conf 4).toNat ∧ m.far.W = (m.conf 5).toNat ∧ m.far.P = (m.conf 6).toNat
theorem Dm.of {m m' : RM} (h : Dm m) (r : DimR m m') : Dm m' :=
  ⟨fun i => by
    obtain ⟨h1, h2, h3⟩ := h.fs i
    obtain ⟨r1, r2, r3⟩ := r.fs i
    rw [r1, r2, r3, r.cf]; exact ⟨h1, h2, h3⟩, by
    obtain ⟨h1, h2, h3⟩ := h.fr
    obtain ⟨r1, r2, r3⟩ := r.fr
    rw [r1, r2, r3, r.cf]; exact ⟨h1, h2, h3⟩⟩
theorem fresh_dm (m : RM) : Dm m.freshS := ⟨fun _ => ⟨rfl, rfl, rfl⟩, ⟨rfl, rfl, rfl⟩⟩
theorem DimR.lS {m : RM} {B : Int} (I : MInv m B) (c a : Int) : DimR m (m.lS c a) := by
  unfold RM.lS
  split
  · rename_i he
    obtain ⟨i, j, rfl, rfl, hi, hj⟩ := refE_nat he
    rw [← (I.pLoad_eq (c := ((i : Int)).toNat) (l := ((j : Int)).toNat / 4) (by simpa using hi) (by simp; omega)).1]
    exact (DimR.pLine m _ _).trans (DimR.same rfl rfl rfl)
  · exact DimR.refl m
theorem DimR.sS {m : RM} {B : Int} (I : MInv m B) (c a v : Int) : DimR m (m.sS c a v) := by
  unfold RM.sS
  split
  · rename_i he
    obtain ⟨i, j, rfl, rfl, hi, hj⟩ := refE_nat he
    rw [← (I.pStore_eq (c := ((i : Int)).toNat) (l := ((j : Int)).toNat / 4) (by simpa using hi) (by simp; omega) _ _).1]
    exact (DimR.pSLine m _ _).trans (DimR.same rfl rfl rfl)
  · exact DimR.refl m
theorem drain_conf (m : RM) : m.drainS.conf = m.conf := (RM.drainK_keep m 64).2.1
theorem kst_dm {m : RM} {B : Int} (h : Dm m) (I : MInv m B) (o : Nat → Int) : Dm (m.kst o) ∧ (m.kst o).conf = m.conf := by
  unfold RM.kst
  split
  · have r : DimR m (m.evictS (pickN (o 1) m.cores) ((pickN (o 2) 256 / 4 : Nat) : Int)) := by
      unfold RM.evictS; split
      · exact DimR.lose _ _ _
      · exact DimR.refl m
    exact ⟨h.of r, r.cf⟩
  · split
    · exact ⟨fresh_dm _, drain_conf m⟩
    · split
      · have r := DimR.sS I (pickN (o 1) m.cores) (pickN (o 2) 256) (o 3)
        exact ⟨h.of r, r.cf⟩
      · have r := DimR.lS I (pickN (o 1) m.cores) (pickN (o 2) 256)
        exact ⟨h.of r, r.cf⟩
theorem krun_dm {m : RM} {B : Int} (h : MInv m B) (c : CInv m) (d : Dm m) (os : Nat → Nat → Int) : ∀ k, Dm (m.krun os k) ∧ (m.krun os k).conf = m.conf
  | 0 => ⟨d, rfl⟩
  | k + 1 => by
    obtain ⟨h1, h2⟩ := krun_dm h c d os k
    obtain ⟨k1, k2⟩ := kst_dm h1 (krun_inv h c os k).1 (os k)
    exact ⟨k1, k2.trans h2⟩

/-! how many cores have a line, and how -/
theorem cnt_one {P : Nat → Bool} : ∀ k, (∀ i j, i < k → j < k → P i = true → P j = true → i = j) → cnt P k ≤ 1
  | 0, _ => by simp [cnt]
  | k + 1, h => by
    unfold cnt
    by_cases e : P k = true
    · have : cnt P k = 0 := cnt_none (fun n hn => by
        cases q : P n with
        | false => rfl
        | true => have := h n k (by omega) (by omega) q e; omega)
      rw [this, if_pos e]; omega
    · rw [if_neg e]
      have := cnt_one k (fun i j hi hj => h i j (by omega) (by omega)); omega
theorem cnt_pos {P : Nat → Bool} : ∀ k, cnt P k ≠ 0 → ∃ i, i < k ∧ P i = true
  | 0, h => absurd rfl h
  | k + 1, h => by
    by_cases e : P k = true
    · exact ⟨k, by omega, e⟩
    · have : cnt P (k + 1) = cnt P k := by
        show cnt P k + (if P k = true then 1 else 0) = _
        rw [if_neg e]; rfl
      rw [this] at h
      obtain ⟨i, hi, q⟩ := cnt_pos k h
      exact ⟨i, by omega, q⟩
def RM.shN (m : RM) (l : Nat) (k : Nat) : Nat := cnt (fun i => decide (m.has i l = 1)) k
def RM.ownN (m : RM) (l : Nat) (k : Nat) : Nat := cnt (fun i => decide (2 ≤ m.has i l)) k
theorem CInv.copies {m : RM} (h : CInv m) {l : Nat} (hl : l < 64) : m.ownN l m.cores ≤ 1 ∧ (m.ownN l m.cores = 1 → m.shN l m.cores = 0) ∧ (m.ownN l m.cores + m.shN l m.cores ≠ 0 → m.lasts l ≠ 0) := by
  have h1 : m.ownN l m.cores ≤ 1 := cnt_one _ (fun i j hi hj p q => by
    simp only [decide_eq_true_eq] at p q
    by_cases e : i = j
    · exact e
    · have := h.ow i j l hi hj e hl p; omega)
  refine ⟨h1, fun e => ?_, fun e => ?_⟩
  · obtain ⟨i, hi, p⟩ := cnt_pos m.cores (P := fun i => decide (2 ≤ m.has i l)) (by show m.ownN l m.cores ≠ 0; omega)
    simp only [decide_eq_true_eq] at p
    refine cnt_none (fun n hn => ?_)
    simp only [decide_eq_false_iff_not]
    by_cases e : i = n
    · subst e; omega
    · have := h.ow i n l hi hn e hl p; omega
  · have : ∃ i, i < m.cores ∧ m.has i l ≠ 0 := by
      by_cases e1 : m.ownN l m.cores = 0
      · obtain ⟨i, hi, p⟩ := cnt_pos m.cores (P := fun i => decide (m.has i l = 1)) (by show m.shN l m.cores ≠ 0; omega)
        simp only [decide_eq_true_eq] at p
        exact ⟨i, hi, by omega⟩
      · obtain ⟨i, hi, p⟩ := cnt_pos m.cores (P := fun i => decide (2 ≤ m.has i l)) e1
        simp only [decide_eq_true_eq] at p
        exact ⟨i, hi, by omega⟩
    obtain ⟨i, hi, p⟩ := this
    exact (h.la l hl).2 (h.inc i l hi hl p)

/-- lines of a set: no more than ways -/
theorem cnt_congr {P Q : Nat → Bool} : ∀ k, (∀ n, n < k → P n = Q n) → cnt P k = cnt Q k
  | 0, _ => rfl
  | k + 1, h => by
    show cnt P k + (if P k = true then 1 else 0) = cnt Q k + (if Q k = true then 1 else 0)
    rw [cnt_congr k (fun n hn => h n (by omega)), h k (by omega)]
def RM.nearN (m : RM) (i S s k : Nat) : Nat := cnt (fun n => decide (n % S = s) && decide (m.has i n ≠ 0)) k
def RM.farN (m : RM) (S s k : Nat) : Nat := cnt (fun n => decide (n % S = s) && decide (m.lasts n ≠ 0)) k
theorem MInv.near_room {m : RM} {B : Int} (I : MInv m B) (D : Dm m) {i : Nat} (hi : i < m.cores) (s k : Nat) (hk : k ≤ 64) : m.nearN i (m.conf 1).toNat s k ≤ (m.conf 2).toNat := by
  obtain ⟨d1, d2, _⟩ := D.fs i
  have h := set_room (s := m.firsts i) s k
  rw [d1, d2] at h
  refine Nat.le_trans (Nat.le_of_eq ?_) h
  refine cnt_congr k (fun n hn => ?_)
  congr 1
  have q := I.find (c := i) (l := n) hi (by omega)
  cases e : (m.firsts i).find (n : Int) with
  | none =>
    show decide (m.has i n ≠ 0) = false
    simp only [decide_eq_false_iff_not]
    intro z
    obtain ⟨j, hj⟩ := q.2 z
    rw [e] at hj; cases hj
  | some j =>
    show decide (m.has i n ≠ 0) = true
    simp only [decide_eq_true_eq]
    exact q.1 ⟨j, e⟩
theorem CInv.far_room {m : RM} (C : CInv m) (D : Dm m) (s k : Nat) (hk : k ≤ 64) : m.farN (m.conf 4).toNat s k ≤ (m.conf 5).toNat := by
  obtain ⟨d1, d2, _⟩ := D.fr
  have h := set_room (s := m.far) s k
  rw [d1, d2] at h
  refine Nat.le_trans (Nat.le_of_eq ?_) h
  refine cnt_congr k (fun n hn => ?_)
  congr 1
  have q := C.la n (by omega)
  cases e : m.far.find (n : Int) with
  | none =>
    show decide (m.lasts n ≠ 0) = false
    simp only [decide_eq_false_iff_not]
    intro z
    exact find_none.1 e (q.1 z)
  | some j =>
    show decide (m.lasts n ≠ 0) = true
    simp only [decide_eq_true_eq]
    exact q.2 (find_isSome.1 (by rw [e]; rfl))

end Go.Proofs.Ytobniidkkmlilaa
