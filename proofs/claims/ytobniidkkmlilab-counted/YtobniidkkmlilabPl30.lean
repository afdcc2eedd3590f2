import Derived.Test.YtobniidkkmlilabPl29

/- What the program's steps come to, against the reference's (plain data). -/
namespace Go.Proofs.Ytobniidkkmlilab
open Go.RowKit Go.Coh

theorem RM.pLose_eq (m : RM) (c l j : Nat) (e : (m.firsts c).find l = some j) : m.pLose c l = m.loseAt c l := by
  rw [RM.loseAt_eq m c l j e]
  have er : remC (m.firsts c) l = RC.clear (m.firsts c) ((m.firsts c).lo l + j) := by unfold remC; rw [e]
  unfold RM.pLose RM.leaveS RM.handS
  rw [er]
  by_cases h3 : m.has c l = 3
  · rw [if_pos (by exact h3), if_pos h3]; rfl
  · rw [if_neg (by exact h3), if_neg h3]
theorem RM.pLose_none (m : RM) (c l : Nat) (e : (m.firsts c).find l = none) (h : m.has c l = 0) : m.pLose c l = m := by
  have er : remC (m.firsts c) l = m.firsts c := by unfold remC; rw [e]
  unfold RM.pLose RM.leaveS RM.handS
  rw [er, updC_self]
  rw [if_neg (by show ¬ m.has c l = 3; omega)]
  have : updH m.has c l 0 = m.has := by
    funext i y; unfold updH; split
    · rename_i hh; rw [hh.1, hh.2, h]
    · rfl
  show RM.mk _ _ _ _ (updH m.has c l 0) _ _ _ _ = m
  rw [this]

theorem MInv.pEvict {m : RM} {B : Int} {c l : Nat} (h : MInv m B) (hc : c < m.cores) (hl : l < 64) : m.pLose c l = m.evictS c l := by
  have he : stateE m.cores c l = 0 := by unfold stateE; rw [if_neg (by omega), if_neg (by omega)]
  unfold RM.evictS
  by_cases h0 : m.has c l = 0
  · rw [if_neg (by intro hh; exact hh.2 h0)]
    refine RM.pLose_none m c l ?_ h0
    cases e : (m.firsts c).find l with
    | none => rfl
    | some j => exact absurd h0 ((h.find hc hl).1 ⟨j, e⟩)
  · obtain ⟨j, e⟩ := (h.find hc hl).2 h0
    rw [if_pos ⟨he, h0⟩]
    exact RM.pLose_eq m c l j e

/-! counting, and the rest -/
theorem bump_bump (m : RM) (a b : Nat) : (m.bump a).bump b = (m.bump b).bump a := by
  unfold RM.bump
  dsimp only
  have : upd (upd m.tally a (m.tally a + 1)) b (upd m.tally a (m.tally a + 1) b + 1) = upd (upd m.tally b (m.tally b + 1)) a (upd m.tally b (m.tally b + 1) a + 1) := by
    funext j
    unfold upd
    by_cases h1 : j = a
    · by_cases h2 : j = b
      · subst h1; subst h2; simp
      · subst h1; simp [h2]
    · by_cases h2 : j = b
      · subst h2; simp [h1]
      · simp [h1, h2]
  rw [this]
theorem losesS_bump (m : RM) (q c l k : Nat) : (m.bump q).losesS c l k = (m.losesS c l k).bump q := by
  unfold RM.losesS RM.bump
  dsimp only
  split <;> rfl
theorem loseAt_bump (m : RM) (q c l : Nat) : (m.bump q).loseAt c l = (m.loseAt c l).bump q := by
  unfold RM.loseAt
  show (match (m.firsts c).find l with | some j => (m.bump q).losesS c l ((m.firsts c).lo l + j) | none => m.bump q) = _
  cases (m.firsts c).find l with
  | some j => exact losesS_bump m q c l _
  | none => rfl
theorem dropK_bump (m : RM) (q l : Nat) : ∀ k, (m.bump q).dropK l k = (m.dropK l k).bump q
  | 0 => rfl
  | k + 1 => by
    unfold RM.dropK
    rw [dropK_bump m q l k]
    show (if m.has k l ≠ 0 then _ else _) = _
    split
    · rw [loseAt_bump, bump_bump]
    · rfl
theorem writtenS_bump (m : RM) (q l : Nat) : (m.bump q).writtenS l = (m.writtenS l).bump q := by
  unfold RM.writtenS
  rw [bump_bump]; rfl
theorem lasts_bump (m : RM) (q : Nat) (f : Nat → Int) : ({ m.bump q with lasts := f } : RM) = ({ m with lasts := f } : RM).bump q := rfl
theorem droppedS_bump (m : RM) (q l : Nat) : (m.bump q).droppedS l = (m.droppedS l).bump q := by
  unfold RM.droppedS
  dsimp only
  show (let m2 := if ((m.bump q).dropK l m.cores).lasts l = 2 then ((m.bump q).dropK l m.cores).writtenS l else (m.bump q).dropK l m.cores; ({ m2 with lasts := upd m2.lasts l 0 } : RM)) = _
  rw [dropK_bump]
  dsimp only
  show (let m2 := if (m.dropK l m.cores).lasts l = 2 then ((m.dropK l m.cores).bump q).writtenS l else (m.dropK l m.cores).bump q; ({ m2 with lasts := upd m2.lasts l 0 } : RM)) = _
  split
  · rw [writtenS_bump]; rfl
  · rfl
theorem gone_bump (m : RM) (q : Nat) (o : Int) : (m.bump q).gone o = (m.gone o).bump q := by
  unfold RM.gone
  split
  · exact droppedS_bump m q _
  · rfl
theorem gone_far (m : RM) (r : RC) (o : Int) : ({ m with far := r } : RM).gone o = { m.gone o with far := r } := by
  unfold RM.gone
  split
  · exact droppedS_far m r _
  · rfl

/-- 'fetch': as fetched, without what it counts -/
def RM.pFetch (m : RM) (l : Nat) : RM := match m.far.find l with
  | some j => { m with far := m.far.found (m.far.lo l + j) }
  | none => { m.gone ((missS m.far l).roomOut l) with far := farPut m.far l, lasts := upd (m.gone ((missS m.far l).roomOut l)).lasts l 1 }
theorem RM.pFetch_eq (m : RM) (l q : Nat) : (m.bump q).fetchedS l = ((m.pFetch l).bump q).bump (if (m.far.find l).isSome then 3 else 4) := by
  unfold RM.fetchedS RM.pFetch
  show (match m.far.find l with | some j => RM.bump { m.bump q with far := m.far.found (m.far.lo l + j) } 3 | none => (m.bump q).fetchedM l) = _
  split
  · rename_i e; rw [e]; rfl
  · rename_i e
    rw [e, RM.fetchedM_eq]
    show RM.bump { (m.bump q).gone ((missS m.far l).roomOut l) with far := farPut m.far l, lasts := upd ((m.bump q).gone ((missS m.far l).roomOut l)).lasts l 1 } 4 = _
    rw [gone_bump]; rfl
theorem RM.pFetch_keep (m : RM) (l : Nat) : (m.pFetch l).cores = m.cores ∧ (m.pFetch l).conf = m.conf ∧ (m.pFetch l).words = m.words := by
  unfold RM.pFetch
  split
  · exact ⟨rfl, rfl, rfl⟩
  · have := RM.gone_keep m ((missS m.far l).roomOut l)
    exact ⟨this.1, this.2.1, this.2.2.2⟩

theorem shareK_bump (m : RM) (q l : Nat) : ∀ k, (m.bump q).shareK l k = (m.shareK l k).bump q
  | 0 => rfl
  | k + 1 => by
    unfold RM.shareK
    rw [shareK_bump m q l k]
    show (if m.has k l = 0 then _ else if m.has k l = 3 then _ else _) = _
    split
    · rfl
    · split <;> rfl
theorem shareV_bump (m : RM) (q l : Nat) : ∀ k, (m.bump q).shareV l k = m.shareV l k
  | 0 => rfl
  | k + 1 => by
    unfold RM.shareV
    rw [shareV_bump m q l k]
    rfl
theorem takenS_bump (m : RM) (q c l : Nat) (v : Int) : (m.bump q).takenS c l v = (m.takenS c l v).bump q := by
  unfold RM.takenS RM.cleared
  show (let m2 := ((if 0 ≤ (m.firsts c).roomOut l then ((m.roomed c l).bump q).loseAt c ((m.firsts c).roomOut l).toNat else (m.roomed c l).bump q)).putF c ((m.firsts c).roomW l) l; ({ m2 with has := updH m2.has c l v } : RM)) = _
  dsimp only
  split
  · rw [loseAt_bump]; rfl
  · rfl

/-- 'loadLine' -/
def RM.pLine (m : RM) (c l : Nat) : RM := if m.has c l ≠ 0 then { m with firsts := updC m.firsts c (cTouch (m.firsts c) l) } else ((m.pFetch l).shareK l m.cores).takenS c l ((m.pFetch l).shareV l m.cores)
def RM.pPlace (m : RM) (c l : Nat) : Int := if m.has c l ≠ 0 then 0 else m.fetchedV l
def RM.pLoad (m : RM) (c l : Nat) : RM := ((m.pLine c l).bump 0).bump (2 + (m.pPlace c l).toNat)

theorem MInv.pLoad_eq {m : RM} {B : Int} {c l : Nat} (h : MInv m B) (hc : c < m.cores) (hl : l < 64) : m.pLoad c l = m.loadS c l ∧ m.pPlace c l = m.loadW c l := by
  have hn := (h.bump 0).near_eq (c := c) (l := l) hc hl
  have hh : (m.bump 0).has c l = m.has c l := rfl
  rw [hh] at hn
  unfold RM.pLoad RM.loadS RM.loadW RM.pLine RM.pPlace
  by_cases h0 : m.has c l ≠ 0
  · have hn' := hn.2 h0
    rw [if_pos h0, if_pos h0, if_pos hn', if_pos hn']
    refine ⟨?_, rfl⟩
    obtain ⟨j, e⟩ := (h.find hc hl).2 h0
    unfold RM.nearS cTouch
    show _ = (match (m.firsts c).find l with | some j => RM.bump { m.bump 0 with firsts := updC m.firsts c ((m.firsts c).found ((m.firsts c).lo l + j)) } 2 | none => m.bump 0)
    rw [e]; rfl
  · have hn' : ¬ (m.bump 0).nearB c l = true := fun a => h0 (hn.1 a)
    rw [if_neg h0, if_neg h0, if_neg hn', if_neg hn']
    refine ⟨?_, rfl⟩
    unfold RM.loadFar
    rw [RM.pFetch_eq, shareK_bump, shareK_bump, shareV_bump, shareV_bump, takenS_bump, takenS_bump]
    show _ = RM.bump (RM.bump (RM.takenS (RM.shareK (m.pFetch l) l m.cores) c l (RM.shareV (m.pFetch l) l m.cores)) 0) _
    have : 2 + (m.fetchedV l).toNat = if (m.far.find l).isSome then 3 else 4 := by
      unfold RM.fetchedV
      split <;> rfl
    rw [this]

end Go.Proofs.Ytobniidkkmlilab
