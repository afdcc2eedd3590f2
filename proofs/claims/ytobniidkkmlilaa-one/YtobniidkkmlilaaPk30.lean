import Derived.Test.YtobniidkkmlilaaPk29

/- The walks over the program's machine: a core loses a line; a line is written back. -/
namespace Go.Proofs.Ytobniidkkmlilaa
open Go.RowKit Go.Coh

def RM.handS (m : RM) (c l : Nat) : RM := if m.has c l = 3 then m.late l else m
def RM.leaveS (m : RM) (c l : Nat) : RM := { m.handS c l with has := updH m.has c l 0 }
def RM.pLose (m : RM) (c l : Nat) : RM := ({ m with firsts := updC m.firsts c (remC (m.firsts c) l) } : RM).leaveS c l
def RM.backS (m : RM) (l : Nat) : RM := if m.lasts l = 2 then m.writtenS l else m

theorem blk_self (b o : Nat) : blkS b b o := rfl
theorem blk_row {b off n k o : Nat} (h : rowS b off n k o) : blkS b k o := h.1
theorem handS_keep (m : RM) (c l : Nat) : (m.handS c l).cores = m.cores ∧ (m.handS c l).conf = m.conf ∧ (m.handS c l).firsts = m.firsts ∧ (m.handS c l).far = m.far ∧ (m.handS c l).has = m.has ∧ (m.handS c l).words = m.words ∧ (m.handS c l).mem = m.mem ∧ (m.handS c l).tally = m.tally := by
  unfold RM.handS; split <;> exact ⟨rfl, rfl, rfl, rfl, rfl, rfl, rfl, rfl⟩

set_option maxRecDepth 100000 in
set_option maxHeartbeats 1000000 in
theorem handOn_any (b : Nat) (m : RM) (c l : Nat) (w : World) (hc : c < 4) (hl : l < 64) (hc4 : m.cores ≤ 4) (H : PmAt w b m) :
    Calls Try.prog 57 #[.pointer (some ⟨b, 0, none⟩), .int .i64 c, .int .i64 l] w fun e w' => e = .returned (.tuple #[]) ∧ PmAt w' b (m.handS c l) ∧ Upd (blkS b) w w' := by
  have HH : Hid (PmAt w b m) := H
  have h1 := H.has c l hc hl
  have h2 := H.lasts.c l hl
  have h2f := H.lasts.f l hl
  clear H
  by_cases h3 : m.has c l = 3
  · have HS : Hid (m.handS c l = m.late l) := by show _ = _; unfold RM.handS; rw [if_pos h3]
    rw [HS.out]
    rw [h3] at h1
    clear h3 HS
    go_enter Try.func57, Try.ntmps57
    go_wp2
    go_end0
    exact ⟨rfl, HH.out.setLasts hc4 l hl 2, (Upd.refl _ _).setCell (fun _ => blk_self b _) _⟩
  · have HS : Hid (m.handS c l = m) := by show _ = _; unfold RM.handS; rw [if_neg h3]
    rw [HS.out]
    have hb : (m.has c l == 3) = false := by simpa using h3
    clear h3 HS
    generalize m.has c l = h at *
    go_enter Try.func57, Try.ntmps57
    go_wp2
    go_end0
    exact ⟨rfl, HH.out, Upd.refl _ _⟩

set_option maxRecDepth 100000 in
set_option maxHeartbeats 1000000 in
theorem leave_any (b : Nat) (m : RM) (c l : Nat) (w : World) (hc : c < 4) (hl : l < 64) (hc4 : m.cores ≤ 4) (H : PmAt w b m) :
    Calls Try.prog 109 #[.pointer (some ⟨b, 0, none⟩), .int .i64 c, .int .i64 l] w fun e w' => e = .returned (.tuple #[]) ∧ PmAt w' b (m.leaveS c l) ∧ Upd (blkS b) w w' := by
  have HH : Hid (PmAt w b m) := H
  clear H
  go_enter Try.func109, Try.ntmps109
  go_wp2_with fail
  refine (handOn_any b m c l _ hc hl hc4 HH.out).mono ?_
  rintro e w1 ⟨rfl, h1, hu⟩
  have hk := handS_keep m c l
  have h2 := h1.has c l hc hl
  have h2f := h1.bf (1027 + c * 64 + l)
  have HF : Hid (PmAt (w1.setCell ⟨b, 1027 + c * 64 + l, none⟩ (.int .i64 0)) b (m.leaveS c l)) := by
    have := h1.setHas (by rw [hk.1]; exact hc4) c l hc hl 0
    rw [hk.2.2.2.2.1] at this
    exact this
  have HU : Hid (Upd (blkS b) w w1) := hu
  clear h1 hu hk
  go_wp2
  go_end0
  exact ⟨rfl, HF.out, HU.out.setCell (fun _ => blk_self b _) _⟩

set_option maxRecDepth 100000 in
set_option maxHeartbeats 1000000 in
theorem lose_any (b : Nat) (m : RM) (c l : Nat) (w : World) (hc : c < m.cores) (hl : l < 64) (hc4 : m.cores ≤ 4) (H : PmAt w b m) :
    Calls Try.prog 83 #[.pointer (some ⟨b, 0, none⟩), .int .i64 c, .int .i64 l] w fun e w' => e = .returned (.tuple #[]) ∧ PmAt w' b (m.pLose c l) ∧ Upd (blkS b) w w' := by
  have HH : Hid (PmAt w b m) := H
  have hcc : c < 4 := by omega
  clear H
  go_enter Try.func83, Try.ntmps83
  go_wp2_with fail
  refine (cRemove_any b (7 + c * 204) l (m.firsts c) _ (by omega) (by omega) (HH.out.first c hc)).mono ?_
  rintro e w1 ⟨rfl, h1, hu⟩
  have HF : Hid (PmAt w1 b { m with firsts := updC m.firsts c (remC (m.firsts c) l) }) := HH.out.setFirst hc4 hc h1 hu
  have HU : Hid (Upd (blkS b) w w1) := hu.mono (fun _ _ h => blk_row h)
  clear h1 hu
  go_wp2_with fail
  refine (leave_any b _ c l _ hcc hl (by exact hc4) HF.out).mono ?_
  rintro e w2 ⟨rfl, h1, hu⟩
  have HF2 : Hid (PmAt w2 b (m.pLose c l)) := h1
  have HU2 : Hid (Upd (blkS b) w w2) := HU.out.trans hu
  clear h1 hu
  go_wp2
  go_end0
  exact ⟨rfl, HF2.out, HU2.out⟩

theorem memK_next (m : RM) (l k : Nat) : ({ memK m l k with mem := upd (memK m l k).mem (4 * l + k) (m.words (4 * l + k)) } : RM) = memK m l (k + 1) := by
  unfold memK
  have : (upd (fun a => if 4 * l ≤ a ∧ a < 4 * l + k then m.words a else m.mem a) (4 * l + k) (m.words (4 * l + k))) = (fun a => if 4 * l ≤ a ∧ a < 4 * l + (k + 1) then m.words a else m.mem a) := by
    funext a
    unfold upd
    by_cases e : a = 4 * l + k
    · rw [if_pos e, if_pos (by omega), e]
    · rw [if_neg e]
      show (if 4 * l ≤ a ∧ a < 4 * l + k then m.words a else m.mem a) = _
      by_cases e2 : 4 * l ≤ a ∧ a < 4 * l + k
      · rw [if_pos e2, if_pos (by omega)]
      · rw [if_neg e2, if_neg (by omega)]
  simp only [this]

set_option maxRecDepth 100000 in
set_option maxHeartbeats 1000000 in
theorem writeBack_any (b : Nat) (m : RM) (l : Nat) (w : World) (hl : l < 64) (hc4 : m.cores ≤ 4) (ht : 0 ≤ m.tally 8 ∧ m.tally 8 ≤ 4611686018427387904) (H : PmAt w b m) :
    Calls Try.prog 58 #[.pointer (some ⟨b, 0, none⟩), .int .i64 l] w fun e w' => e = .returned (.tuple #[]) ∧ PmAt w' b (m.backS l) ∧ Upd (blkS b) w w' := by
  have HH : Hid (PmAt w b m) := H
  have h1 := H.lasts.c l hl
  clear H
  by_cases h2 : m.lasts l = 2
  · have HS : Hid (m.backS l = m.writtenS l) := by show _ = _; unfold RM.backS; rw [if_pos h2]
    rw [HS.out]
    rw [h2] at h1
    clear h2 HS
    go_enter Try.func58, Try.ntmps58
    go_wp2
    go_loopw [4] (fun i wr => ∃ k : Nat, k ≤ 4 ∧ i = .int .i64 ((4 * l + k : Nat) : Int) ∧ PmAt wr b (memK m l k) ∧ Upd (blkS b) w wr) (fun i _ => 4 * l + 4 - (intOf i).toNat)
    case atStart => exact ⟨0, by omega, by go_num, by rw [memK_zero]; exact HH.out, Upd.refl _ _⟩
    case round =>
      obtain ⟨k, hk, rfl, hs, hu⟩ := hrel
      have HS : Hid (PmAt wr b (memK m l k)) := hs
      have HU : Hid (Upd (blkS b) w wr) := hu
      by_cases hlt : k < 4
      · have h1 := hs.words.c (4 * l + k) (by omega)
        have h2 := hs.mem.c (4 * l + k) (by omega)
        have h2f := hs.mem.f (4 * l + k) (by omega)
        change wr.cell? _ = some (.int .i64 (m.words (4 * l + k))) at h1
        have HM : Hid (PmAt (wr.setCell ⟨b, 1603 + (4 * l + k), none⟩ (.int .i64 (m.words (4 * l + k)))) b (memK m l (k + 1))) := by
          have := hs.setMem hc4 (4 * l + k) (by omega) (m.words (4 * l + k))
          rw [memK_next] at this
          exact this
        clear hs hu
        generalize ha : 4 * l + k = a at *
        go_wp2
        go_region
        all_goals go_wp2
        all_goals
          go_roundw
          case rel => exact ⟨k + 1, by omega, by go_num, HM.out.drew, (HU.out.setCell (fun _ => blk_self b _) _).drew⟩
          case measure => simp [intOf]; omega
      · have hk4 : k = 4 := by omega
        subst hk4
        have h1 := hs.tally.c 8 (by omega)
        have h1f := hs.tally.f 8 (by omega)
        change wr.cell? _ = some (.int .i64 (m.tally 8)) at h1
        clear hs hu
        go_wp2
        go_end0
        exact ⟨rfl, HS.out.setTally hc4 8 (by omega) _, HU.out.setCell (fun _ => blk_self b _) _⟩
  · have HS : Hid (m.backS l = m) := by show _ = _; unfold RM.backS; rw [if_neg h2]
    rw [HS.out]
    have hb : (m.lasts l != 2) = true := by simpa using h2
    clear h2 HS
    generalize m.lasts l = h at *
    go_enter Try.func58, Try.ntmps58
    go_wp2
    (try simp only [Exit.inBlock, Exit.then]); refine bodyPost_ret (results_none rfl _ _ _) rfl ?_
    exact ⟨rfl, HH.out, Upd.refl _ _⟩

set_option maxHeartbeats 1000000 in
theorem pEvict_nil (c a : Int) (w : World) :
    Calls Try.prog 54 #[.pointer none, .int .i64 c, .int .i64 a] w fun e w' => e = .returned (.int .i64 1) ∧ w' = w := by
  go_enter Try.func54, Try.ntmps54
  go_wp2_with fail
  refine (checkCoreLine_nil c a _).mono ?_
  rintro e w1 ⟨rfl, rfl⟩
  go_wp2
  go_ret
  exact ⟨rfl, rfl⟩

set_option maxHeartbeats 1000000 in
theorem pEvict_bad (b : Nat) (m : RM) (c l : Int) (w : World) (he : stateE m.cores c l ≠ 0) (H : PmAt w b m) :
    Calls Try.prog 54 #[.pointer (some ⟨b, 0, none⟩), .int .i64 c, .int .i64 l] w fun e w' => e = .returned (.int .i64 (stateE m.cores c l)) ∧ w' = w := by
  have HH : Hid (PmAt w b m) := H
  have hb : (stateE m.cores c l != 0) = true := by simpa using he
  obtain ⟨E, hE⟩ : ∃ E, stateE m.cores c l = E := ⟨_, rfl⟩
  have HEE : Hid (stateE m.cores c l = E) := hE
  rw [hE] at hb ⊢
  clear H he hE
  go_enter Try.func54, Try.ntmps54
  go_wp2_with fail
  refine (checkCoreLine_any b m c l _ HH.out).mono ?_
  rintro e w1 ⟨rfl, rfl⟩
  rw [HEE.out]
  go_wp2
  go_ret
  exact ⟨rfl, rfl⟩

set_option maxHeartbeats 1000000 in
theorem pEvict_good (b : Nat) (m : RM) (c l : Nat) (w : World) (hc : c < m.cores) (hl : l < 64) (hc4 : m.cores ≤ 4) (H : PmAt w b m) :
    Calls Try.prog 54 #[.pointer (some ⟨b, 0, none⟩), .int .i64 c, .int .i64 l] w fun e w' => e = .returned (.int .i64 0) ∧ PmAt w' b (m.pLose c l) ∧ Upd (blkS b) w w' := by
  have HH : Hid (PmAt w b m) := H
  have HE : Hid (stateE m.cores c l = 0) := by show _ = _; unfold stateE; rw [if_neg (by omega), if_neg (by omega)]
  clear H
  go_enter Try.func54, Try.ntmps54
  go_wp2_with fail
  refine (checkCoreLine_any b m c l _ HH.out).mono ?_
  rintro e w1 ⟨rfl, rfl⟩
  rw [HE.out]
  go_wp2_with fail
  refine (lose_any b m c l _ hc hl hc4 HH.out).mono ?_
  rintro e w2 ⟨rfl, h1, hu⟩
  have HF : Hid (PmAt w2 b (m.pLose c l)) := h1
  have HU := (show Hid _ from hu)
  clear h1 hu
  go_wp2
  go_ret
  exact ⟨rfl, HF.out, HU.out⟩

end Go.Proofs.Ytobniidkkmlilaa

/- What the program's steps come to, against the reference's (plain data). -/
namespace Go.Proofs.Ytobniidkkmlilaa
open Go.RowKit Go.Coh

theorem RM.pLose_eq (m : RM) (c l j : Nat) (e : (m.firsts c).find l = some j) : m.pLose c l = m.loseAt c l := by
  rw [RM.loseAt_eq m c l j e]
  have er : remC (m.firsts c) l = RC.clear (m.firsts c) ((m.firsts c).lo l + j) := by unfold remC; rw [e]
  unfold RM.pLose RM.leaveS RM.handS
  rw [er]
  by_cases h3 : m.has c l = 3
  · rw [if_pos (by exact h3), if_pos h3]; rfl
  · rw [if_neg (by exact h3), if_neg h3]
theorem RM.pLose_none (m : RM) (c l : Nat) (e : (m.firsts c).find l = none) (h : m.has c l = 0) : m.pLose c l = m := by
  have er : remC (m.firsts c) l = m.firsts c := by unfold remC; rw [e]
  unfold RM.pLose RM.leaveS RM.handS
  rw [er, updC_self]
  rw [if_neg (by show ¬ m.has c l = 3; omega)]
  have : updH m.has c l 0 = m.has := by
    funext i y; unfold updH; split
    · rename_i hh; rw [hh.1, hh.2, h]
    · rfl
  show RM.mk _ _ _ _ (updH m.has c l 0) _ _ _ _ = m
  rw [this]

theorem MInv.pEvict {m : RM} {B : Int} {c l : Nat} (h : MInv m B) (hc : c < m.cores) (hl : l < 64) : m.pLose c l = m.evictS c l := by
  have he : stateE m.cores c l = 0 := by unfold stateE; rw [if_neg (by omega), if_neg (by omega)]
  unfold RM.evictS
  by_cases h0 : m.has c l = 0
  · rw [if_neg (by intro hh; exact hh.2 h0)]
    refine RM.pLose_none m c l ?_ h0
    cases e : (m.firsts c).find l with
    | none => rfl
    | some j => exact absurd h0 ((h.find hc hl).1 ⟨j, e⟩)
  · obtain ⟨j, e⟩ := (h.find hc hl).2 h0
    rw [if_pos ⟨he, h0⟩]
    exact RM.pLose_eq m c l j e

/-! counting, and the rest -/
theorem bump_bump (m : RM) (a b : Nat) : (m.bump a).bump b = (m.bump b).bump a := by
  unfold RM.bump
  dsimp only
  have : upd (upd m.tally a (m.tally a + 1)) b (upd m.tally a (m.tally a + 1) b + 1) = upd (upd m.tally b (m.tally b + 1)) a (upd m.tally b (m.tally b + 1) a + 1) := by
    funext j
    unfold upd
    by_cases h1 : j = a
    · by_cases h2 : j = b
      · subst h1; subst h2; simp
      · subst h1; simp [h2]
    · by_cases h2 : j = b
      · subst h2; simp [h1]
      · simp [h1, h2]
  rw [this]
theorem losesS_bump (m : RM) (q c l k : Nat) : (m.bump q).losesS c l k = (m.losesS c l k).bump q := by
  unfold RM.losesS RM.bump
  dsimp only
  split <;> rfl
theorem loseAt_bump (m : RM) (q c l : Nat) : (m.bump q).loseAt c l = (m.loseAt c l).bump q := by
  unfold RM.loseAt
  show (match (m.firsts c).find l with | some j => (m.bump q).losesS c l ((m.firsts c).lo l + j) | none => m.bump q) = _
  cases (m.firsts c).find l with
  | some j => exact losesS_bump m q c l _
  | none => rfl
theorem dropK_bump (m : RM) (q l : Nat) : ∀ k, (m.bump q).dropK l k = (m.dropK l k).bump q
  | 0 => rfl
  | k + 1 => by
    unfold RM.dropK
    rw [dropK_bump m q l k]
    show (if m.has k l ≠ 0 then _ else _) = _
    split
    · rw [loseAt_bump, bump_bump]
    · rfl
theorem writtenS_bump (m : RM) (q l : Nat) : (m.bump q).writtenS l = (m.writtenS l).bump q := by
  unfold RM.writtenS
  rw [bump_bump]; rfl
theorem lasts_bump (m : RM) (q : Nat) (f : Nat → Int) : ({ m.bump q with lasts := f } : RM) = ({ m with lasts := f } : RM).bump q := rfl
theorem droppedS_bump (m : RM) (q l : Nat) : (m.bump q).droppedS l = (m.droppedS l).bump q := by
  unfold RM.droppedS
  dsimp only
  show (let m2 := if ((m.bump q).dropK l m.cores).lasts l = 2 then ((m.bump q).dropK l m.cores).writtenS l else (m.bump q).dropK l m.cores; ({ m2 with lasts := upd m2.lasts l 0 } : RM)) = _
  rw [dropK_bump]
  dsimp only
  show (let m2 := if (m.dropK l m.cores).lasts l = 2 then ((m.dropK l m.cores).bump q).writtenS l else (m.dropK l m.cores).bump q; ({ m2 with lasts := upd m2.lasts l 0 } : RM)) = _
  split
  · rw [writtenS_bump]; rfl
  · rfl
theorem gone_bump (m : RM) (q : Nat) (o : Int) : (m.bump q).gone o = (m.gone o).bump q := by
  unfold RM.gone
  split
  · exact droppedS_bump m q _
  · rfl
theorem gone_far (m : RM) (r : RC) (o : Int) : ({ m with far := r } : RM).gone o = { m.gone o with far := r } := by
  unfold RM.gone
  split
  · exact droppedS_far m r _
  · rfl

/-- 'fetch': as fetched, without what it counts -/
def RM.pFetch (m : RM) (l : Nat) : RM := match m.far.find l with
  | some j => { m with far := m.far.found (m.far.lo l + j) }
  | none => { m.gone ((missS m.far l).roomOut l) with far := farPut m.far l, lasts := upd (m.gone ((missS m.far l).roomOut l)).lasts l 1 }
theorem RM.pFetch_eq (m : RM) (l q : Nat) : (m.bump q).fetchedS l = ((m.pFetch l).bump q).bump (if (m.far.find l).isSome then 3 else 4) := by
  unfold RM.fetchedS RM.pFetch
  show (match m.far.find l with | some j => RM.bump { m.bump q with far := m.far.found (m.far.lo l + j) } 3 | none => (m.bump q).fetchedM l) = _
  split
  · rename_i e; rw [e]; rfl
  · rename_i e
    rw [e, RM.fetchedM_eq]
    show RM.bump { (m.bump q).gone ((missS m.far l).roomOut l) with far := farPut m.far l, lasts := upd ((m.bump q).gone ((missS m.far l).roomOut l)).lasts l 1 } 4 = _
    rw [gone_bump]; rfl
theorem RM.pFetch_keep (m : RM) (l : Nat) : (m.pFetch l).cores = m.cores ∧ (m.pFetch l).conf = m.conf ∧ (m.pFetch l).words = m.words := by
  unfold RM.pFetch
  split
  · exact ⟨rfl, rfl, rfl⟩
  · have := RM.gone_keep m ((missS m.far l).roomOut l)
    exact ⟨this.1, this.2.1, this.2.2.2⟩

theorem shareK_bump (m : RM) (q l : Nat) : ∀ k, (m.bump q).shareK l k = (m.shareK l k).bump q
  | 0 => rfl
  | k + 1 => by
    unfold RM.shareK
    rw [shareK_bump m q l k]
    show (if m.has k l = 0 then _ else if m.has k l = 3 then _ else _) = _
    split
    · rfl
    · split <;> rfl
theorem shareV_bump (m : RM) (q l : Nat) : ∀ k, (m.bump q).shareV l k = m.shareV l k
  | 0 => rfl
  | k + 1 => by
    unfold RM.shareV
    rw [shareV_bump m q l k]
    rfl
theorem takenS_bump (m : RM) (q c l : Nat) (v : Int) : (m.bump q).takenS c l v = (m.takenS c l v).bump q := by
  unfold RM.takenS RM.cleared
  show (let m2 := ((if 0 ≤ (m.firsts c).roomOut l then ((m.roomed c l).bump q).loseAt c ((m.firsts c).roomOut l).toNat else (m.roomed c l).bump q)).putF c ((m.firsts c).roomW l) l; ({ m2 with has := updH m2.has c l v } : RM)) = _
  dsimp only
  split
  · rw [loseAt_bump]; rfl
  · rfl

/-- 'loadLine' -/
def RM.pLine (m : RM) (c l : Nat) : RM := if m.has c l ≠ 0 then { m with firsts := updC m.firsts c (cTouch (m.firsts c) l) } else ((m.pFetch l).shareK l m.cores).takenS c l ((m.pFetch l).shareV l m.cores)
def RM.pPlace (m : RM) (c l : Nat) : Int := if m.has c l ≠ 0 then 0 else m.fetchedV l
def RM.pLoad (m : RM) (c l : Nat) : RM := ((m.pLine c l).bump 0).bump (2 + (m.pPlace c l).toNat)

theorem MInv.pLoad_eq {m : RM} {B : Int} {c l : Nat} (h : MInv m B) (hc : c < m.cores) (hl : l < 64) : m.pLoad c l = m.loadS c l ∧ m.pPlace c l = m.loadW c l := by
  have hn := (h.bump 0).near_eq (c := c) (l := l) hc hl
  have hh : (m.bump 0).has c l = m.has c l := rfl
  rw [hh] at hn
  unfold RM.pLoad RM.loadS RM.loadW RM.pLine RM.pPlace
  by_cases h0 : m.has c l ≠ 0
  · have hn' := hn.2 h0
    rw [if_pos h0, if_pos h0, if_pos hn', if_pos hn']
    refine ⟨?_, rfl⟩
    obtain ⟨j, e⟩ := (h.find hc hl).2 h0
    unfold RM.nearS cTouch
    show _ = (match (m.firsts c).find l with | some j => RM.bump { m.bump 0 with firsts := updC m.firsts c ((m.firsts c).found ((m.firsts c).lo l + j)) } 2 | none => m.bump 0)
    rw [e]; rfl
  · have hn' : ¬ (m.bump 0).nearB c l = true := fun a => h0 (hn.1 a)
    rw [if_neg h0, if_neg h0, if_neg hn', if_neg hn']
    refine ⟨?_, rfl⟩
    unfold RM.loadFar
    rw [RM.pFetch_eq, shareK_bump, shareK_bump, shareV_bump, shareV_bump, takenS_bump, takenS_bump]
    show _ = RM.bump (RM.bump (RM.takenS (RM.shareK (m.pFetch l) l m.cores) c l (RM.shareV (m.pFetch l) l m.cores)) 0) _
    have : 2 + (m.fetchedV l).toNat = if (m.far.find l).isSome then 3 else 4 := by
      unfold RM.fetchedV
      split <;> rfl
    rw [this]

end Go.Proofs.Ytobniidkkmlilaa
