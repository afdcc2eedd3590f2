import Derived.Test.YtobniidkkmlilaaPk23

/- The reference's machine: every step keeps what holds of it; what a step comes to (plain data). -/
namespace Go.Proofs.Ytobniidkkmlilaa
open Go.RowKit Go.Coh

structure MInv (m : RM) (B : Int) : Prop where
  c : 0 < m.cores ∧ m.cores ≤ 4
  fi : FI m.cores m.firsts m.has B
  okf : RcOk m.far
  lnf : LnOk m.far
  clf : m.far.clock ≤ B
  flf : m.far.fills ≤ B
  pf : m.far.P ≤ 4
  ht : ∀ k, 0 ≤ m.tally k ∧ m.tally k ≤ B
  c0 : m.conf 0 = m.cores
  ck : checkE m.conf = 0

section
variable {m : RM} {B B' : Int} {c l k : Nat}

theorem MInv.mono (h : MInv m B) (hb : B ≤ B') : MInv m B' :=
  ⟨h.c, h.fi.mono hb, h.okf, h.lnf, Int.le_trans h.clf hb, Int.le_trans h.flf hb, h.pf, fun k => ⟨(h.ht k).1, Int.le_trans (h.ht k).2 hb⟩, h.c0, h.ck⟩

theorem MInv.rmOk (h : MInv m B) : RmOk m B := ⟨h.c, h.fi.ok, h.okf, h.fi.cl, h.fi.fl, h.clf, h.flf, h.ht⟩

theorem bump_ht {t : Nat → Int} (h : ∀ k, 0 ≤ t k ∧ t k ≤ B) (k : Nat) : ∀ j, 0 ≤ upd t k (t k + 1) j ∧ upd t k (t k + 1) j ≤ B + 1 := fun j => by
  have h1 := h j
  have h2 := h k
  unfold upd; split <;> omega

theorem MInv.bump (h : MInv m B) (k : Nat) : MInv (m.bump k) (B + 1) :=
  have h1 := h.mono (B' := B + 1) (by omega)
  ⟨h1.c, h1.fi, h1.okf, h1.lnf, h1.clf, h1.flf, h1.pf, bump_ht h.ht k, h1.c0, h1.ck⟩

theorem MInv.find (h : MInv m B) (hc : c < m.cores) (hl : l < 64) : (∃ j, (m.firsts c).find l = some j) ↔ m.has c l ≠ 0 := by
  rw [h.fi.hs c l hc hl]
  constructor
  · rintro ⟨j, e⟩; exact find_isSome.1 (by rw [e]; rfl)
  · exact find_some

theorem MInv.near_eq (h : MInv m B) (hc : c < m.cores) (hl : l < 64) : m.nearB c l = true ↔ m.has c l ≠ 0 := by
  unfold RM.nearB
  rw [find_isSome, h.fi.hs c l hc hl]

theorem MInv.near (h : MInv m B) (hc : c < m.cores) : MInv (m.nearS c l) (B + 1) := by
  have h1 := h.mono (B' := B + 1) (by omega)
  unfold RM.nearS
  split
  · exact ⟨h.c, h.fi.found hc _, h.okf, h.lnf, h1.clf, h1.flf, h.pf, bump_ht h.ht 2, h.c0, h.ck⟩
  · exact h1

/-- core c, which has the line, loses it -/
theorem RM.loseAt_eq (m : RM) (c l j : Nat) (e : (m.firsts c).find l = some j) : m.loseAt c l = { m with firsts := updC m.firsts c (RC.clear (m.firsts c) ((m.firsts c).lo l + j)), has := updH m.has c l 0, lasts := if m.has c l = 3 then upd m.lasts l 2 else m.lasts } := by
  unfold RM.loseAt
  rw [e]
  show m.losesS c l _ = _
  unfold RM.losesS
  by_cases h3 : m.has c l = 3
  · rw [if_pos h3, if_pos h3]; rfl
  · rw [if_neg h3, if_neg h3]

theorem MInv.lose (h : MInv m B) (hc : c < m.cores) (hl : l < 64) (hh : m.has c l ≠ 0) : MInv (m.loseAt c l) B := by
  obtain ⟨j, e⟩ := (h.find hc hl).2 hh
  rw [RM.loseAt_eq m c l j e]
  exact ⟨h.c, h.fi.lose hc hl e, h.okf, h.lnf, h.clf, h.flf, h.pf, h.ht, h.c0, h.ck⟩

theorem RM.loseAt_has (m : RM) (c l : Nat) (i y : Nat) (h : y ≠ l ∨ i ≠ c) : (m.loseAt c l).has i y = m.has i y := by
  unfold RM.loseAt
  split
  · have : (m.losesS c l ((m.firsts c).lo l + ‹Nat›)).has = updH m.has c l 0 := by unfold RM.losesS; split <;> rfl
    rw [this]; unfold updH; rw [if_neg (by omega)]
  · rfl
theorem RM.loseAt_has0 (m : RM) (c l j : Nat) (e : (m.firsts c).find l = some j) : (m.loseAt c l).has c l = 0 := by
  rw [RM.loseAt_eq m c l j e]
  show updH m.has c l 0 c l = 0
  unfold updH; rw [if_pos ⟨rfl, rfl⟩]
theorem RM.dropK_has (m : RM) (l : Nat) : ∀ k i y, y ≠ l → (m.dropK l k).has i y = m.has i y
  | 0, _, _, _ => rfl
  | k + 1, i, y, h => by
    unfold RM.dropK
    split
    · show ((m.dropK l k).loseAt k l).has i y = _
      rw [RM.loseAt_has _ _ _ _ _ (.inl h)]; exact RM.dropK_has m l k i y h
    · exact RM.dropK_has m l k i y h

theorem MInv.dropK (h : MInv m B) (hl : l < 64) : ∀ k, k ≤ m.cores → MInv (m.dropK l k) (B + k)
  | 0, _ => h.mono (by omega)
  | k + 1, hk => by
    have ih := MInv.dropK h hl k (by omega)
    have kp := RM.dropK_keep m l k
    unfold RM.dropK
    split
    · rename_i hh
      have h1 := (ih.lose (c := k) (l := l) (by rw [kp.1]; omega) hl (by rw [(kp.2.2.2.2.2.2.2 k (Nat.le_refl _)).2 l]; exact hh)).bump 7
      exact h1.mono (by omega)
    · exact ih.mono (by omega)

theorem MInv.written (h : MInv m B) (l : Nat) : MInv (m.writtenS l) (B + 1) :=
  have h1 := h.mono (B' := B + 1) (by omega)
  ⟨h1.c, h1.fi, h1.okf, h1.lnf, h1.clf, h1.flf, h1.pf, bump_ht h.ht 8, h1.c0, h1.ck⟩

theorem MInv.lasts (h : MInv m B) (f : Nat → Int) : MInv { m with lasts := f } B :=
  ⟨h.c, h.fi, h.okf, h.lnf, h.clf, h.flf, h.pf, h.ht, h.c0, h.ck⟩
theorem MInv.words (h : MInv m B) (f : Nat → Int) : MInv { m with words := f } B :=
  ⟨h.c, h.fi, h.okf, h.lnf, h.clf, h.flf, h.pf, h.ht, h.c0, h.ck⟩
theorem MInv.has (h : MInv m B) {H' : Nat → Nat → Int} (e : ∀ i l, H' i l = 0 ↔ m.has i l = 0) : MInv { m with has := H' } B :=
  ⟨h.c, h.fi.has e, h.okf, h.lnf, h.clf, h.flf, h.pf, h.ht, h.c0, h.ck⟩
theorem MInv.farTo (h : MInv m B) {r : RC} (okf : RcOk r) (lnf : LnOk r) (clf : r.clock ≤ B) (flf : r.fills ≤ B) (pf : r.P ≤ 4) : MInv { m with far := r } B :=
  ⟨h.c, h.fi, okf, lnf, clf, flf, pf, h.ht, h.c0, h.ck⟩

theorem MInv.dropped (h : MInv m B) (hl : l < 64) : MInv (m.droppedS l) (B + 5) := by
  have hc := h.c
  have h1 := h.dropK hl m.cores (Nat.le_refl _)
  have h2 : MInv (if (m.dropK l m.cores).lasts l = 2 then (m.dropK l m.cores).writtenS l else m.dropK l m.cores) (B + 5) := by
    split
    · exact (h1.written l).mono (by omega)
    · exact h1.mono (by omega)
  exact h2.lasts _
theorem RM.droppedS_has (m : RM) (l i y : Nat) (h : y ≠ l) : (m.droppedS l).has i y = m.has i y := by
  have := RM.dropK_has m l m.cores i y h
  unfold RM.droppedS
  dsimp only
  split
  · exact this
  · exact this

theorem losesS_far (m : RM) (r : RC) (c l k : Nat) : ({ m with far := r } : RM).losesS c l k = { m.losesS c l k with far := r } := by
  unfold RM.losesS
  dsimp only
  split <;> rfl
theorem loseAt_far (m : RM) (r : RC) (c l : Nat) : ({ m with far := r } : RM).loseAt c l = { m.loseAt c l with far := r } := by
  unfold RM.loseAt
  dsimp only
  split
  · exact losesS_far m r c l _
  · rfl
theorem dropK_far (m : RM) (r : RC) (l : Nat) : ∀ k, ({ m with far := r } : RM).dropK l k = { m.dropK l k with far := r }
  | 0 => rfl
  | k + 1 => by
    unfold RM.dropK
    dsimp only
    rw [dropK_far m r l k]
    split
    · rw [loseAt_far]; rfl
    · rfl
theorem droppedS_far (m : RM) (r : RC) (l : Nat) : ({ m with far := r } : RM).droppedS l = { m.droppedS l with far := r } := by
  unfold RM.droppedS
  dsimp only
  rw [dropK_far]
  dsimp only
  split <;> rfl

/-- what is behind a miss in the last cache: the line that had to go is dropped -/
def RM.gone (m : RM) (o : Int) : RM := if 0 ≤ o then m.droppedS o.toNat else m
def farPut (s : RC) (l : Nat) : RC := ((missS s l).roomS l).put ((missS s l).roomW l) l
theorem RM.fetchedM_eq (m : RM) (l : Nat) : m.fetchedM l = RM.bump { m.gone ((missS m.far l).roomOut l) with far := farPut m.far l, lasts := upd (m.gone ((missS m.far l).roomOut l)).lasts l 1 } 4 := by
  unfold RM.fetchedM RM.clearedF RM.roomedF RM.gone
  dsimp only
  split
  · rw [droppedS_far]; rfl
  · rfl

theorem farPut_L {s : RC} (ok : RcOk s) (l : Nat) : RcOk (farPut s l) ∧ (farPut s l).S = s.S ∧ (farPut s l).W = s.W ∧ (farPut s l).P = s.P ∧ (farPut s l).clock = s.clock + 1 ∧ (farPut s l).fills ≤ s.fills + 1 ∧ ∃ j, j < s.W ∧ (farPut s l).L = upd s.L (s.lo l + j) l ∧ (missS s l).roomOut l = s.L (s.lo l + j) := by
  have okm := ok.miss (x := l)
  obtain ⟨j, hj, e1, e2⟩ := room_in okm l
  have hr := roomS_L (missS s l) l
  have hp := put_L ((missS s l).roomS l) ((missS s l).roomW l) l
  refine ⟨(okm.roomS l).put _ (by omega), hp.2.1.trans hr.2.1, hp.2.2.1.trans hr.2.2.1, hp.2.2.2.1.trans hr.2.2.2.1, ?_, ?_, j, hj, ?_, e2⟩
  · exact hp.2.2.2.2.1.trans (by rw [hr.2.2.2.2.2.1]; rfl)
  · have := hp.2.2.2.2.2.1; rw [hr.2.2.2.2.2.2.1] at this; exact this
  · refine hp.1.trans ?_
    rw [hr.1, e1]; rfl

theorem MInv.gone (h : MInv m B) {o : Int} (ho : o < 64) : MInv (m.gone o) (B + 5) := by
  unfold RM.gone
  split
  · exact h.dropped (by omega)
  · exact h.mono (by omega)
theorem RM.gone_keep (m : RM) (o : Int) : (m.gone o).cores = m.cores ∧ (m.gone o).conf = m.conf ∧ (m.gone o).far = m.far ∧ (m.gone o).words = m.words := by
  unfold RM.gone
  split
  · have := RM.droppedS_keep m o.toNat; exact ⟨this.1, this.2.1, this.2.2.1, this.2.2.2.1⟩
  · exact ⟨rfl, rfl, rfl, rfl⟩
theorem RM.gone_has (m : RM) (o : Int) (i y : Nat) (h : (y : Int) ≠ o) : (m.gone o).has i y = m.has i y := by
  unfold RM.gone
  split
  · exact RM.droppedS_has m _ _ _ (by omega)
  · rfl

theorem miss_find (s : RC) (x y : Int) : (missS s x).find y = s.find y := rfl
theorem MInv.outF (h : MInv m B) (l : Nat) : (missS m.far l).roomOut l < 64 := (out_in (h.okf.miss (x := l)) (h.lnf.congr rfl rfl rfl) l).1
theorem MInv.outF_ne (h : MInv m B) (hn : m.far.find l = none) : (l : Int) ≠ (missS m.far l).roomOut l := by
  intro e
  obtain ⟨_, h2⟩ := out_in (h.okf.miss (x := l)) (h.lnf.congr rfl rfl rfl) l
  obtain ⟨j, _, e2, _⟩ := h2 (by omega)
  rw [← e, miss_find, hn] at e2
  cases e2

theorem MInv.fetched (h : MInv m B) (hl : l < 64) : MInv (m.fetchedS l) (B + 6) ∧ ∀ i, (m.fetchedS l).has i l = m.has i l := by
  unfold RM.fetchedS
  split
  · refine ⟨?_, fun _ => rfl⟩
    have h1 := h.mono (B' := B + 1) (by omega)
    have h2 : MInv { m with far := m.far.found (m.far.lo l + ‹Nat›) } (B + 1) := h1.farTo (h.okf.found _) (h.lnf.congr rfl rfl rfl) (by show m.far.clock + 1 ≤ B + 1; have := h.clf; omega) h1.flf h.pf
    exact (h2.bump 3).mono (by omega)
  · rename_i hn
    have hne := h.outF_ne hn
    rw [RM.fetchedM_eq]
    refine ⟨?_, fun i => RM.gone_has m _ i l hne⟩
    have h1 := h.gone (h.outF l)
    obtain ⟨f1, f2, f3, f4, f5, f6, j, hj, f7, f8⟩ := farPut_L h.okf l
    obtain ⟨l1, _⟩ := put_ln h.lnf h.okf f2 f3 hj f7 (by omega) (by omega) (find_none.1 hn)
    have h2 := h1.farTo (r := farPut m.far l) f1 l1 (by have := h.clf; omega) (by have := h.flf; omega) (by rw [f4]; exact h.pf)
    exact ((h2.lasts _).bump 4).mono (by omega)

theorem RM.shareK_zero (m : RM) (l : Nat) : ∀ k i y, (m.shareK l k).has i y = 0 ↔ m.has i y = 0
  | 0, _, _ => Iff.rfl
  | k + 1, i, y => by
    have ih := RM.shareK_zero m l k i y
    have key : ∀ hh : m.has k l ≠ 0, updH (m.shareK l k).has k l 1 i y = 0 ↔ m.has i y = 0 := fun hh => by
      unfold updH
      by_cases e : i = k ∧ y = l
      · rw [if_pos e, e.1, e.2]; exact ⟨fun a => absurd a (by omega), fun a => absurd a hh⟩
      · rw [if_neg e]; exact ih
    unfold RM.shareK
    split
    · exact ih
    · rename_i hh
      split
      · exact key hh
      · exact key hh

theorem MInv.share (h : MInv m B) (l k : Nat) : MInv (m.shareK l k) B := by
  obtain ⟨h1, h2, h3, h4, h5, h6, h7, _⟩ := RM.shareK_keep m l k
  have hz := RM.shareK_zero m l k
  refine ⟨by rw [h1]; exact h.c, ?_, by rw [h4]; exact h.okf, by rw [h4]; exact h.lnf, by rw [h4]; exact h.clf, by rw [h4]; exact h.flf, by rw [h4]; exact h.pf, by rw [h7]; exact h.ht, by rw [h1, h2]; exact h.c0, by rw [h2]; exact h.ck⟩
  rw [h1, h3]
  exact h.fi.has hz

/-- what has to go, of core c's table -/
def outH (H : Nat → Nat → Int) (c : Nat) (o : Int) : Nat → Nat → Int := if 0 ≤ o then updH H c o.toNat 0 else H
def outL (H : Nat → Nat → Int) (f : Nat → Int) (c : Nat) (o : Int) : Nat → Int := if 0 ≤ o ∧ H c o.toNat = 3 then upd f o.toNat 2 else f
def firPut (s : RC) (l : Nat) : RC := (s.roomS l).put (s.roomW l) l
theorem upd_upd (f : Nat → Int) (k : Nat) (u v : Int) : upd (upd f k u) k v = upd f k v := by
  funext j; unfold upd; split <;> rfl
theorem updC_updC (f : Nat → RC) (k : Nat) (u v : RC) : updC (updC f k u) k v = updC f k v := by
  funext j; unfold updC; split <;> rfl
theorem updC_at (f : Nat → RC) (k : Nat) (u : RC) : updC f k u k = u := by unfold updC; rw [if_pos rfl]
theorem updC_self (f : Nat → RC) (k : Nat) : updC f k (f k) = f := by funext j; unfold updC; split; rename_i e; rw [e]; rfl
theorem put_clear (s : RC) (k : Nat) (x : Int) : (RC.clear s k).put k x = s.put k x := by
  unfold RC.put
  have : (RC.clear s k).as x = s.as x := rfl
  rw [this]
  show (if s.as x = 3 then _ else _) = _
  have e : ∀ v, upd (RC.clear s k).L k v = upd s.L k v := fun v => upd_upd _ _ _ _
  rw [e]
  rfl

theorem RM.takenS_eq (m : RM) (c l : Nat) (v : Int) (ok : RcOk (m.firsts c)) (ln : LnOk (m.firsts c)) :
    m.takenS c l v = { m with firsts := updC m.firsts c (firPut (m.firsts c) l), has := updH (outH m.has c ((m.firsts c).roomOut l)) c l v, lasts := outL m.has m.lasts c ((m.firsts c).roomOut l) } := by
  have hr := roomS_L (m.firsts c) l
  unfold RM.takenS RM.cleared outH outL
  dsimp only
  by_cases ho : 0 ≤ (m.firsts c).roomOut l
  · rw [if_pos ho]
    obtain ⟨_, h2⟩ := out_in ok ln l
    obtain ⟨j, e1, e2, e3⟩ := h2 ho
    have eo : ((((m.firsts c).roomOut l).toNat : Nat) : Int) = (m.firsts c).roomOut l := by omega
    have ef : ((m.roomed c l).firsts c).find (((m.firsts c).roomOut l).toNat : Nat) = some j := by
      show (updC m.firsts c ((m.firsts c).roomS l) c).find _ = _
      rw [updC_at, eo, find_congr _ hr.2.1 hr.2.2.1 hr.1]; exact e2
    rw [RM.loseAt_eq (m.roomed c l) c _ j ef]
    unfold RM.putF firPut
    dsimp only
    have ek : ((m.roomed c l).firsts c).lo (((m.firsts c).roomOut l).toNat : Nat) + j = (m.firsts c).roomW l := by
      show (updC m.firsts c ((m.firsts c).roomS l) c).lo _ + j = _
      rw [updC_at, eo, e1]
      unfold RC.lo; rw [hr.2.1, hr.2.2.1]
    rw [ek]
    have ec : (m.roomed c l).firsts c = (m.firsts c).roomS l := updC_at _ _ _
    rw [updC_at, updC_updC, put_clear, ec]
    show RM.mk _ _ (updC (updC m.firsts c _) c _) _ _ _ _ _ _ = _
    rw [updC_updC]
    by_cases h3 : m.has c ((m.firsts c).roomOut l).toNat = 3
    · have h3' : (m.roomed c l).has c ((m.firsts c).roomOut l).toNat = 3 := h3
      rw [if_pos h3', if_pos (show 0 ≤ (m.firsts c).roomOut l ∧ m.has c ((m.firsts c).roomOut l).toNat = 3 from ⟨ho, h3⟩), if_pos ho]; rfl
    · have h3' : ¬ (m.roomed c l).has c ((m.firsts c).roomOut l).toNat = 3 := h3
      rw [if_neg h3', if_neg (show ¬ (0 ≤ (m.firsts c).roomOut l ∧ m.has c ((m.firsts c).roomOut l).toNat = 3) from fun h => h3 h.2), if_pos ho]; rfl
  · rw [if_neg ho, if_neg ho, if_neg (show ¬ (0 ≤ (m.firsts c).roomOut l ∧ m.has c ((m.firsts c).roomOut l).toNat = 3) from fun h => ho h.1)]
    unfold RM.putF firPut RM.roomed
    dsimp only
    rw [updC_updC, updC_at]

theorem MInv.taken (h : MInv m B) (hc : c < m.cores) (hl : l < 64) (hn : m.has c l = 0) {v : Int} (hv : v ≠ 0) : MInv (m.takenS c l v) (B + 1) := by
  have h1 := h.mono (B' := B + 1) (by omega)
  have ok := h.fi.ok c
  rw [RM.takenS_eq m c l v ok (h.fi.ln c hc)]
  have hr := roomS_L (m.firsts c) l
  have hp := put_L ((m.firsts c).roomS l) ((m.firsts c).roomW l) l
  refine ⟨h.c, ?_, h.okf, h.lnf, h1.clf, h1.flf, h.pf, h1.ht, h.c0, h.ck⟩
  refine h.fi.take hc hl hn v hv ((ok.roomS l).put _ (by omega)) (hp.2.1.trans hr.2.1) (hp.2.2.1.trans hr.2.2.1) (hp.1.trans (by rw [hr.1])) (hp.2.2.2.1.trans hr.2.2.2.1) ?_ ?_ (fun y hy => ?_) (fun i y hi => ?_)
  · have := hp.2.2.2.2.1; rw [hr.2.2.2.2.2.1] at this; exact Int.le_of_eq this
  · have := hp.2.2.2.2.2.1; rw [hr.2.2.2.2.2.2.1] at this; exact this
  · show updH (outH m.has c ((m.firsts c).roomOut l)) c l v c y = _
    unfold updH outH
    by_cases e : y = l
    · rw [if_pos ⟨rfl, e⟩, if_pos e]
    · rw [if_neg (fun a => e a.2), if_neg e]
      by_cases ho : 0 ≤ (m.firsts c).roomOut l
      · rw [if_pos ho]
        unfold updH
        by_cases e2 : (y : Int) = (m.firsts c).roomOut l
        · rw [if_pos ⟨rfl, by omega⟩, if_pos e2]
        · rw [if_neg (fun a => e2 (by omega)), if_neg e2]
      · rw [if_neg ho, if_neg (by omega)]
  · show updH (outH m.has c ((m.firsts c).roomOut l)) c l v i y = _
    unfold updH outH
    rw [if_neg (fun a => hi a.1)]
    split
    · unfold updH; rw [if_neg (fun a => hi a.1)]
    · rfl

theorem shareV_ne (m : RM) (l : Nat) : ∀ k, m.shareV l k ≠ 0
  | 0 => by unfold RM.shareV; omega
  | k + 1 => by
    unfold RM.shareV
    split
    · exact shareV_ne m l k
    · omega

theorem MInv.fetchPre (h : MInv m B) (l : Nat) (hB : B ≤ 2305843009213693952) : FetchPre m l := by
  have ho := h.outF l
  refine ⟨h.c, h.fi.ok, h.okf, by have := h.clf; omega, by have := h.flf; omega, ho, fun h0 i hi hh => ?_, fun k => ⟨(h.ht k).1, by have := (h.ht k).2; omega⟩⟩
  have e : ((((missS m.far l).roomOut l).toNat : Nat) : Int) = (missS m.far l).roomOut l := by omega
  have := (h.find (c := i) (l := ((missS m.far l).roomOut l).toNat) hi (by omega)).2 hh
  rw [e] at this; exact this
theorem MInv.takePre (h : MInv m B) (hc : c < m.cores) (l : Nat) (hB : B ≤ 2305843009213693952) : TakePre m c l := by
  obtain ⟨h1, h2⟩ := out_in (h.fi.ok c) (h.fi.ln c hc) l
  have hr := roomS_L (m.firsts c) l
  refine ⟨h.fi.ok c, by have := h.fi.cl c; omega, by have := h.fi.fl c; omega, h1, fun h0 => ?_⟩
  obtain ⟨j, _, e, _⟩ := h2 h0
  exact ⟨j, by rw [find_congr _ hr.2.1 hr.2.2.1 hr.1]; exact e⟩
theorem MInv.losePre (h : MInv m B) (c : Nat) (hl : l < 64) (hB : B ≤ 2305843009213693952) : LosePre m c l :=
  ⟨h.fi.ok, fun i hi _ hh => (h.find hi hl).2 hh, ⟨(h.ht 6).1, by have := (h.ht 6).2; omega⟩⟩

theorem RM.nearS_none (m : RM) (c l : Nat) (h : m.nearB c l = false) : (m.firsts c).find l = none := by
  unfold RM.nearB at h
  cases e : (m.firsts c).find l with
  | none => rfl
  | some j => rw [e] at h; cases h

theorem MInv.loadFar (h : MInv m B) (hc : c < m.cores) (hl : l < 64) (hn : m.nearB c l = false) : MInv (m.loadFar c l) (B + 7) := by
  have h0 : m.has c l = 0 := by
    by_cases e : m.has c l = 0
    · exact e
    · rw [(h.near_eq hc hl).2 e] at hn; cases hn
  obtain ⟨h1, h2⟩ := h.fetched hl
  have kp := RM.fetchedS_keep m l
  have h3 := h1.share l m.cores
  have sk := RM.shareK_keep (m.fetchedS l) l m.cores
  unfold RM.loadFar
  exact (h3.taken (c := c) (l := l) (by rw [sk.1, kp.1]; exact hc) hl ((RM.shareK_zero _ _ _ _ _).2 (by rw [h2]; exact h0)) (shareV_ne _ _ _)).mono (by omega)
theorem MInv.load (h : MInv m B) (hc : c < m.cores) (hl : l < 64) : MInv (m.loadS c l) (B + 8) := by
  unfold RM.loadS
  split
  · exact ((h.bump 0).near (c := c) (l := l) hc).mono (by omega)
  · rename_i hn
    exact ((h.bump 0).loadFar (c := c) (l := l) hc hl (by simpa using hn)).mono (by omega)

theorem MInv.takeK (h : MInv m B) (c : Nat) (hl : l < 64) : ∀ k, k ≤ m.cores → MInv (m.takeK c l k) (B + k)
  | 0, _ => h.mono (by omega)
  | k + 1, hk => by
    have ih := MInv.takeK h c hl k (by omega)
    have kp := RM.takeK_keep m c l k
    unfold RM.takeK
    split
    · rename_i hh
      have h1 := (ih.lose (c := k) (l := l) (by rw [kp.1]; omega) hl (by rw [(kp.2.2.2.2.2.2.2 k (.inl (Nat.le_refl _))).2 l]; exact hh.2)).bump 6
      exact h1.mono (by omega)
    · exact ih.mono (by omega)

theorem MInv.upgr (h : MInv m B) (c l : Nat) : MInv (m.upgr c l) (B + 1) := by
  unfold RM.upgr
  split
  · exact h.bump 5
  · exact h.mono (by omega)
theorem RM.upgr_keep (m : RM) (c l : Nat) : (m.upgr c l).cores = m.cores ∧ (m.upgr c l).has = m.has := by
  unfold RM.upgr
  split <;> exact ⟨rfl, rfl⟩

theorem updH_zero {H : Nat → Nat → Int} {c l : Nat} (h : H c l ≠ 0) {v : Int} (hv : v ≠ 0) : ∀ i y, updH H c l v i y = 0 ↔ H i y = 0 := fun i y => by
  unfold updH
  by_cases e : i = c ∧ y = l
  · rw [if_pos e, e.1, e.2]; exact ⟨fun a => absurd a hv, fun a => absurd a h⟩
  · rw [if_neg e]

theorem MInv.storeNear (h : MInv m B) (hc : c < m.cores) (hl : l < 64) (hn : m.nearB c l = true) : MInv (m.storeNear c l) (B + 6) := by
  have hh := (h.near_eq hc hl).1 hn
  have h1 := h.near (c := c) (l := l) hc
  have k1 := RM.nearS_keep m c l
  have h2 := h1.upgr c l
  have k2 := RM.upgr_keep (m.nearS c l) c l
  have h3 := h2.takeK c hl m.cores (by rw [k2.1, k1.1]; exact Nat.le_refl _)
  have k3 := RM.takeK_keep ((m.nearS c l).upgr c l) c l m.cores
  have hc4 := h.c
  unfold RM.storeNear
  refine (h3.has (updH_zero (H := (((m.nearS c l).upgr c l).takeK c l m.cores).has) ?_ (by omega))).mono (by omega)
  rw [(k3.2.2.2.2.2.2.2 c (.inr rfl)).2 l, k2.2, k1.2.1]; exact hh
theorem MInv.storeFar (h : MInv m B) (hc : c < m.cores) (hl : l < 64) (hn : m.nearB c l = false) : MInv (m.storeFar c l) (B + 11) := by
  have h0 : m.has c l = 0 := by
    by_cases e : m.has c l = 0
    · exact e
    · rw [(h.near_eq hc hl).2 e] at hn; cases hn
  obtain ⟨h1, h2⟩ := h.fetched hl
  have kp := RM.fetchedS_keep m l
  have hc4 := h.c
  have h3 := h1.takeK c hl m.cores (by rw [kp.1]; exact Nat.le_refl _)
  have k3 := RM.takeK_keep (m.fetchedS l) c l m.cores
  unfold RM.storeFar
  exact (h3.taken (c := c) (l := l) (by rw [k3.1, kp.1]; exact hc) hl (by rw [(k3.2.2.2.2.2.2.2 c (.inr rfl)).2 l, h2]; exact h0) (by omega)).mono (by omega)
theorem MInv.store (h : MInv m B) (hc : c < m.cores) (hl : l < 64) (a : Nat) (v : Int) : MInv (m.storeS c l a v) (B + 12) := by
  have h1 : MInv (m.storeM c l) (B + 12) := by
    unfold RM.storeM
    split
    · rename_i hn
      exact ((h.bump 1).storeNear (c := c) (l := l) hc hl hn).mono (by omega)
    · rename_i hn
      exact ((h.bump 1).storeFar (c := c) (l := l) hc hl (by simpa using hn)).mono (by omega)
  exact h1.words _
theorem MInv.evict (h : MInv m B) (x y : Int) : MInv (m.evictS x y) B := by
  unfold RM.evictS
  split
  · rename_i hh
    have he := hh.1
    unfold stateE at he
    split at he
    · omega
    · split at he
      · omega
      · exact h.lose (by omega) (by omega) hh.2
  · exact h
end

end Go.Proofs.Ytobniidkkmlilaa
