import Derived.Test.YtobniidkkmlilaaPl40
import Derived.Test.YtobniidkkmlilaaPl31

/- The reference's machine: who may have what; what the memory lacks (plain data). -/
namespace Go.Proofs.Ytobniidkkmlilaa
open Go.RowKit Go.Coh

section
variable {m : RM} {B : Int} {c l : Nat}

theorem CInv.bump (h : CInv m) (k : Nat) : CInv (m.bump k) := ⟨h.rg, h.lr, h.inc, h.la, h.ow, h.bk⟩
theorem CInv.firsts (h : CInv m) (f : Nat → RC) : CInv { m with firsts := f } := ⟨h.rg, h.lr, h.inc, h.la, h.ow, h.bk⟩
theorem CInv.far (h : CInv m) {r : RC} (e : ∀ y, Hs r y ↔ Hs m.far y) : CInv { m with far := r } := ⟨h.rg, h.lr, fun i l hi hl hh => (e l).2 (h.inc i l hi hl hh), fun l hl => (h.la l hl).trans (e l).symm, h.ow, h.bk⟩

/-- what of the tables stays, and how the lines' marks turn -/
theorem CInv.near (h : CInv m) (c l : Nat) : CInv (m.nearS c l) := by
  unfold RM.nearS
  split
  · exact (h.firsts _).bump 2
  · exact h

/-- a core loses what it has -/
theorem CInv.lose (h : CInv m) (hc : c < m.cores) (hl : l < 64) {j : Nat} (e : (m.firsts c).find l = some j) : CInv (m.loseAt c l) := by
  rw [RM.loseAt_eq m c l j e]
  have hz : ∀ i y, updH m.has c l 0 i y = if i = c ∧ y = l then 0 else m.has i y := fun i y => rfl
  have hlas : ∀ y, (if m.has c l = 3 then upd m.lasts l 2 else m.lasts) y = if m.has c l = 3 ∧ y = l then 2 else m.lasts y := fun y => by
    by_cases h3 : m.has c l = 3
    · rw [if_pos h3]; unfold upd; simp [h3]
    · rw [if_neg h3, if_neg (fun a => h3 a.1)]
  refine ⟨fun i y => ?_, fun y => ?_, fun i y hi hy hh => ?_, fun y hy => ?_, fun i i' y hi hi' hne hy h2 => ?_, fun a ha => ?_⟩
  · show 0 ≤ updH m.has c l 0 i y ∧ updH m.has c l 0 i y ≤ 3
    rw [hz]; split
    · omega
    · exact h.rg i y
  · show 0 ≤ (if m.has c l = 3 then upd m.lasts l 2 else m.lasts) y ∧ (if m.has c l = 3 then upd m.lasts l 2 else m.lasts) y ≤ 2
    rw [hlas]; split
    · omega
    · exact h.lr y
  · have hh' : updH m.has c l 0 i y ≠ 0 := hh
    rw [hz] at hh'
    split at hh'
    · exact absurd rfl hh'
    · exact h.inc i y hi hy hh'
  · show (if m.has c l = 3 then upd m.lasts l 2 else m.lasts) y ≠ 0 ↔ Hs m.far y
    rw [hlas]
    split
    · rename_i hh
      rw [hh.2]
      exact ⟨fun _ => h.inc c l hc hl (by omega), fun _ => by omega⟩
    · exact h.la y hy
  · have h2' : 2 ≤ updH m.has c l 0 i y := h2
    show updH m.has c l 0 i' y = 0
    rw [hz] at h2' ⊢
    split at h2'
    · omega
    · split
      · rfl
      · exact h.ow i i' y hi hi' hne hy h2'
  · show m.mem a = m.words a ∨ (if m.has c l = 3 then upd m.lasts l 2 else m.lasts) (a / 4) = 2 ∨ ∃ i, i < m.cores ∧ updH m.has c l 0 i (a / 4) = 3
    rw [hlas]
    rcases h.bk a ha with h1 | h1 | ⟨i, hi, h1⟩
    · exact .inl h1
    · refine .inr (.inl ?_); split
      · rfl
      · exact h1
    · by_cases e : i = c ∧ a / 4 = l
      · refine .inr (.inl ?_)
        rw [if_pos ⟨by rw [← e.1, ← e.2]; exact h1, e.2⟩]
      · refine .inr (.inr ⟨i, hi, ?_⟩)
        rw [hz, if_neg e]; exact h1

/-- who has the line behind dropK -/
theorem dropK_zero (I : MInv m B) (hl : l < 64) : ∀ k, k ≤ m.cores → ∀ i, i < k → (m.dropK l k).has i l = 0
  | 0, _, i, hi => by omega
  | k + 1, hk, i, hi => by
    have ih := dropK_zero I hl k (by omega)
    have kp := RM.dropK_keep m l k
    unfold RM.dropK
    split
    · rename_i hh
      obtain ⟨j, hj⟩ := (I.find (c := k) (l := l) (by omega) hl).2 hh
      have hj' : ((m.dropK l k).firsts k).find l = some j := by rw [(kp.2.2.2.2.2.2.2 k (Nat.le_refl _)).1]; exact hj
      by_cases e : i = k
      · subst e; exact RM.loseAt_has0 (m.dropK l i) i l j hj'
      · show ((m.dropK l k).loseAt k l).has i l = 0
        rw [RM.loseAt_has _ _ _ _ _ (.inr e)]; exact ih i (by omega)
    · rename_i hh
      by_cases e : i = k
      · subst e
        rw [(kp.2.2.2.2.2.2.2 i (Nat.le_refl _)).2 l]
        exact Decidable.not_not.1 hh
      · exact ih i (by omega)

theorem CInv.dropK (h : CInv m) (I : MInv m B) (hl : l < 64) : ∀ k, k ≤ m.cores → CInv (m.dropK l k)
  | 0, _ => h
  | k + 1, hk => by
    have ih := CInv.dropK h I hl k (by omega)
    have kp := RM.dropK_keep m l k
    unfold RM.dropK
    split
    · rename_i hh
      obtain ⟨j, hj⟩ := (I.find (c := k) (l := l) (by omega) hl).2 hh
      exact (ih.lose (c := k) (l := l) (by rw [kp.1]; omega) hl (by rw [(kp.2.2.2.2.2.2.2 k (Nat.le_refl _)).1]; exact hj)).bump 7
    · exact ih

/-- a line is dropped, and its way goes to another line -/
theorem CInv.dropTo (h : CInv m) (I : MInv m B) (hl : l < 64) {r : RC} (hr : ∀ y : Nat, y < 64 → (Hs r y ↔ (Hs m.far y ∧ y ≠ l))) : CInv { m.droppedS l with far := r } := by
  have h1 := h.dropK I hl m.cores (Nat.le_refl _)
  have hz := dropK_zero I hl m.cores (Nat.le_refl _)
  have kp := RM.dropK_keep m l m.cores
  generalize hm1 : m.dropK l m.cores = m1 at *
  have hd : ({ m.droppedS l with far := r } : RM) = { (if m1.lasts l = 2 then m1.writtenS l else m1) with lasts := upd (if m1.lasts l = 2 then m1.writtenS l else m1).lasts l 0, far := r } := by
    unfold RM.droppedS; rw [hm1]
  rw [hd]
  have e1 : (if m1.lasts l = 2 then m1.writtenS l else m1).has = m1.has := by split <;> rfl
  have e2 : (if m1.lasts l = 2 then m1.writtenS l else m1).lasts = m1.lasts := by split <;> rfl
  have e3 : (if m1.lasts l = 2 then m1.writtenS l else m1).words = m1.words := by split <;> rfl
  have e4 : (if m1.lasts l = 2 then m1.writtenS l else m1).cores = m1.cores := by split <;> rfl
  have e5 : ∀ a, (if m1.lasts l = 2 then m1.writtenS l else m1).mem a = if m1.lasts l = 2 ∧ a / 4 = l then m1.words a else m1.mem a := fun a => by
    split
    · rename_i h2
      show (if 4 * l ≤ a ∧ a < 4 * l + 4 then m1.words a else m1.mem a) = _
      by_cases e : a / 4 = l
      · rw [if_pos (by omega), if_pos ⟨h2, e⟩]
      · rw [if_neg (by omega), if_neg (fun x => e x.2)]
    · rename_i h2
      rw [if_neg (fun x => h2 x.1)]
  have hfar : m1.far = m.far := kp.2.2.1
  have hcr : m1.cores = m.cores := kp.1
  refine ⟨fun i y => ?_, fun y => ?_, fun i y hi hy hh => ?_, fun y hy => ?_, fun i i' y hi hi' hne hy h2 => ?_, fun a ha => ?_⟩
  · show 0 ≤ (if m1.lasts l = 2 then m1.writtenS l else m1).has i y ∧ _; rw [e1]; exact h1.rg i y
  · show 0 ≤ upd (if m1.lasts l = 2 then m1.writtenS l else m1).lasts l 0 y ∧ upd (if m1.lasts l = 2 then m1.writtenS l else m1).lasts l 0 y ≤ 2
    rw [e2]; unfold upd; split
    · omega
    · exact h1.lr y
  · have hi' : i < m1.cores := by have : i < (if m1.lasts l = 2 then m1.writtenS l else m1).cores := hi; rw [e4] at this; exact this
    have hh' : m1.has i y ≠ 0 := by have : (if m1.lasts l = 2 then m1.writtenS l else m1).has i y ≠ 0 := hh; rw [e1] at this; exact this
    refine (hr y hy).2 ⟨by rw [← hfar]; exact h1.inc i y hi' hy hh', fun e => hh' (by rw [e]; exact hz i (by omega))⟩
  · show upd (if m1.lasts l = 2 then m1.writtenS l else m1).lasts l 0 y ≠ 0 ↔ Hs r y
    rw [e2, hr y hy]; unfold upd
    by_cases e : y = l
    · rw [if_pos e]; exact ⟨fun a => absurd rfl a, fun a => absurd e a.2⟩
    · rw [if_neg e, h1.la y hy, hfar]; exact ⟨fun a => ⟨a, e⟩, fun a => a.1⟩
  · have g1 : i < m1.cores := by have : i < (if m1.lasts l = 2 then m1.writtenS l else m1).cores := hi; rw [e4] at this; exact this
    have g2 : i' < m1.cores := by have : i' < (if m1.lasts l = 2 then m1.writtenS l else m1).cores := hi'; rw [e4] at this; exact this
    have g3 : 2 ≤ m1.has i y := by have : 2 ≤ (if m1.lasts l = 2 then m1.writtenS l else m1).has i y := h2; rw [e1] at this; exact this
    show (if m1.lasts l = 2 then m1.writtenS l else m1).has i' y = 0
    rw [e1]; exact h1.ow i i' y g1 g2 hne hy g3
  · show (if m1.lasts l = 2 then m1.writtenS l else m1).mem a = (if m1.lasts l = 2 then m1.writtenS l else m1).words a ∨ upd (if m1.lasts l = 2 then m1.writtenS l else m1).lasts l 0 (a / 4) = 2 ∨ ∃ i, i < (if m1.lasts l = 2 then m1.writtenS l else m1).cores ∧ (if m1.lasts l = 2 then m1.writtenS l else m1).has i (a / 4) = 3
    rw [e1, e2, e3, e4, e5]
    by_cases e : a / 4 = l
    · left
      rcases h1.bk a ha with h2 | h2 | ⟨i, hi, h2⟩
      · split
        · rfl
        · exact h2
      · rw [if_pos ⟨by rw [← e]; exact h2, e⟩]
      · rw [e] at h2; have := hz i (by omega); omega
    · rw [if_neg (fun x => e x.2)]
      unfold upd
      rw [if_neg e]
      exact h1.bk a ha

/-- the line is put into the last cache, or is there -/
theorem CInv.put (h : CInv m) {r : RC} (hr : ∀ y : Nat, y < 64 → (Hs r y ↔ (y = l ∨ Hs m.far y))) (hf : ∀ a, a < 256 → a / 4 = l → m.mem a = m.words a) : CInv { m with far := r, lasts := upd m.lasts l 1 } := by
  refine ⟨h.rg, fun y => ?_, fun i y hi hy hh => (hr y hy).2 (.inr (h.inc i y hi hy hh)), fun y hy => ?_, h.ow, fun a ha => ?_⟩
  · show 0 ≤ upd m.lasts l 1 y ∧ upd m.lasts l 1 y ≤ 2
    unfold upd; split
    · omega
    · exact h.lr y
  · show upd m.lasts l 1 y ≠ 0 ↔ Hs r y
    rw [hr y hy]; unfold upd
    by_cases e : y = l
    · rw [if_pos e]; exact ⟨fun _ => .inl e, fun _ => by omega⟩
    · rw [if_neg e, h.la y hy]; exact ⟨fun x => .inr x, fun x => by rcases x with x | x; exact absurd x e; exact x⟩
  · show m.mem a = m.words a ∨ upd m.lasts l 1 (a / 4) = 2 ∨ ∃ i, i < m.cores ∧ m.has i (a / 4) = 3
    by_cases e : a / 4 = l
    · exact .inl (hf a ha e)
    · unfold upd; rw [if_neg e]; exact h.bk a ha

/-- a line that the last cache hasn't: nobody has it, and the memory is not older -/
theorem CInv.absent (h : CInv m) (hl : l < 64) (hn : ¬ Hs m.far l) : (∀ i, i < m.cores → m.has i l = 0) ∧ ∀ a, a < 256 → a / 4 = l → m.mem a = m.words a := by
  have h0 : ∀ i, i < m.cores → m.has i l = 0 := fun i hi => by
    by_cases e : m.has i l = 0
    · exact e
    · exact absurd (h.inc i l hi hl e) hn
  have hlz : m.lasts l = 0 := by
    by_cases e : m.lasts l = 0
    · exact e
    · exact absurd ((h.la l hl).1 e) hn
  refine ⟨h0, fun a ha e => ?_⟩
  rcases h.bk a ha with h1 | h1 | ⟨i, hi, h1⟩
  · exact h1
  · rw [e] at h1; omega
  · rw [e] at h1; have := h0 i hi; omega

theorem CInv.fetched (h : CInv m) (I : MInv m B) (hl : l < 64) : CInv (m.fetchedS l) ∧ Hs (m.fetchedS l).far l := by
  unfold RM.fetchedS
  split
  · rename_i j e
    refine ⟨(h.far (r := m.far.found (m.far.lo l + j)) (fun y => Hs.congr rfl rfl rfl)).bump 3, ?_⟩
    exact (Hs.congr (s := m.far) rfl rfl rfl).2 (find_isSome.1 (by rw [e]; rfl))
  · rename_i hn
    have hno := find_none.1 hn
    rw [RM.fetchedM_eq]
    obtain ⟨f1, f2, f3, f4, f5, f6, j, hj, f7, f8⟩ := farPut_L I.okf l
    obtain ⟨_, l2⟩ := put_ln I.lnf I.okf f2 f3 hj f7 (by omega) (by omega) hno
    rw [← f8] at l2
    refine ⟨CInv.bump ?_ 4, (l2 l (by omega)).2 (.inl rfl)⟩
    obtain ⟨_, a2⟩ := h.absent hl hno
    have ho := I.outF l
    have hne := I.outF_ne hn
    unfold RM.gone
    split
    · rename_i h0
      have ho' : ((missS m.far l).roomOut l).toNat < 64 := by omega
      have eo : ((((missS m.far l).roomOut l).toNat : Nat) : Int) = (missS m.far l).roomOut l := by omega
      -- a cache like the last one without the line that goes
      let r0 : RC := RC.clear m.far (m.far.lo l + j)
      have hout : m.far.L (m.far.lo l + j) = (missS m.far l).roomOut l := f8.symm
      have hset : m.far.lo l = m.far.lo ((missS m.far l).roomOut l) := by
        obtain ⟨_, q⟩ := out_in (I.okf.miss (x := l)) (I.lnf.congr rfl rfl rfl) l
        obtain ⟨_, _, _, q3⟩ := q h0
        exact q3.symm
      have hx : m.far.L (m.far.lo ((missS m.far l).roomOut l) + j) = (missS m.far l).roomOut l := by rw [← hset]; exact hout
      obtain ⟨_, c2⟩ := clear_ln (s := m.far) (s' := r0) I.lnf I.okf rfl rfl hj (by show upd _ _ _ = upd _ _ _; rw [hset]) hx
      have hd := h.dropTo I ho' (r := r0) (fun y hy => by
        rw [c2 y (by omega)]
        constructor
        · rintro ⟨q1, q2⟩; exact ⟨q1, by omega⟩
        · rintro ⟨q1, q2⟩; exact ⟨q1, by omega⟩)
      have kp := RM.droppedS_keep m ((missS m.far l).roomOut l).toNat
      have hno' : ¬ Hs r0 l := fun q => hno ((c2 l (by omega)).1 q).1
      have ab := CInv.absent (m := { m.droppedS ((missS m.far l).roomOut l).toNat with far := r0 }) hd hl hno'
      exact CInv.put (m := { m.droppedS ((missS m.far l).roomOut l).toNat with far := r0 }) hd (r := farPut m.far l) (fun y hy => by
        rw [l2 y (by omega)]
        show _ ↔ (y = l ∨ Hs r0 y)
        rw [c2 y (by omega)]
        constructor
        · rintro (q | q)
          · exact .inl (by omega)
          · exact .inr q
        · rintro (q | q)
          · exact .inl (by omega)
          · exact .inr q) ab.2
    · rename_i h0
      refine h.put (fun y hy => ?_) a2
      rw [l2 y (by omega)]
      constructor
      · rintro (q | q)
        · exact .inl (by omega)
        · exact .inr q.1
      · rintro (q | q)
        · exact .inl (by omega)
        · refine .inr ⟨q, fun e => ?_⟩
          have := (RcOk.miss I.okf (x := l)).ll
          omega

/-- all who have the line have it Shared from now on -/
theorem shareK_fields (m : RM) (l : Nat) : ∀ k, (∀ i y, (m.shareK l k).has i y = if i < k ∧ y = l ∧ m.has i l ≠ 0 then 1 else m.has i y) ∧
    (∀ y, y ≠ l → (m.shareK l k).lasts y = m.lasts y) ∧ ((m.shareK l k).lasts l = 2 ∨ ((m.shareK l k).lasts l = m.lasts l ∧ ∀ i, i < k → m.has i l ≠ 3)) ∧ ((m.shareK l k).lasts l = m.lasts l ∨ ∃ i, i < k ∧ m.has i l = 3)
  | 0 => ⟨fun i y => by rw [if_neg (by omega)]; rfl, fun _ _ => rfl, .inr ⟨rfl, fun i hi => by omega⟩, .inl rfl⟩
  | k + 1 => by
    obtain ⟨h1, h2, h3, h4⟩ := shareK_fields m l k
    by_cases h0 : m.has k l = 0
    · rw [(shareK_same m l k h0).1]
      refine ⟨fun i y => ?_, h2, ?_, ?_⟩
      · rw [h1 i y]
        by_cases e : i < k ∧ y = l ∧ m.has i l ≠ 0
        · rw [if_pos e, if_pos ⟨by omega, e.2⟩]
        · rw [if_neg e, if_neg (fun q => e ⟨by
            rcases Nat.lt_or_ge i k with z | z
            · exact z
            · have : i = k := by omega
              subst this; exact absurd h0 q.2.2, q.2⟩)]
      · rcases h3 with h3 | ⟨h3, h5⟩
        · exact .inl h3
        · refine .inr ⟨h3, fun i hi => ?_⟩
          by_cases e : i = k
          · subst e; omega
          · exact h5 i (by omega)
      · rcases h4 with h4 | ⟨i, hi, h4⟩
        · exact .inl h4
        · exact .inr ⟨i, by omega, h4⟩
    · have hk : (m.shareK l k).has k l = m.has k l := by rw [h1 k l, if_neg (by omega)]
      rw [(shareK_one m l k h0).1]
      unfold RM.handS
      rw [hk]
      have hh : ∀ i y, updH (m.shareK l k).has k l 1 i y = if i < k + 1 ∧ y = l ∧ m.has i l ≠ 0 then 1 else m.has i y := fun i y => by
        unfold updH
        by_cases e : i = k ∧ y = l
        · rw [if_pos e, if_pos ⟨by omega, e.2, by rw [e.1]; exact h0⟩]
        · rw [if_neg e, h1 i y]
          by_cases e2 : i < k ∧ y = l ∧ m.has i l ≠ 0
          · rw [if_pos e2, if_pos ⟨by omega, e2.2⟩]
          · rw [if_neg e2, if_neg (fun q => e2 ⟨by
              rcases Nat.lt_or_ge i k with z | z
              · exact z
              · exact absurd ⟨by omega, q.2.1⟩ e, q.2⟩)]
      by_cases h33 : m.has k l = 3
      · rw [if_pos h33]
        refine ⟨hh, fun y hy => ?_, .inl ?_, .inr ⟨k, by omega, h33⟩⟩
        · show upd (m.shareK l k).lasts l 2 y = _
          unfold upd; rw [if_neg hy]; exact h2 y hy
        · show upd (m.shareK l k).lasts l 2 l = 2
          unfold upd; rw [if_pos rfl]
      · rw [if_neg h33]
        refine ⟨hh, h2, ?_, ?_⟩
        · rcases h3 with h3 | ⟨h3, h5⟩
          · exact .inl h3
          · refine .inr ⟨h3, fun i hi => ?_⟩
            by_cases e : i = k
            · subst e; exact h33
            · exact h5 i (by omega)
        · rcases h4 with h4 | ⟨i, hi, h4⟩
          · exact .inl h4
          · exact .inr ⟨i, by omega, h4⟩

theorem CInv.share (h : CInv m) (hl : l < 64) : CInv (m.shareK l m.cores) := by
  obtain ⟨h1, h2, h3, h4⟩ := shareK_fields m l m.cores
  obtain ⟨k1, k2, k3, k4, k5, k6, k7, _⟩ := RM.shareK_keep m l m.cores
  refine ⟨fun i y => ?_, fun y => ?_, fun i y hi hy hh => ?_, fun y hy => ?_, fun i i' y hi hi' hne hy h2' => ?_, fun a ha => ?_⟩
  · rw [h1 i y]; split
    · omega
    · exact h.rg i y
  · by_cases e : y = l
    · subst e
      rcases h3 with h3 | ⟨h3, _⟩
      · omega
      · rw [h3]; exact h.lr y
    · rw [h2 y e]; exact h.lr y
  · rw [k1] at hi
    rw [k4]
    rw [h1 i y] at hh
    split at hh
    · rename_i q; rw [q.2.1]; exact h.inc i l hi hl q.2.2
    · exact h.inc i y hi hy hh
  · rw [k4, ← h.la y hy]
    by_cases e : y = l
    · subst e
      rcases h4 with h4 | ⟨i, hi, h4⟩
      · rw [h4]
      · have hp : m.lasts y ≠ 0 := (h.la y hy).2 (h.inc i y hi hl (by omega))
        rcases h3 with h3 | ⟨h3, _⟩
        · exact ⟨fun _ => hp, fun _ => by omega⟩
        · rw [h3]
    · rw [h2 y e]
  · rw [k1] at hi hi'
    rw [h1 i y] at h2'
    rw [h1 i' y]
    split at h2'
    · omega
    · rename_i q
      have h0 := h.ow i i' y hi hi' hne hy h2'
      split
      · rename_i q'
        obtain ⟨_, rfl, q3⟩ := q'
        exact absurd h0 q3
      · exact h0
  · rw [k1, k5, k6]
    rcases h.bk a ha with q | q | ⟨i, hi, q⟩
    · exact .inl q
    · refine .inr (.inl ?_)
      by_cases e : a / 4 = l
      · rw [e] at q ⊢
        rcases h3 with h3 | ⟨h3, _⟩
        · exact h3
        · rw [h3]; exact q
      · rw [h2 _ e]; exact q
    · by_cases e : a / 4 = l
      · refine .inr (.inl ?_)
        rw [e] at q ⊢
        rcases h3 with h3 | ⟨h3, h5⟩
        · exact h3
        · exact absurd q (h5 i hi)
      · refine .inr (.inr ⟨i, hi, ?_⟩)
        rw [h1 i _, if_neg (fun z => e z.2.1)]; exact q

theorem shareV_spec (m : RM) (l : Nat) : ∀ k, (m.shareV l k = 2 ∧ ∀ i, i < k → m.has i l = 0) ∨ m.shareV l k = 1
  | 0 => .inl ⟨rfl, fun i hi => by omega⟩
  | k + 1 => by
    unfold RM.shareV
    split
    · rename_i h0
      rcases shareV_spec m l k with ⟨h1, h2⟩ | h1
      · refine .inl ⟨h1, fun i hi => ?_⟩
        by_cases e : i = k
        · subst e; exact h0
        · exact h2 i (by omega)
      · exact .inr h1
    · exact .inr rfl

/-- the line is put into a core's first cache -/
theorem CInv.taken (h : CInv m) (I : MInv m B) (hc : c < m.cores) (hf : Hs m.far l) {v : Int} (hv : 1 ≤ v ∧ v ≤ 3)
    (ho : ∀ i, i < m.cores → i ≠ c → m.has i l ≤ 1 ∧ (2 ≤ v → m.has i l = 0)) (h0 : m.has c l = 0) : CInv (m.takenS c l v) := by
  rw [RM.takenS_eq m c l v (I.fi.ok c) (I.fi.ln c hc)]
  have hro := (out_in (I.fi.ok c) (I.fi.ln c hc) l).1
  generalize hoo : (m.firsts c).roomOut l = o at *
  have hH : ∀ i y, updH (outH m.has c o) c l v i y = if i = c ∧ y = l then v else if i = c ∧ (y : Int) = o then 0 else m.has i y := fun i y => by
    unfold updH outH
    by_cases e : i = c ∧ y = l
    · rw [if_pos e, if_pos e]
    · rw [if_neg e, if_neg e]
      split
      · unfold updH
        by_cases e2 : i = c ∧ (y : Int) = o
        · rw [if_pos ⟨e2.1, by omega⟩, if_pos e2]
        · rw [if_neg (fun q => e2 ⟨q.1, by omega⟩), if_neg e2]
      · rw [if_neg (fun q => by omega)]
  have hL : ∀ y : Nat, outL m.has m.lasts c o y = if (y : Int) = o ∧ m.has c y = 3 then 2 else m.lasts y := fun y => by
    unfold outL
    by_cases e : 0 ≤ o ∧ m.has c o.toNat = 3
    · rw [if_pos e]; unfold upd
      by_cases e2 : y = o.toNat
      · rw [if_pos e2, if_pos ⟨by omega, by rw [e2]; exact e.2⟩]
      · rw [if_neg e2, if_neg (fun q => e2 (by omega))]
    · rw [if_neg e, if_neg (fun q => e ⟨by omega, by rw [← q.1]; exact q.2⟩)]
  refine ⟨fun i y => ?_, fun y => ?_, fun i y hi hy hh => ?_, fun y hy => ?_, fun i i' y hi hi' hne hy h2 => ?_, fun a ha => ?_⟩
  · show 0 ≤ updH (outH m.has c o) c l v i y ∧ updH (outH m.has c o) c l v i y ≤ 3
    rw [hH]; split
    · omega
    · split
      · omega
      · exact h.rg i y
  · show 0 ≤ outL m.has m.lasts c o y ∧ outL m.has m.lasts c o y ≤ 2
    rw [hL]; split
    · omega
    · exact h.lr y
  · have hh' : updH (outH m.has c o) c l v i y ≠ 0 := hh
    rw [hH] at hh'
    split at hh'
    · rename_i q; rw [q.2]; exact hf
    · split at hh'
      · exact absurd rfl hh'
      · exact h.inc i y hi hy hh'
  · show outL m.has m.lasts c o y ≠ 0 ↔ Hs m.far y
    rw [hL]; split
    · rename_i q
      exact ⟨fun _ => h.inc c y hc hy (by omega), fun _ => by omega⟩
    · exact h.la y hy
  · have h2' : 2 ≤ updH (outH m.has c o) c l v i y := h2
    show updH (outH m.has c o) c l v i' y = 0
    rw [hH] at h2' ⊢
    split at h2'
    · rename_i q
      rw [if_neg (fun z => hne (by omega)), if_neg (fun z => hne (by omega)), q.2]
      exact (ho i' hi' (by omega)).2 h2'
    · split at h2'
      · omega
      · rename_i q1 q2
        split
        · rename_i q3
          have hic : i ≠ c := by omega
          have := (ho i hi hic).1
          rw [q3.2] at h2'; omega
        · split
          · rfl
          · exact h.ow i i' y hi hi' hne hy h2'
  · show m.mem a = m.words a ∨ outL m.has m.lasts c o (a / 4) = 2 ∨ ∃ i, i < m.cores ∧ updH (outH m.has c o) c l v i (a / 4) = 3
    rw [hL]
    rcases h.bk a ha with q | q | ⟨i, hi, q⟩
    · exact .inl q
    · refine .inr (.inl ?_); split
      · rfl
      · exact q
    · by_cases e : i = c ∧ ((a / 4 : Nat) : Int) = o
      · refine .inr (.inl ?_)
        rw [if_pos ⟨e.2, by rw [← e.1]; exact q⟩]
      · by_cases e2 : i = c ∧ a / 4 = l
        · rw [e2.1, e2.2] at q; omega
        · refine .inr (.inr ⟨i, hi, ?_⟩)
          rw [hH, if_neg e2, if_neg e]; exact q

theorem CInv.load (h : CInv m) (I : MInv m B) (hc : c < m.cores) (hl : l < 64) : CInv (m.loadS c l) := by
  unfold RM.loadS
  split
  · exact (h.bump 0).near c l
  · rename_i hn
    have I1 := I.bump 0
    have h0 : m.has c l = 0 := by
      by_cases e : m.has c l = 0
      · exact e
      · exact absurd ((I1.near_eq (c := c) (l := l) hc hl).2 e) hn
    obtain ⟨f1, f2⟩ := (h.bump 0).fetched I1 hl
    obtain ⟨j1, j2⟩ := I1.fetched hl
    have kp := RM.fetchedS_keep (m.bump 0) l
    have sk := RM.shareK_keep ((m.bump 0).fetchedS l) l (m.bump 0).cores
    have hsh := CInv.share f1 hl
    rw [kp.1] at hsh
    have hfl := shareK_fields ((m.bump 0).fetchedS l) l m.cores
    unfold RM.loadFar
    have hhz : ∀ i, (((m.bump 0).fetchedS l).shareK l (m.bump 0).cores).has i l = if i < m.cores ∧ l = l ∧ ((m.bump 0).fetchedS l).has i l ≠ 0 then 1 else ((m.bump 0).fetchedS l).has i l := fun i => hfl.1 i l
    refine CInv.taken (m := ((m.bump 0).fetchedS l).shareK l (m.bump 0).cores) hsh (j1.share l m.cores) (by rw [sk.1, kp.1]; exact hc) (by rw [sk.2.2.2.1]; exact f2) ?_ (fun i hi hne => ?_) ((RM.shareK_zero _ _ _ _ _).2 (by rw [j2]; exact h0))
    · rcases shareV_spec ((m.bump 0).fetchedS l) l (m.bump 0).cores with ⟨q, _⟩ | q
      · rw [q]; omega
      · rw [q]; omega
    · have hi' : i < m.cores := by
        have : i < (((m.bump 0).fetchedS l).shareK l (m.bump 0).cores).cores := hi
        rw [sk.1, kp.1] at this; exact this
      rw [hhz i]
      rcases shareV_spec ((m.bump 0).fetchedS l) l (m.bump 0).cores with ⟨q, q2⟩ | q
      · have := q2 i hi'
        rw [if_neg (fun z => z.2.2 this), this]
        exact ⟨by omega, fun _ => rfl⟩
      · rw [q]
        refine ⟨?_, fun z => by omega⟩
        split
        · omega
        · rename_i z
          have : ((m.bump 0).fetchedS l).has i l = 0 := by
            by_cases e : ((m.bump 0).fetchedS l).has i l = 0
            · exact e
            · exact absurd ⟨hi', rfl, e⟩ z
          omega

theorem CInv.takeK (h : CInv m) (I : MInv m B) (c : Nat) (hl : l < 64) : ∀ k, k ≤ m.cores → CInv (m.takeK c l k) ∧ ∀ i, i < k → i ≠ c → (m.takeK c l k).has i l = 0
  | 0, _ => ⟨h, fun i hi => by omega⟩
  | k + 1, hk => by
    obtain ⟨ih, iz⟩ := CInv.takeK h I c hl k (by omega)
    have kp := RM.takeK_keep m c l k
    unfold RM.takeK
    split
    · rename_i hh
      obtain ⟨j, hj⟩ := (I.find (c := k) (l := l) (by omega) hl).2 hh.2
      have hj' : ((m.takeK c l k).firsts k).find l = some j := by rw [(kp.2.2.2.2.2.2.2 k (.inl (Nat.le_refl _))).1]; exact hj
      refine ⟨(ih.lose (c := k) (l := l) (by rw [kp.1]; omega) hl hj').bump 6, fun i hi hne => ?_⟩
      show ((m.takeK c l k).loseAt k l).has i l = 0
      by_cases e : i = k
      · subst e; exact RM.loseAt_has0 (m.takeK c l i) i l j hj'
      · rw [RM.loseAt_has _ _ _ _ _ (.inr e)]; exact iz i (by omega) hne
    · rename_i hh
      refine ⟨ih, fun i hi hne => ?_⟩
      by_cases e : i = k
      · subst e
        rw [(kp.2.2.2.2.2.2.2 i (.inl (Nat.le_refl _))).2 l]
        by_cases e0 : m.has i l = 0
        · exact e0
        · exact absurd ⟨hne, e0⟩ hh
      · exact iz i (by omega) hne

/-- the core that alone has the line has it Dirty -/
theorem CInv.dirty (h : CInv m) (hc : c < m.cores) (hh : m.has c l ≠ 0) (hl : l < 64) (ho : ∀ i, i < m.cores → i ≠ c → m.has i l = 0) : CInv { m with has := updH m.has c l 3 } := by
  have hH : ∀ i y, updH m.has c l 3 i y = if i = c ∧ y = l then 3 else m.has i y := fun i y => rfl
  refine ⟨fun i y => ?_, h.lr, fun i y hi hy q => ?_, h.la, fun i i' y hi hi' hne hy q => ?_, fun a ha => ?_⟩
  · show 0 ≤ updH m.has c l 3 i y ∧ updH m.has c l 3 i y ≤ 3
    rw [hH]; split
    · omega
    · exact h.rg i y
  · have q' : updH m.has c l 3 i y ≠ 0 := q
    rw [hH] at q'
    split at q'
    · rename_i z; rw [z.2]; exact h.inc c l hc hl hh
    · exact h.inc i y hi hy q'
  · have q' : 2 ≤ updH m.has c l 3 i y := q
    show updH m.has c l 3 i' y = 0
    rw [hH] at q' ⊢
    split at q'
    · rename_i z
      rw [if_neg (by omega), z.2]; exact ho i' hi' (by omega)
    · split
      · rename_i z2
        have := ho i hi (by omega)
        rw [z2.2] at q'; omega
      · exact h.ow i i' y hi hi' hne hy q'
  · show m.mem a = m.words a ∨ m.lasts (a / 4) = 2 ∨ ∃ i, i < m.cores ∧ updH m.has c l 3 i (a / 4) = 3
    rcases h.bk a ha with q | q | ⟨i, hi, q⟩
    · exact .inl q
    · exact .inr (.inl q)
    · refine .inr (.inr ⟨i, hi, ?_⟩)
      rw [hH]; split
      · rfl
      · exact q

/-- a word of a line that a core has Dirty is stored -/
theorem CInv.word (h : CInv m) (hc : c < m.cores) {a : Nat} (hd : m.has c (a / 4) = 3) (v : Int) : CInv { m with words := upd m.words a v } := by
  refine ⟨h.rg, h.lr, h.inc, h.la, h.ow, fun a' ha' => ?_⟩
  show m.mem a' = upd m.words a v a' ∨ m.lasts (a' / 4) = 2 ∨ ∃ i, i < m.cores ∧ m.has i (a' / 4) = 3
  by_cases e : a' = a
  · subst e; exact .inr (.inr ⟨c, hc, hd⟩)
  · unfold upd; rw [if_neg e]; exact h.bk a' ha'

theorem CInv.store (h : CInv m) (I : MInv m B) (hc : c < m.cores) {a : Nat} (ha : a < 256) (v : Int) : CInv (m.storeS c (a / 4) a v) ∧ (m.storeS c (a / 4) a v).has c (a / 4) = 3 := by
  have hl : a / 4 < 64 := by omega
  have I1 := I.bump 1
  have h1 := h.bump 1
  have key : CInv (m.storeM c (a / 4)) ∧ (m.storeM c (a / 4)).has c (a / 4) = 3 := by
    unfold RM.storeM
    split
    · rename_i hn
      have hh : m.has c (a / 4) ≠ 0 := (I1.near_eq (c := c) (l := a / 4) hc hl).1 hn
      have k1 := RM.nearS_keep (m.bump 1) c (a / 4)
      have k2 := RM.upgr_keep ((m.bump 1).nearS c (a / 4)) c (a / 4)
      have i2 := (I1.near (c := c) (l := a / 4) hc).upgr c (a / 4)
      have c2 : CInv (((m.bump 1).nearS c (a / 4)).upgr c (a / 4)) := by
        unfold RM.upgr; split
        · exact (h1.near c (a / 4)).bump 5
        · exact h1.near c (a / 4)
      have k3 := RM.takeK_keep (((m.bump 1).nearS c (a / 4)).upgr c (a / 4)) c (a / 4) m.cores
      obtain ⟨c3, z3⟩ := c2.takeK i2 c hl m.cores (by rw [k2.1, k1.1]; exact Nat.le_refl _)
      have hco : ((((m.bump 1).nearS c (a / 4)).upgr c (a / 4)).takeK c (a / 4) m.cores).cores = m.cores := by rw [k3.1, k2.1, k1.1]; rfl
      unfold RM.storeNear
      refine ⟨CInv.dirty (m := (((m.bump 1).nearS c (a / 4)).upgr c (a / 4)).takeK c (a / 4) m.cores) c3 (by rw [hco]; exact hc) ?_ hl (fun i hi hne => z3 i (by rw [hco] at hi; exact hi) hne), ?_⟩
      · rw [(k3.2.2.2.2.2.2.2 c (.inr rfl)).2 _, k2.2, k1.2.1]; exact hh
      · show updH _ c (a / 4) 3 c (a / 4) = 3
        unfold updH; rw [if_pos ⟨rfl, rfl⟩]
    · rename_i hn
      have h0 : m.has c (a / 4) = 0 := by
        by_cases e : m.has c (a / 4) = 0
        · exact e
        · exact absurd ((I1.near_eq (c := c) (l := a / 4) hc hl).2 e) hn
      obtain ⟨f1, f2⟩ := h1.fetched I1 hl
      obtain ⟨j1, j2⟩ := I1.fetched hl
      have kp := RM.fetchedS_keep (m.bump 1) (a / 4)
      have k3 := RM.takeK_keep ((m.bump 1).fetchedS (a / 4)) c (a / 4) m.cores
      obtain ⟨c3, z3⟩ := f1.takeK j1 c hl m.cores (by rw [kp.1]; exact Nat.le_refl _)
      have i3 := j1.takeK c hl m.cores (by rw [kp.1]; exact Nat.le_refl _)
      have hco : (((m.bump 1).fetchedS (a / 4)).takeK c (a / 4) m.cores).cores = m.cores := by rw [k3.1, kp.1]; rfl
      unfold RM.storeFar
      refine ⟨CInv.taken (m := ((m.bump 1).fetchedS (a / 4)).takeK c (a / 4) m.cores) c3 i3 (by rw [hco]; exact hc) (by rw [k3.2.2.1]; exact f2) (by omega) (fun i hi hne => ?_) (by rw [(k3.2.2.2.2.2.2.2 c (.inr rfl)).2 _, j2]; exact h0), ?_⟩
      · have := z3 i (by rw [hco] at hi; exact hi) hne
        exact ⟨by omega, fun _ => this⟩
      · show updH _ c (a / 4) 3 c (a / 4) = 3
        unfold updH; rw [if_pos ⟨rfl, rfl⟩]
  have hco : (m.storeM c (a / 4)).cores = m.cores := storeS_cores m c (a / 4) a v
  exact ⟨CInv.word (m := m.storeM c (a / 4)) key.1 (by rw [hco]; exact hc) key.2 v, key.2⟩

theorem CInv.evict (h : CInv m) (I : MInv m B) (x y : Int) : CInv (m.evictS x y) := by
  unfold RM.evictS
  split
  · rename_i hh
    obtain ⟨i, j, rfl, rfl, hi, hj⟩ := stateE_nat hh.1
    obtain ⟨k, hk⟩ := (I.find (c := i) (l := j) hi hj).2 (by simpa using hh.2)
    exact h.lose (c := ((i : Int)).toNat) (l := ((j : Int)).toNat) (by simpa using hi) (by simpa using hj) (by simpa using hk)
  · exact h

/-- drained: all that was stored stands in the memory -/
theorem drainK_mem (h : CInv m) : ∀ k, k ≤ 64 → ∀ a, a < 4 * k → (m.drainK k).mem a = m.words a
  | 0, _, a, ha => by omega
  | k + 1, hk, a, ha => by
    have kp := RM.drainK_keep m k
    by_cases hw : m.newer k
    · rw [(drainK_succ m k).1 hw]
      show (if 4 * k ≤ a ∧ a < 4 * k + 4 then (m.drainK k).words a else (m.drainK k).mem a) = _
      split
      · rw [kp.2.2.2.2.1]
      · exact drainK_mem h k (by omega) a (by omega)
    · rw [(drainK_succ m k).2 hw]
      by_cases e : a < 4 * k
      · exact drainK_mem h k (by omega) a e
      · have hm : ∀ j, j ≤ k → (m.drainK j).mem a = m.mem a := by
          intro j hj
          induction j with
          | zero => rfl
          | succ j ih =>
            by_cases hw' : m.newer j
            · rw [(drainK_succ m j).1 hw']
              show (if 4 * j ≤ a ∧ a < 4 * j + 4 then (m.drainK j).words a else (m.drainK j).mem a) = _
              rw [if_neg (by omega)]; exact ih (by omega)
            · rw [(drainK_succ m j).2 hw']; exact ih (by omega)
        rw [hm k (Nat.le_refl _)]
        have ea : a / 4 = k := by omega
        rcases h.bk a (by omega) with q | q | ⟨i, hi, q⟩
        · exact q
        · rw [ea] at q; exact absurd (.inl q) hw
        · rw [ea] at q; exact absurd (.inr ⟨i, hi, q⟩) hw

theorem CInv.drain (h : CInv m) (I : MInv m B) : CInv m.drainS ∧ (∀ a, a < 256 → m.drainS.mem a = m.words a) ∧ m.drainS.words = m.words := by
  have kp := RM.drainK_keep m 64
  have hmem : ∀ a, a < 256 → m.drainS.mem a = m.words a := fun a ha => drainK_mem h 64 (by omega) a (by omega)
  have hwo : m.drainS.words = m.words := kp.2.2.2.2.1
  obtain ⟨n, S, W, P, LS, LW, LP, hcf⟩ := cf_ok I.ck
  have hcf' : CfOk (m.drainK 64).conf n S W P LS LW LP := by rw [kp.2.1]; exact hcf
  have hf : m.drainS.far = newRC LS LW LP := by unfold RM.drainS; rw [freshS_eq hcf']
  refine ⟨⟨fun i l => by show (0 : Int) ≤ 0 ∧ (0 : Int) ≤ 3; omega, fun l => by show (0 : Int) ≤ 0 ∧ (0 : Int) ≤ 2; omega, fun i l _ _ q => absurd rfl q, fun l hl => ?_, fun i j l _ _ _ _ q => by have : (2 : Int) ≤ 0 := q; omega, fun a ha => .inl (by rw [hmem a ha, hwo])⟩, hmem, hwo⟩
  rw [hf]
  exact ⟨fun q => absurd rfl q, fun q => absurd q (newRC_hs _ _ _ _)⟩

theorem newM_cinv {cf : Nat → Int} (h : checkE cf = 0) : CInv (newM cf).freshS := by
  obtain ⟨n, S, W, P, LS, LW, LP, hcf⟩ := cf_ok h
  have hf : (newM cf).freshS.far = newRC LS LW LP := by rw [freshS_eq (m := newM cf) hcf]
  refine ⟨fun i l => by show (0 : Int) ≤ 0 ∧ (0 : Int) ≤ 3; omega, fun l => by show (0 : Int) ≤ 0 ∧ (0 : Int) ≤ 2; omega, fun i l _ _ q => absurd rfl q, fun l hl => ?_, fun i j l _ _ _ _ q => by have : (2 : Int) ≤ 0 := q; omega, fun a ha => .inl rfl⟩
  rw [hf]
  exact ⟨fun q => absurd rfl q, fun q => absurd q (newRC_hs _ _ _ _)⟩

theorem CInv.lS (h : CInv m) (I : MInv m B) (x y : Int) : CInv (m.lS x y) := by
  unfold RM.lS
  split
  · rename_i he
    obtain ⟨i, j, rfl, rfl, hi, hj⟩ := refE_nat he
    exact h.load I (by simpa using hi) (by simp; omega)
  · exact h
theorem CInv.sS (h : CInv m) (I : MInv m B) (x y v : Int) : CInv (m.sS x y v) := by
  unfold RM.sS
  split
  · rename_i he
    obtain ⟨i, j, rfl, rfl, hi, hj⟩ := refE_nat he
    exact (h.store I (by simpa using hi) (by simpa using hj) v).1
  · exact h
end
end Go.Proofs.Ytobniidkkmlilaa
