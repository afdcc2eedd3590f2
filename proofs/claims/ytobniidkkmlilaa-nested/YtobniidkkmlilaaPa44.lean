import Derived.Test.YtobniidkkmlilaaPa43

/- Plain: a machine of one core whose last cache has room for all lines (Nested). -/
namespace Go.Proofs.Ytobniidkkmlilaa
open Go.RowKit Go.Coh

theorem cnt_all : ∀ k, cnt (fun _ => true) k = k
  | 0 => rfl
  | k + 1 => by show cnt _ k + (if true = true then 1 else 0) = _; rw [cnt_all k]; rfl

/-- a last cache of eight sets of eight ways has room for every line -/
theorem far_hole {s : RC} (ln : LnOk s) (hS : s.S = 8) (hW : s.W = 8) {l : Nat} (hl : l < 64) (hn : s.find l = none) : ∃ j, s.hole l = some j := by
  cases e : s.hole l with
  | some j => exact ⟨j, rfl⟩
  | none =>
    exfalso
    unfold RC.hole at e
    have hfull := findN_none.1 e
    have hno := find_none.1 hn
    have hloy : ∀ y : Nat, s.lo y = (y % 8) * 8 := fun y => by
      unfold RC.lo; rw [hS, hW]; congr 1
    have hw : ∀ n, n < 8 → ∃ y : Nat, y < 64 ∧ y % 8 = l % 8 ∧ y ≠ l ∧ s.find y = some n := fun n hn8 => by
      have h1 := ln.rg (l % 8) n (by omega) (by omega)
      have h2 := hfull n (by omega)
      rw [hloy l] at h2
      rw [hW, hS] at h1
      rcases h1 with h1 | ⟨h1, h3, h4⟩
      · exact absurd h1 h2
      · obtain ⟨y, hy⟩ : ∃ y : Nat, s.L (l % 8 * 8 + n) = y := ⟨(s.L (l % 8 * 8 + n)).toNat, by omega⟩
        rw [hy] at h1 h3 h4
        have h5 : y % 8 = l % 8 := by omega
        have hHs : Hs s y := ⟨n, by omega, by rw [hloy y, h5]; exact hy⟩
        refine ⟨y, by omega, h5, fun q => hno (by rw [← q]; exact hHs), ?_⟩
        cases ef : s.find y with
        | none => exact absurd hHs (find_none.1 ef)
        | some j =>
          have hj := findN_some.1 ef
          have e1 : s.L (l % 8 * 8 + j) = y := by have := hj.2.1; rw [hloy y, h5] at this; exact this
          have := ln.un (l % 8) j n (by omega) (by omega) (by omega) (by rw [hW, e1, hy]) (by rw [hW, e1]; omega)
          rw [this]
    have := cnt_le 7 (P := fun _ => true) (k := 8) (fun i => match s.find ((l % 8 + 8 * (if i < l / 8 then i else i + 1) : Nat) : Int) with | some j => (j : Int) | none => -1) (fun n hn8 _ => by
      obtain ⟨y, hy, h5, hne, hf⟩ := hw n hn8
      by_cases hlt : y / 8 < l / 8
      · refine ⟨y / 8, by omega, ?_⟩
        have : l % 8 + 8 * (if y / 8 < l / 8 then y / 8 else y / 8 + 1) = y := by rw [if_pos hlt]; omega
        simp only [this, hf]
      · refine ⟨y / 8 - 1, by omega, ?_⟩
        have : l % 8 + 8 * (if y / 8 - 1 < l / 8 then y / 8 - 1 else y / 8 - 1 + 1) = y := by rw [if_neg (by omega)]; omega
        simp only [this, hf])
    rw [cnt_all] at this
    omega

section
variable {m : RM} {B : Int} {l : Nat}

theorem pFetch_big (I : MInv m B) (hS : m.far.S = 8) (hW : m.far.W = 8) (hl : l < 64) :
    (m.pFetch l).firsts = m.firsts ∧ (m.pFetch l).has = m.has ∧ ∀ y : Nat, Hs (m.pFetch l).far y ↔ (y = l ∨ Hs m.far y) := by
  unfold RM.pFetch
  split
  · rename_i j e
    refine ⟨rfl, rfl, fun y => ?_⟩
    rw [show Hs (m.far.found (m.far.lo l + j)) (y : Int) ↔ Hs m.far y from Hs.congr rfl rfl rfl]
    exact ⟨fun h => .inr h, fun h => by rcases h with h | h; rw [h]; exact find_isSome.1 (by rw [e]; rfl); exact h⟩
  · rename_i e
    obtain ⟨j0, hh⟩ := far_hole I.lnf hS hW hl e
    have ho : (missS m.far l).roomOut l = -1 := by
      unfold RC.roomOut
      have : (missS m.far l).hole l = m.far.hole l := rfl
      rw [this, hh]
    have hg : m.gone ((missS m.far l).roomOut l) = m := by unfold RM.gone; rw [if_neg (by omega)]
    rw [hg]
    obtain ⟨f1, f2, f3, f4, f5, f6, j, hj, f7, f8⟩ := farPut_L I.okf l
    obtain ⟨_, l2⟩ := put_ln I.lnf I.okf f2 f3 hj f7 (by omega) (by omega) (find_none.1 e)
    rw [← f8, ho] at l2
    refine ⟨rfl, rfl, fun y => (l2 y (by omega)).trans ?_⟩
    constructor
    · rintro (h | h)
      · exact .inl (by omega)
      · exact .inr h.1
    · rintro (h | h)
      · exact .inl (by omega)
      · exact .inr ⟨h, by omega⟩

/-- what has come of the first cache and of the last one -/
structure OneTouch (m m' : RM) (l : Nat) : Prop where
  f : m'.firsts 0 = (m.firsts 0).tchS l
  r : ∀ y : Nat, y < 64 → (Hs m'.far y ↔ (y = l ∨ Hs m.far y))

theorem touch_hit (I : MInv m B) (h1 : m.cores = 1) (hl : l < 64) (h0 : m.has 0 l ≠ 0) : cTouch (m.firsts 0) l = (m.firsts 0).tchS l := by
  obtain ⟨j, e⟩ := (I.find (c := 0) (l := l) (by omega) hl).2 h0
  unfold cTouch RC.tchS
  rw [e]
theorem touch_miss (I : MInv m B) (h1 : m.cores = 1) (hl : l < 64) (h0 : m.has 0 l = 0) : firPut (m.firsts 0) l = (m.firsts 0).tchS l := by
  have e : (m.firsts 0).find l = none := by
    cases e : (m.firsts 0).find l with
    | none => rfl
    | some j => exact absurd h0 ((I.find (c := 0) (l := l) (by omega) hl).1 ⟨j, e⟩)
  unfold firPut RC.tchS
  rw [e]

theorem pLine_one (I : MInv m B) (C : CInv m) (h1 : m.cores = 1) (hS : m.far.S = 8) (hW : m.far.W = 8) (hl : l < 64) : OneTouch m (m.pLine 0 l) l := by
  by_cases h0 : m.has 0 l ≠ 0
  · unfold RM.pLine
    rw [if_pos h0]
    refine ⟨?_, fun y hy => ⟨fun h => .inr h, fun h => by rcases h with h | h; rw [h]; exact C.inc 0 l (by omega) hl h0; exact h⟩⟩
    show updC m.firsts 0 _ 0 = _
    unfold updC; rw [if_pos rfl]; exact touch_hit I h1 hl h0
  · have h00 : m.has 0 l = 0 := by omega
    obtain ⟨p1, p2, p3⟩ := pFetch_big I hS hW hl
    obtain ⟨i1, i2⟩ := I.pFetch hl
    have hz : (m.pFetch l).has 0 l = 0 := by rw [p2]; exact h00
    have kp := RM.pFetch_keep m l
    have hk : (m.pFetch l).shareK l m.cores = m.pFetch l := by rw [h1]; exact (shareK_same (m.pFetch l) l 0 hz).1
    unfold RM.pLine
    rw [if_neg h0, hk, RM.takenS_eq (m.pFetch l) 0 l _ (i1.fi.ok 0) (i1.fi.ln 0 (by rw [kp.1]; omega))]
    refine ⟨?_, fun y _ => p3 y⟩
    show updC (m.pFetch l).firsts 0 (firPut ((m.pFetch l).firsts 0) l) 0 = _
    unfold updC; rw [if_pos rfl, p1]; exact touch_miss I h1 hl h00

theorem takeK_core0 (q : RM) (l : Nat) : q.takeK 0 l 1 = q := by
  show (if (0 : Nat) ≠ 0 ∧ _ then _ else _) = _
  rw [if_neg (fun z => z.1 rfl)]; rfl
theorem pSLine_one (I : MInv m B) (C : CInv m) (h1 : m.cores = 1) (hS : m.far.S = 8) (hW : m.far.W = 8) (hl : l < 64) : OneTouch m (m.pSLine 0 l) l := by
  by_cases h0 : m.has 0 l = 0
  · obtain ⟨p1, p2, p3⟩ := pFetch_big I hS hW hl
    obtain ⟨i1, i2⟩ := I.pFetch hl
    have kp := RM.pFetch_keep m l
    unfold RM.pSLine
    rw [if_pos h0, h1, takeK_core0, RM.takenS_eq (m.pFetch l) 0 l _ (i1.fi.ok 0) (i1.fi.ln 0 (by rw [kp.1]; omega))]
    refine ⟨?_, fun y _ => p3 y⟩
    show updC (m.pFetch l).firsts 0 (firPut ((m.pFetch l).firsts 0) l) 0 = _
    unfold updC; rw [if_pos rfl, p1]; exact touch_miss I h1 hl h0
  · unfold RM.pSLine
    rw [if_neg h0, h1, takeK_core0]
    have hp : (m.pHere 0 l).firsts = updC m.firsts 0 (cTouch (m.firsts 0) l) ∧ (m.pHere 0 l).far = m.far := by unfold RM.pHere; split <;> exact ⟨rfl, rfl⟩
    refine ⟨?_, fun y hy => ?_⟩
    · show (m.pHere 0 l).firsts 0 = _
      rw [hp.1]; unfold updC; rw [if_pos rfl]; exact touch_hit I h1 hl h0
    · show Hs (m.pHere 0 l).far y ↔ _
      rw [hp.2]
      exact ⟨fun h => .inr h, fun h => by rcases h with h | h; rw [h]; exact C.inc 0 l (by omega) hl h0; exact h⟩
end

/-- a step of Nested -/
def nAd (o : Nat → Int) : Nat := pickN (o 2) 256
def nLn (o : Nat → Int) : Nat := nAd o / 4
def RM.nst (m : RM) (o : Nat → Int) : RM := if pickN (o 0) 2 = 0 then m.lS 0 (nAd o) else m.sS 0 (nAd o) (o 3)
def RM.nrun (m : RM) (os : Nat → Nat → Int) : Nat → RM
  | 0 => m
  | k + 1 => (m.nrun os k).nst (os k)
/-- where the step finds its line -/
def RM.nPl (m : RM) (o : Nat → Int) : Int := m.pPlace 0 (nLn o)
theorem nAd_lt (o : Nat → Int) : nAd o < 256 := pickN_lt _ _ (by omega)
theorem nLn_lt (o : Nat → Int) : nLn o < 64 := by have := nAd_lt o; unfold nLn; omega

/-- how the machine stands -/
structure NI (m : RM) (B : Int) : Prop where
  I : MInv m B
  C : CInv m
  s : S1 m
  d : Dm m
  S : m.far.S = 8
  W : m.far.W = 8

section
variable {m : RM} {B : Int}
theorem NI.refE (h : NI m B) (o : Nat → Int) : refE m.cores (0 : Int) (nAd o : Int) = 0 := by
  have := nAd_lt o
  unfold Go.Proofs.Ytobniidkkmlilaa.refE; rw [h.s.c, if_neg (by omega), if_neg (by omega)]
theorem NI.load_eq (h : NI m B) (o : Nat → Int) : m.lS 0 (nAd o) = ((m.pLine 0 (nLn o)).bump 0).bump (2 + (m.pPlace 0 (nLn o)).toNat) ∧ m.lW 0 (nAd o) = m.nPl o := by
  have h1 := h.s.c
  have e := h.I.pLoad_eq (c := 0) (l := nLn o) (by omega) (nLn_lt o)
  unfold RM.lS RM.lW
  rw [if_pos (h.refE o), if_pos (h.refE o)]
  exact ⟨e.1.symm, e.2.symm⟩
theorem NI.store_eq (h : NI m B) (o : Nat → Int) : m.sS 0 (nAd o) (o 3) = (({ m.pSLine 0 (nLn o) with words := upd m.words (nAd o) (o 3) } : RM).bump 1).bump (2 + (m.pPlace 0 (nLn o)).toNat) ∧ m.sW 0 (nAd o) = m.nPl o := by
  have h1 := h.s.c
  have e := h.I.pStore_eq (c := 0) (l := nLn o) (by omega) (nLn_lt o) (nAd o) (o 3)
  unfold RM.sS RM.sW
  rw [if_pos (h.refE o), if_pos (h.refE o)]
  exact ⟨e.1.symm, e.2.symm⟩
theorem NI.step (h : NI m B) (o : Nat → Int) : NI (m.nst o) (B + 12) ∧ OneTouch m (m.nst o) (nLn o) ∧ (m.nst o).conf = m.conf := by
  have h1 := h.s.c
  unfold RM.nst
  split
  · have i := h.I.lS 0 (nAd o)
    have d := DimR.lS h.I 0 (nAd o)
    have e := (h.load_eq o).1
    have ls : m.lS 0 (nAd o) = m.loadS 0 (nLn o) := by unfold RM.lS; rw [if_pos (h.refE o)]; rfl
    have sS : S1 (m.lS 0 (nAd o)) := by rw [ls]; exact h.s.load h.I (by omega) (nLn_lt o)
    have ot := pLine_one h.I h.C h1 h.S h.W (nLn_lt o)
    refine ⟨⟨i.1.mono (by omega), h.C.lS h.I _ _, sS, h.d.of d, by rw [d.fr.1]; exact h.S, by rw [d.fr.2.1]; exact h.W⟩, ?_, d.cf⟩
    rw [e]; exact ⟨ot.f, ot.r⟩
  · have i := h.I.sS 0 (nAd o) (o 3)
    have d := DimR.sS h.I 0 (nAd o) (o 3)
    have e := (h.store_eq o).1
    have ls : m.sS 0 (nAd o) (o 3) = m.storeS 0 (nLn o) (nAd o) (o 3) := by unfold RM.sS; rw [if_pos (h.refE o)]; rfl
    have sS : S1 (m.sS 0 (nAd o) (o 3)) := by rw [ls]; exact h.s.store h.I (by omega) (nLn_lt o) _ _
    have ot := pSLine_one h.I h.C h1 h.S h.W (nLn_lt o)
    refine ⟨⟨i.1, h.C.sS h.I _ _ _, sS, h.d.of d, by rw [d.fr.1]; exact h.S, by rw [d.fr.2.1]; exact h.W⟩, ?_, d.cf⟩
    rw [e]; exact ⟨ot.f, ot.r⟩
end

/-- the first cache, touched line by line -/
def fcRun (r : RC) (xs : Nat → Nat) : Nat → RC
  | 0 => r
  | k + 1 => (fcRun r xs k).tchS (xs k)

theorem nrun_all {m : RM} (h : NI m 0) (h0 : ∀ y : Nat, ¬ Hs m.far y) (os : Nat → Nat → Int) : ∀ k : Nat, NI (m.nrun os k) (12 * (k : Int)) ∧ (m.nrun os k).firsts 0 = fcRun (m.firsts 0) (fun i => nLn (os i)) k ∧ (∀ y : Nat, y < 64 → (Hs (m.nrun os k).far y ↔ ∃ i, i < k ∧ nLn (os i) = y)) ∧ (m.nrun os k).conf = m.conf
  | 0 => ⟨h, rfl, fun y _ => ⟨fun q => absurd q (h0 y), fun ⟨i, hi, _⟩ => by omega⟩, rfl⟩
  | k + 1 => by
    obtain ⟨a, b, c, d⟩ := nrun_all h h0 os k
    obtain ⟨s1, s2, s3⟩ := a.step (os k)
    refine ⟨⟨s1.I.mono (by omega), s1.C, s1.s, s1.d, s1.S, s1.W⟩, ?_, fun y hy => ?_, s3.trans d⟩
    · show ((m.nrun os k).nst (os k)).firsts 0 = (fcRun _ _ k).tchS _
      rw [s2.f, b]
    · show Hs ((m.nrun os k).nst (os k)).far y ↔ _
      rw [s2.r y hy, c y hy]
      constructor
      · rintro (e | ⟨i, hi, e⟩)
        · exact ⟨k, by omega, e.symm⟩
        · exact ⟨i, by omega, e⟩
      · rintro ⟨i, hi, e⟩
        by_cases q : i = k
        · subst q; exact .inl e.symm
        · exact .inr ⟨i, by omega, e⟩

end Go.Proofs.Ytobniidkkmlilaa
