import Derived.Test.YtobniidkkmlilaaPa36

/- The reference's Load and Store under the invariant; what a step of a pair needs. -/
namespace Go.Proofs.Ytobniidkkmlilaa
open Go.RowKit Go.Coh

theorem refLoad_inv (y : Lay) (m : RM) (c a l : Nat) (B : Int) (w : World) (el : l = a / 4) (hc : c < m.cores) (ha : a < 256) (I : MInv m B) (hB : B ≤ 1152921504606846976) (H : RmAt w y m) :
    Calls Try.prog 77 #[.pointer (some ⟨y.blk 0, 0, none⟩), .int .i64 c, .int .i64 a] w fun e w' => e = .returned (.tuple #[.int .i64 (m.words a), .int .i64 (m.loadW c l), .int .i64 0]) ∧ RmAt w' y (m.loadS c l) ∧ Upd (rmS y m.cores) w w' := by
  have hl : l < 64 := by omega
  have I1 := I.bump 0
  refine refLoad_good y m c a l w el hc I.c.2 ha (I1.mono (by omega)).rmOk ⟨(I.ht 0).1, by have := (I.ht 0).2; omega⟩ (fun hn => ⟨I1.fetchPre l (by omega), ?_⟩) H
  have kp := RM.fetchedS_keep (m.bump 0) l
  have sk := RM.shareK_keep ((m.bump 0).fetchedS l) l m.cores
  exact ((I1.fetched hl).1.share l m.cores).takePre (by rw [sk.1, kp.1]; exact hc) l (by omega)

theorem refStore_inv (y : Lay) (m : RM) (c a l : Nat) (v : Int) (B : Int) (w : World) (el : l = a / 4) (hc : c < m.cores) (ha : a < 256) (I : MInv m B) (hB : B ≤ 1152921504606846976) (H : RmAt w y m) :
    Calls Try.prog 78 #[.pointer (some ⟨y.blk 0, 0, none⟩), .int .i64 c, .int .i64 a, .int .i64 v] w fun e w' => e = .returned (.tuple #[.int .i64 (m.storeW c l), .int .i64 0]) ∧ RmAt w' y (m.storeS c l a v) ∧ Upd (rmS y m.cores) w w' := by
  have hl : l < 64 := by omega
  have I1 := I.bump 1
  have hc4 := I.c
  refine refStore_good y m c a l v w el hc I.c.2 ha (I1.mono (by omega)).rmOk ⟨(I.ht 1).1, by have := (I.ht 1).2; omega⟩ (fun hn => ⟨I1.fetchPre l (by omega), ?_, ?_⟩) (fun hn => ?_) H
  · exact (I1.fetched hl).1.losePre c hl (by omega)
  · have kp := RM.fetchedS_keep (m.bump 1) l
    have tk := RM.takeK_keep ((m.bump 1).fetchedS l) c l m.cores
    exact ((I1.fetched hl).1.takeK c hl m.cores (by rw [kp.1]; exact Nat.le_refl _)).takePre (by rw [tk.1, kp.1]; exact hc) l (by omega)
  · exact ((I1.near (c := c) (l := l) hc).upgr c l).losePre c hl (by omega)

theorem loadS_cores (m : RM) (c l : Nat) : (m.loadS c l).cores = m.cores := by
  unfold RM.loadS
  split
  · exact (RM.nearS_keep (m.bump 0) c l).1
  · have kp := RM.fetchedS_keep (m.bump 0) l
    have sk := RM.shareK_keep ((m.bump 0).fetchedS l) l m.cores
    show (RM.cleared _ c l).cores = _
    unfold RM.cleared
    split
    · rw [(RM.loseAt_keep _ c _).1]; show (RM.shareK _ l m.cores).cores = _; rw [sk.1, kp.1]; rfl
    · show (RM.shareK _ l m.cores).cores = _; rw [sk.1, kp.1]; rfl
theorem storeS_cores (m : RM) (c l a : Nat) (v : Int) : (m.storeS c l a v).cores = m.cores := by
  show (m.storeM c l).cores = _
  unfold RM.storeM
  split
  · show (RM.takeK _ c l m.cores).cores = _
    rw [(RM.takeK_keep _ c l m.cores).1, (RM.upgr_keep _ c l).1, (RM.nearS_keep (m.bump 1) c l).1]; rfl
  · have kp := RM.fetchedS_keep (m.bump 1) l
    have sk := RM.takeK_keep ((m.bump 1).fetchedS l) c l m.cores
    show (RM.cleared _ c l).cores = _
    unfold RM.cleared
    split
    · rw [(RM.loseAt_keep _ c _).1]; show (RM.takeK _ c l m.cores).cores = _; rw [sk.1, kp.1]; rfl
    · show (RM.takeK _ c l m.cores).cores = _; rw [sk.1, kp.1]; rfl
theorem evictS_cores (m : RM) (c l : Int) : (m.evictS c l).cores = m.cores := by
  unfold RM.evictS
  split
  · exact (RM.loseAt_keep m _ _).1
  · rfl
theorem drainS_cores (m : RM) : m.drainS.cores = m.cores := (RM.drainK_keep m 64).1

theorem boxed {S : Nat → Nat → Prop} {w w1 : World} {pc oc : Array Value} {tp tq : TypeId} (u : Upd S ((w.alloc (.cells pc tp)).alloc (.cells oc tq)) w1) (h1 : ∀ o, ¬ S w.heap.size o) (h2 : ∀ o, ¬ S (w.heap.size + 1) o) :
    w1.heap[w.heap.size]? = some (.cells pc tp) ∧ w1.heap[w.heap.size + 1]? = some (.cells oc tq) ∧ w.heap.size + 1 < w1.heap.size := by
  have hz := u.size
  simp at hz
  refine ⟨?_, ?_, by omega⟩
  · rw [u.block (by simp; omega) h1, Below.heap_alloc _ _ _ (by simp), heap_alloc_new]
  · rw [u.block (by simp) h2]; exact heap_alloc2_new w _ _

/-- behind two boxes: a machine has gone on -/
theorem PairAt.boxes {w : World} {x : PD} {B : Int} (h : PairAt w x B) (o1 o2 : Obj) : PairAt ((w.alloc o1).alloc o2) x B := h.of_upd (S := no) (((Upd.refl no w).alloc _).alloc _) (fun _ _ _ e => e)

theorem Goes.of_boxes {w w' : World} {x : PD} {o1 o2 : Obj} {r1 r2 : RM} (u : Upd (ownS x) ((w.alloc o1).alloc o2) w') (hc : r2.cores = x.r2.cores) : Goes w w' x { x with r1 := r1, r2 := r2 } :=
  ⟨rfl, rfl, fun k hk => .inl (by
    rcases hk with e | ⟨p, hp, e⟩
    · exact .inl e
    · exact .inr ⟨p, by have hp' : p < 4 + 2 * r2.cores := hp; rw [hc] at hp'; exact hp', e⟩), (((Upd.refl (ownS x) w).alloc _).alloc _).trans u⟩

/-! the calls of the two machines, whatever the arguments, by the same functions -/
def RM.lV (m : RM) (c a : Int) : Int := if refE m.cores c a = 0 then m.words a.toNat else 0
def RM.lW (m : RM) (c a : Int) : Int := if refE m.cores c a = 0 then m.loadW c.toNat (a.toNat / 4) else 0
def RM.lS (m : RM) (c a : Int) : RM := if refE m.cores c a = 0 then m.loadS c.toNat (a.toNat / 4) else m
def RM.sW (m : RM) (c a : Int) : Int := if refE m.cores c a = 0 then m.storeW c.toNat (a.toNat / 4) else 0
def RM.sS (m : RM) (c a v : Int) : RM := if refE m.cores c a = 0 then m.storeS c.toNat (a.toNat / 4) a.toNat v else m

theorem refE_nat {n : Nat} {c a : Int} (h : refE n c a = 0) : ∃ i j : Nat, c = i ∧ a = j ∧ i < n ∧ j < 256 := by
  unfold refE at h
  split at h
  · omega
  · split at h
    · omega
    · exact ⟨c.toNat, a.toNat, by omega, by omega, by omega, by omega⟩
theorem stateE_nat {n : Nat} {c a : Int} (h : stateE n c a = 0) : ∃ i j : Nat, c = i ∧ a = j ∧ i < n ∧ j < 64 := by
  unfold stateE at h
  split at h
  · omega
  · split at h
    · omega
    · exact ⟨c.toNat, a.toNat, by omega, by omega, by omega, by omega⟩

theorem MInv.lS {m : RM} {B : Int} (h : MInv m B) (c a : Int) : MInv (m.lS c a) (B + 8) ∧ (m.lS c a).cores = m.cores := by
  unfold RM.lS
  split
  · rename_i he
    obtain ⟨i, j, rfl, rfl, hi, hj⟩ := refE_nat he
    exact ⟨h.load (by simpa using hi) (by simp; omega), loadS_cores _ _ _⟩
  · exact ⟨h.mono (by omega), rfl⟩
theorem MInv.sS {m : RM} {B : Int} (h : MInv m B) (c a v : Int) : MInv (m.sS c a v) (B + 12) ∧ (m.sS c a v).cores = m.cores := by
  unfold RM.sS
  split
  · rename_i he
    obtain ⟨i, j, rfl, rfl, hi, hj⟩ := refE_nat he
    exact ⟨h.store (by simpa using hi) (by simp; omega) _ _, storeS_cores _ _ _ _ _⟩
  · exact ⟨h.mono (by omega), rfl⟩

theorem pLoad_all (b : Nat) (m : RM) (c a B : Int) (w : World) (I : MInv m B) (hB : B ≤ 1152921504606846976) (H : PmAt w b m) :
    Calls Try.prog 34 #[.pointer (some ⟨b, 0, none⟩), .int .i64 c, .int .i64 a] w fun e w' => e = .returned (.tuple #[.int .i64 (m.lV c a), .int .i64 (m.lW c a), .int .i64 (refE m.cores c a)]) ∧ PmAt w' b (m.lS c a) ∧ Upd (blkS b) w w' := by
  unfold RM.lV RM.lW RM.lS
  by_cases he : refE m.cores c a = 0
  · rw [if_pos he, if_pos he, if_pos he, he]
    obtain ⟨i, j, rfl, rfl, hi, hj⟩ := refE_nat he
    exact pLoad_good b m i j (j / 4) B w rfl hi hj I hB H
  · rw [if_neg he, if_neg he, if_neg he]
    refine (pLoad_bad b m c a w he H).mono ?_
    rintro e w' ⟨rfl, rfl⟩
    exact ⟨rfl, H, Upd.refl _ _⟩
theorem refLoad_all (y : Lay) (m : RM) (c a B : Int) (w : World) (I : MInv m B) (hB : B ≤ 1152921504606846976) (H : RmAt w y m) :
    Calls Try.prog 77 #[.pointer (some ⟨y.blk 0, 0, none⟩), .int .i64 c, .int .i64 a] w fun e w' => e = .returned (.tuple #[.int .i64 (m.lV c a), .int .i64 (m.lW c a), .int .i64 (refE m.cores c a)]) ∧ RmAt w' y (m.lS c a) ∧ Upd (rmS y m.cores) w w' := by
  unfold RM.lV RM.lW RM.lS
  by_cases he : refE m.cores c a = 0
  · rw [if_pos he, if_pos he, if_pos he, he]
    obtain ⟨i, j, rfl, rfl, hi, hj⟩ := refE_nat he
    exact refLoad_inv y m i j (j / 4) B w rfl hi hj I hB H
  · rw [if_neg he, if_neg he, if_neg he]
    refine (refLoad_bad y m c a w he H).mono ?_
    rintro e w' ⟨rfl, rfl⟩
    exact ⟨rfl, H, Upd.refl _ _⟩
theorem refStore_all (y : Lay) (m : RM) (c a v B : Int) (w : World) (I : MInv m B) (hB : B ≤ 1152921504606846976) (H : RmAt w y m) :
    Calls Try.prog 78 #[.pointer (some ⟨y.blk 0, 0, none⟩), .int .i64 c, .int .i64 a, .int .i64 v] w fun e w' => e = .returned (.tuple #[.int .i64 (m.sW c a), .int .i64 (refE m.cores c a)]) ∧ RmAt w' y (m.sS c a v) ∧ Upd (rmS y m.cores) w w' := by
  unfold RM.sW RM.sS
  by_cases he : refE m.cores c a = 0
  · rw [if_pos he, if_pos he, he]
    obtain ⟨i, j, rfl, rfl, hi, hj⟩ := refE_nat he
    exact refStore_inv y m i j (j / 4) v B w rfl hi hj I hB H
  · rw [if_neg he, if_neg he]
    refine (refStore_bad y m c a v w he H).mono ?_
    rintro e w' ⟨rfl, rfl⟩
    exact ⟨rfl, H, Upd.refl _ _⟩
theorem pEvict_all (b : Nat) (m : RM) (c l B : Int) (w : World) (I : MInv m B) (H : PmAt w b m) :
    Calls Try.prog 54 #[.pointer (some ⟨b, 0, none⟩), .int .i64 c, .int .i64 l] w fun e w' => e = .returned (.int .i64 (stateE m.cores c l)) ∧ PmAt w' b (m.evictS c l) ∧ Upd (blkS b) w w' := by
  by_cases he : stateE m.cores c l = 0
  · rw [he]
    obtain ⟨i, j, rfl, rfl, hi, hj⟩ := stateE_nat he
    rw [← I.pEvict hi hj]
    exact pEvict_good b m i j w hi hj I.c.2 H
  · have e : m.evictS c l = m := by unfold RM.evictS; rw [if_neg (fun h => he h.1)]
    rw [e]
    refine (pEvict_bad b m c l w he H).mono ?_
    rintro e w' ⟨rfl, rfl⟩
    exact ⟨rfl, H, Upd.refl _ _⟩
theorem refEvict_all (y : Lay) (m : RM) (c l B : Int) (w : World) (I : MInv m B) (H : RmAt w y m) :
    Calls Try.prog 79 #[.pointer (some ⟨y.blk 0, 0, none⟩), .int .i64 c, .int .i64 l] w fun e w' => e = .returned (.int .i64 (stateE m.cores c l)) ∧ RmAt w' y (m.evictS c l) ∧ Upd (rmS y m.cores) w w' :=
  refEvict_any y m c l w I.c.2 I.fi.ok (fun _ _ hi hk hh => (I.find hi hk).2 hh) H

end Go.Proofs.Ytobniidkkmlilaa
