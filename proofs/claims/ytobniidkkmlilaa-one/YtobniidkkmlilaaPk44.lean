import Derived.Test.YtobniidkkmlilaaPk43
import Derived.Test.YtobniidkkmlilaaPk11
import Derived.Test.YtobniidkkmlilaaPk34
import Derived.Deep.RegionHeld3

/- Plain: no more lines of a set than ways; a machine of one core. -/
namespace Go.Proofs.Ytobniidkkmlilaa
open Go.RowKit Go.Coh

/-- how many of the first k numbers -/
def cnt (P : Nat → Bool) : Nat → Nat
  | 0 => 0
  | k + 1 => cnt P k + (if P k then 1 else 0)

theorem cnt_none {P : Nat → Bool} : ∀ {k}, (∀ n, n < k → P n = false) → cnt P k = 0
  | 0, _ => rfl
  | k + 1, h => by
    unfold cnt
    rw [cnt_none (fun n hn => h n (by omega)), h k (by omega)]; rfl
theorem cnt_but {P : Nat → Bool} (x : Int) : ∀ k, cnt P k ≤ cnt (fun n => P n && decide ((n : Int) ≠ x)) k + 1
  | 0 => by simp [cnt]
  | k + 1 => by
    by_cases e : (k : Int) = x
    · have hs : ∀ j, j ≤ k → cnt P j = cnt (fun n => P n && decide ((n : Int) ≠ x)) j := by
        intro j hj
        induction j with
        | zero => rfl
        | succ j ih =>
          unfold cnt
          rw [ih (by omega)]
          have : decide ((j : Int) ≠ x) = true := by simp; omega
          simp only [this, Bool.and_true]
      unfold cnt
      rw [hs k (Nat.le_refl _)]
      split <;> split <;> omega
    · have ih := cnt_but (P := P) x k
      unfold cnt
      have : decide ((k : Int) ≠ x) = true := by simp; exact e
      simp only [this, Bool.and_true]
      omega
/-- what W places can name is W at most -/
theorem cnt_le : ∀ (W : Nat) {P : Nat → Bool} {k : Nat} (g : Nat → Int), (∀ n, n < k → P n = true → ∃ j, j < W ∧ g j = n) → cnt P k ≤ W
  | 0, P, k, g, h => by
    rw [cnt_none (fun n hn => by
      cases e : P n with
      | false => rfl
      | true => obtain ⟨j, hj, _⟩ := h n hn e; omega)]
    omega
  | W + 1, P, k, g, h => by
    have h1 := cnt_but (P := P) (g W) k
    have h2 := cnt_le W (P := fun n => P n && decide ((n : Int) ≠ g W)) (k := k) g (fun n hn hp => by
      simp only [Bool.and_eq_true, decide_eq_true_eq] at hp
      obtain ⟨j, hj, e⟩ := h n hn hp.1
      refine ⟨j, ?_, e⟩
      by_cases ej : j = W
      · subst ej; exact absurd e.symm hp.2
      · omega)
    omega

/-- no more lines of a set than ways -/
theorem set_room {s : RC} (s0 : Nat) (k : Nat) : cnt (fun n => decide (n % s.S = s0) && (s.find n).isSome) k ≤ s.W := by
  refine cnt_le s.W (fun j => s.L (s0 * s.W + j)) (fun n _ hp => ?_)
  simp only [Bool.and_eq_true, decide_eq_true_eq] at hp
  obtain ⟨j, hj, e⟩ := find_isSome.1 hp.2
  refine ⟨j, hj, ?_⟩
  have : ((n : Int) % (s.S : Int)).toNat = n % s.S := by
    rw [← Int.natCast_emod]; rfl
  rw [lo_eq, this, hp.1] at e
  exact e

/-- what has happened to the tables: copies may be gone, nothing was upgraded or taken -/
structure Less (m m' : RM) : Prop where
  has : ∀ i y, m'.has i y = m.has i y ∨ m'.has i y = 0
  t5 : m'.tally 5 = m.tally 5
  t6 : m'.tally 6 = m.tally 6

theorem Less.refl (m : RM) : Less m m := ⟨fun _ _ => .inl rfl, rfl, rfl⟩
theorem Less.trans {a b c : RM} (h : Less a b) (k : Less b c) : Less a c :=
  ⟨fun i y => by rcases k.has i y with e | e; rw [e]; exact h.has i y; exact .inr e, k.t5.trans h.t5, k.t6.trans h.t6⟩
theorem Less.bump (m : RM) (q : Nat) (h5 : q ≠ 5) (h6 : q ≠ 6) : Less m (m.bump q) :=
  ⟨fun _ _ => .inl rfl, by show upd m.tally q _ 5 = _; unfold upd; rw [if_neg (by omega)], by show upd m.tally q _ 6 = _; unfold upd; rw [if_neg (by omega)]⟩
theorem Less.bumpOf {m q : RM} (k : Nat) (hh : q.has = m.has) (ht : q.tally = m.tally) (h5 : k ≠ 5) (h6 : k ≠ 6) : Less m (q.bump k) :=
  ⟨fun i y => .inl (by show q.has i y = _; rw [hh]), by show upd q.tally k _ 5 = _; unfold upd; rw [if_neg (by omega), ht], by show upd q.tally k _ 6 = _; unfold upd; rw [if_neg (by omega), ht]⟩
theorem Less.lose (m : RM) (c l : Nat) : Less m (m.loseAt c l) := by
  refine ⟨fun i y => ?_, by rw [(RM.loseAt_keep m c l).2.2.2.1], by rw [(RM.loseAt_keep m c l).2.2.2.1]⟩
  by_cases e : y ≠ l ∨ i ≠ c
  · exact .inl (RM.loseAt_has m c l i y e)
  · obtain ⟨rfl, rfl⟩ : y = l ∧ i = c := by omega
    unfold RM.loseAt
    split
    · right
      have : (m.losesS i y ((m.firsts i).lo y + ‹Nat›)).has = updH m.has i y 0 := by unfold RM.losesS; split <;> rfl
      rw [this]; unfold updH; rw [if_pos ⟨rfl, rfl⟩]
    · exact .inl rfl
theorem Less.dropK (m : RM) (l : Nat) : ∀ k, Less m (m.dropK l k)
  | 0 => Less.refl m
  | k + 1 => by
    have ih := Less.dropK m l k
    unfold RM.dropK
    split
    · exact (ih.trans (Less.lose _ _ _)).trans (Less.bump _ 7 (by omega) (by omega))
    · exact ih
theorem Less.dropped (m : RM) (l : Nat) : Less m (m.droppedS l) := by
  have h := Less.dropK m l m.cores
  unfold RM.droppedS
  dsimp only
  split
  · exact (h.trans (Less.bump _ 8 (by omega) (by omega))).trans ⟨fun _ _ => .inl rfl, rfl, rfl⟩
  · exact h.trans ⟨fun _ _ => .inl rfl, rfl, rfl⟩
theorem Less.fetched (m : RM) (l : Nat) : Less m (m.fetchedS l) := by
  unfold RM.fetchedS
  split
  · exact Less.bumpOf 3 rfl rfl (by omega) (by omega)
  · rw [RM.fetchedM_eq]
    have hg : Less m (m.gone ((missS m.far l).roomOut l)) := by
      unfold RM.gone; split
      · exact Less.dropped _ _
      · exact Less.refl _
    exact hg.trans (Less.bumpOf 4 rfl rfl (by omega) (by omega))
theorem Less.near (m : RM) (c l : Nat) : Less m (m.nearS c l) := by
  unfold RM.nearS
  split
  · exact Less.bumpOf 2 rfl rfl (by omega) (by omega)
  · exact Less.refl m

/-- a machine of one core shares nothing -/
structure S1 (m : RM) : Prop where
  c : m.cores = 1
  has : ∀ i l, m.has i l ≠ 1
  t5 : m.tally 5 = 0
  t6 : m.tally 6 = 0
theorem S1.less {m m' : RM} (h : S1 m) (k : Less m m') (hc : m'.cores = m.cores) : S1 m' :=
  ⟨hc.trans h.c, fun i l => by rcases k.has i l with e | e; rw [e]; exact h.has i l; rw [e]; omega, k.t5.trans h.t5, k.t6.trans h.t6⟩

theorem S1.taken {m : RM} (h : S1 m) (c l : Nat) {v : Int} (hv : v ≠ 1) (ok : RcOk (m.firsts c)) (ln : LnOk (m.firsts c)) : S1 (m.takenS c l v) := by
  rw [RM.takenS_eq m c l v ok ln]
  refine ⟨h.c, fun i y => ?_, h.t5, h.t6⟩
  show updH (outH m.has c _) c l v i y ≠ 1
  unfold updH outH
  split
  · exact hv
  · split
    · unfold updH; split
      · omega
      · exact h.has i y
    · exact h.has i y

theorem S1.load {m : RM} {B : Int} (h : S1 m) (I : MInv m B) {c l : Nat} (hc : c < m.cores) (hl : l < 64) : S1 (m.loadS c l) := by
  have hb := h.less (Less.bump m 0 (by omega) (by omega)) rfl
  unfold RM.loadS
  split
  · exact hb.less (Less.near _ c l) (RM.nearS_keep (m.bump 0) c l).1
  · rename_i hn
    have I1 := I.bump 0
    have h0 : m.has c l = 0 := by
      by_cases e : m.has c l = 0
      · exact e
      · exact absurd ((I1.near_eq (c := c) (l := l) hc hl).2 e) hn
    obtain ⟨j1, j2⟩ := I1.fetched hl
    have kp := RM.fetchedS_keep (m.bump 0) l
    have hf := hb.less (Less.fetched (m.bump 0) l) kp.1
    have hc0 : c = 0 := by have := h.c; omega
    subst hc0
    have h1 : (m.bump 0).cores = 1 := h.c
    have hz : ((m.bump 0).fetchedS l).has 0 l = 0 := by rw [j2]; exact h0
    unfold RM.loadFar
    rw [h1]
    have e1 := shareK_same ((m.bump 0).fetchedS l) l 0 hz
    rw [e1.1, e1.2]
    exact hf.taken 0 l (by show (2 : Int) ≠ 1; omega) (j1.fi.ok 0) (j1.fi.ln 0 (by rw [kp.1]; exact hc))

theorem S1.store {m : RM} {B : Int} (h : S1 m) (I : MInv m B) {c l : Nat} (hc : c < m.cores) (hl : l < 64) (a : Nat) (v : Int) : S1 (m.storeS c l a v) := by
  have hb := h.less (Less.bump m 1 (by omega) (by omega)) rfl
  have hc0 : c = 0 := by have := h.c; omega
  subst hc0
  have key : S1 (m.storeM 0 l) := by
    unfold RM.storeM
    have h1 : (m.bump 1).cores = 1 := h.c
    have tk : ∀ q : RM, q.takeK 0 l 1 = q := fun q => by
      show (if (0 : Nat) ≠ 0 ∧ _ then _ else _) = _
      rw [if_neg (fun z => z.1 rfl)]; rfl
    split
    · have hn := hb.less (Less.near _ 0 l) (RM.nearS_keep (m.bump 1) 0 l).1
      have eu : ((m.bump 1).nearS 0 l).upgr 0 l = (m.bump 1).nearS 0 l := by
        unfold RM.upgr; rw [if_neg (hn.has 0 l)]
      unfold RM.storeNear
      rw [h1, eu, tk]
      refine ⟨hn.c, fun i y => ?_, hn.t5, hn.t6⟩
      show updH _ 0 l 3 i y ≠ 1
      unfold updH; split
      · omega
      · exact hn.has i y
    · have I1 := I.bump 1
      obtain ⟨j1, j2⟩ := I1.fetched hl
      have kp := RM.fetchedS_keep (m.bump 1) l
      have hf := hb.less (Less.fetched (m.bump 1) l) kp.1
      unfold RM.storeFar
      rw [h1, tk]
      exact hf.taken 0 l (by omega) (j1.fi.ok 0) (j1.fi.ln 0 (by rw [kp.1]; exact hc))
  exact ⟨key.c, key.has, key.t5, key.t6⟩

theorem S1.evict {m : RM} (h : S1 m) (x y : Int) : S1 (m.evictS x y) := by
  unfold RM.evictS
  split
  · exact h.less (Less.lose _ _ _) (RM.loseAt_keep m _ _).1
  · exact h
theorem S1.drain {m : RM} (h : S1 m) : S1 m.drainS := by
  have kp := RM.drainK_keep m 64
  refine ⟨(drainS_cores m).trans h.c, fun i l => by show (0 : Int) ≠ 1; omega, ?_, ?_⟩
  · show (m.drainK 64).tally 5 = 0; rw [kp.2.2.2.2.2.2.2.2 5 (by omega)]; exact h.t5
  · show (m.drainK 64).tally 6 = 0; rw [kp.2.2.2.2.2.2.2.2 6 (by omega)]; exact h.t6
theorem newM_s1 {cf : Nat → Int} (h : cf 0 = 1) : S1 (newM cf).freshS :=
  ⟨by show (cf 0).toNat = 1; rw [h]; rfl, fun i l => by show (0 : Int) ≠ 1; omega, rfl, rfl⟩
end Go.Proofs.Ytobniidkkmlilaa

/- The walks over package coherentkeep: fit. -/
namespace Go.Proofs.Ytobniidkkmlilaa
open Go.RowKit Go.Coh

def fitC (c : Nat → Int) : Nat → Int := fun j => if j = 0 then 1 + (pickN (c 0) 4 : Int) else if j = 3 then (pickN (c 3) 2 : Int) else if j = 6 then (pickN (c 6) 5 : Int) else (powerN (c j) : Int)

theorem pick_same (c : Int) (n : Nat) (k : Int) (w : World) (ek : k = n) (hn : 0 < n) (hn2 : n ≤ 1000) (h : -9223372036854775808 ≤ c ∧ c ≤ 9223372036854775807) :
    Calls Try.prog 25 #[.int .i64 c, .int .i64 k] w fun e w' => e = .returned (.int .i64 (pickN c n)) ∧ w' = w := pick_int c n k w ek hn hn2 h.1 h.2

set_option maxRecDepth 100000 in
set_option maxHeartbeats 2000000 in
theorem fit_any (c : Nat → Int) (w : World) (hc : ∀ j, j < 7 → -9223372036854775808 ≤ c j ∧ c j ≤ 9223372036854775807) :
    Calls Try.prog 28 #[.agg (celC c)] w fun e w' => e = .returned (.agg (celC (fitC c))) ∧ Upd no w w' := by
  have HCC := (show Hid _ from hc)
  have hp0 := pickN_lt (c 0) 4 (by omega)
  clear hc
  unfold celC
  go_enter Try.func28, Try.ntmps28
  go_wp2_with fail
  go_region_held3 (fun w' => w'.cell? ⟨w.heap.size, 0, none⟩ = some (.int .i64 (c 0)) ∧ w'.cell? ⟨w.heap.size, 1, none⟩ = some (.int .i64 (c 1)) ∧ w'.cell? ⟨w.heap.size, 2, none⟩ = some (.int .i64 (c 2)) ∧ w'.cell? ⟨w.heap.size, 3, none⟩ = some (.int .i64 (c 3)) ∧ w'.cell? ⟨w.heap.size, 4, none⟩ = some (.int .i64 (c 4)) ∧ w'.cell? ⟨w.heap.size, 5, none⟩ = some (.int .i64 (c 5)) ∧ w'.cell? ⟨w.heap.size, 6, none⟩ = some (.int .i64 (c 6))) (go_keep)
    (first
    | (go_at_call_of 25 (Value.int IntKind.i64 (c 0)); refine (pick_same (c 0) 4 4 _ rfl (by omega) (by omega) (HCC.out 0 (by omega))).mono ?_; rintro e1 w3 ⟨rfl, rfl⟩)
    | (go_at_call_of 25 (Value.int IntKind.i64 (c 3)); refine (pick_same (c 3) 2 2 _ rfl (by omega) (by omega) (HCC.out 3 (by omega))).mono ?_; rintro e1 w3 ⟨rfl, rfl⟩)
    | (go_at_call_of 25 (Value.int IntKind.i64 (c 6)); refine (pick_same (c 6) 5 5 _ rfl (by omega) (by omega) (HCC.out 6 (by omega))).mono ?_; rintro e1 w3 ⟨rfl, rfl⟩)
    | (go_at_call_of 22 (Value.int IntKind.i64 (c 1)); refine (power_any (c 1) _ (HCC.out 1 (by omega)).1 (HCC.out 1 (by omega)).2).mono ?_; rintro e1 w3 ⟨rfl, rfl⟩)
    | (go_at_call_of 22 (Value.int IntKind.i64 (c 2)); refine (power_any (c 2) _ (HCC.out 2 (by omega)).1 (HCC.out 2 (by omega)).2).mono ?_; rintro e1 w3 ⟨rfl, rfl⟩)
    | (go_at_call_of 22 (Value.int IntKind.i64 (c 4)); refine (power_any (c 4) _ (HCC.out 4 (by omega)).1 (HCC.out 4 (by omega)).2).mono ?_; rintro e1 w3 ⟨rfl, rfl⟩)
    | (go_at_call_of 22 (Value.int IntKind.i64 (c 5)); refine (power_any (c 5) _ (HCC.out 5 (by omega)).1 (HCC.out 5 (by omega)).2).mono ?_; rintro e1 w3 ⟨rfl, rfl⟩))
  have hw : IntKind.i64.wrap (1 + (pickN (c 0) 4 : Int)) = 1 + (pickN (c 0) 4 : Int) := (IntKind.wrap_i64 _).trans (by omega)
  rw [hw]
  go_wp2
  refine bodyPost_ret (v := .agg (celC (fitC c))) (results_cell_row Try.results28 _ _ (w.heap.size + 1) 53 (celC (fitC c)) (0, 0) _ rfl (heap_alloc2_new w _ _) Try.underlying53 rfl (by kernel_rfl)) rfl ⟨rfl, (((Upd.refl no w).alloc _).alloc _).drew⟩

end Go.Proofs.Ytobniidkkmlilaa
