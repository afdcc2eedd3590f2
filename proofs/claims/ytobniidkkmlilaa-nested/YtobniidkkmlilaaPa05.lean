import Derived.Test.YtobniidkkmlilaaPa04
import Derived.Deep.MidRow

/- The walks: one touch. -/
namespace Go.Proofs.Ytobniidkkmlilaa
open Go.RowKit Go.Coh

/-- Two rows that don't meet. -/
def Apart (b off n b' off' n' : Nat) : Prop := b ≠ b' ∨ off + n ≤ off' ∨ off' + n' ≤ off

/-- the set's cells and the count's -/
def twoS (b off b2 off2 : Nat) : Nat → Nat → Prop := fun k o => rowS b off 25 k o ∨ rowS b2 off2 1 k o

theorem apart_no {b off n b' off' n' : Nat} (h : Apart b off n b' off' n') : ∀ j, j < n → ¬ rowS b' off' n' b (off + j) := fun j hj hr => by
  obtain ⟨h1, h2, h3⟩ := hr
  rcases h with h | h | h
  · exact h h1
  · omega
  · omega
theorem Apart.symm {b off n b' off' n' : Nat} (h : Apart b off n b' off' n') : Apart b' off' n' b off n := by
  rcases h with h | h | h
  · exact .inl fun e => h e.symm
  · exact .inr (.inr h)
  · exact .inr (.inl h)

/-- what a touch leaves in memory -/
structure StAt (w : World) (b off b2 off2 n : Nat) (s : St) : Prop where
  set : SetAt w b off n s.L s.A s.R
  cnt : HoldsF w b2 off2 1 (fun _ => s.c)

theorem StAt.of_upd {S : Nat → Nat → Prop} {w w' : World} {b off b2 off2 n : Nat} {s : St} (h : StAt w b off b2 off2 n s) (u : Upd S w w') (h1 : ∀ j, j < 25 → ¬ S b (off + j)) (h2 : ¬ S b2 off2) : StAt w' b off b2 off2 n s :=
  ⟨h.set.of_upd u h1, h.cnt.of_upd u (fun j hj => by rw [show j = 0 by omega]; exact h2)⟩

def blankT : Array Value := #[.bool false, .int .i64 0, .int .i64 0]

def tv (t : Tch) : Array Value := #[.bool t.hit, .int .i64 t.way, .int .i64 t.out]

theorem tv_one (t : Tch) : (tv t).all (·.oneCell') = true := by simp [tv, Value.oneCell']

set_option maxHeartbeats 1000000 in
theorem touch29 (b off b2 off2 n p : Nat) (x : Int) (s : St) (w : World) (hn : Size n) (hb : Bd s) (hap : Apart b off 25 b2 off2 1) (H : StAt w b off b2 off2 n s) :
    Calls Try.prog 70 #[.pointer (some ⟨b, off, none⟩), .int .i64 p, .pointer (some ⟨b2, off2, none⟩), .int .i64 x] w fun e w' =>
      e = .returned (.agg (tv (tchT p n x s))) ∧ StAt w' b off b2 off2 n (tchS p n x s) ∧ Upd (twoS b off b2 off2) w w' := by
  have hn8 : n ≤ 8 ∧ 0 < n := by rcases hn with h | h | h | h <;> omega
  have HN : Hid (Size n) := hn
  have HB : Hid (Bd s) := hb
  have HAP : Hid (Apart b off 25 b2 off2 1) := hap
  have hbl : b < w.heap.size := H.set.ln.lt (by omega)
  have hbl2 : b2 < w.heap.size := H.cnt.lt (by omega)
  have H0 : Hid (StAt (w.alloc (.cells #[.bool false, .int .i64 0, .int .i64 0] 41)) b off b2 off2 n s) :=
    H.of_upd ((Upd.refl no w).alloc _) (fun _ _ h => h) (fun h => h)
  clear hn hb hap H
  cases hf : findN s.L x n with
  | some k =>
    have HF : Hid (findN s.L x n = some k) := hf
    have hk : k < n := (findN_some.1 hf).1
    have HT : Hid (tchT p n x s = ⟨true, k, -1⟩) := by unfold tchT; rw [hf]; rfl
    have HS : Hid (tchS p n x s = ⟨s.L, touchA n k s.A, upd s.R k 0, s.c⟩) := by unfold tchS; rw [hf]; rfl
    rw [HT.out, HS.out]
    clear hf HT HS
    have hne : ((k : Int) != -1) = true := by simp
    go_enter Try.func70, Try.ntmps70
    go_wp2_with fail
    refine (Find_any b off n _ _ _ _ _ hn8.1 H0.out.set).mono ?_
    rintro e w1 ⟨rfl, rfl⟩
    rw [HF.out]
    simp only [oi]
    go_wp2_with fail
    refine (Found_any b off n k _ _ _ _ hn8.1 hk HB.out.a H0.out.set).mono ?_
    rintro e w2 ⟨rfl, hs, hu⟩
    have hr : w2.heap[w.heap.size]? = some (.cells blankT 41) := by
      rw [hu.block (by simp) (fun o ho => by have := ho.1; omega)]; exact heap_alloc_new _ _
    have HR : Hid (w2.heap[w.heap.size]? = some (.cells blankT 41)) := hr
    have HC := H0.out.cnt.of_upd hu (apart_no HAP.out.symm)
    have HST : Hid (StAt (w2.setRow w.heap.size (tv ⟨true, k, -1⟩)) b off b2 off2 n ⟨s.L, touchA n k s.A, upd s.R k 0, s.c⟩) := by
      have hh : StAt w2 b off b2 off2 n ⟨s.L, touchA n k s.A, upd s.R k 0, s.c⟩ := ⟨hs, HC⟩
      exact hh.of_upd (S := fun k _ => k = w.heap.size) ((Upd.refl _ _).setRowAll hr rfl (fun _ _ => rfl)) (fun j hj h => by omega) (fun h => by omega)
    have HU : Hid (Upd (twoS b off b2 off2) w (w2.setRow w.heap.size (tv ⟨true, k, -1⟩))) :=
      ((((Upd.refl (fun k o => twoS b off b2 off2 k o ∨ w.heap.size ≤ k) w).alloc _).trans (hu.mono (fun _ _ h => .inl (.inl h)))).setRowAll (cs := tv ⟨true, k, -1⟩) hr rfl (fun h => absurd h (Nat.lt_irrefl _))).shrink (fun k o hk h => by
        rcases h with h | h
        · exact h
        · omega)
    clear hs hu hr HC
    go_wp2_with (refine wpList_store_row rfl 41 _ _ rfl w.heap.size (tv ⟨true, k, -1⟩) (by rfl) (by rfl) 41 blankT HR.out (by kernel_rfl) (by rfl) (tv_one _) ?_)
    refine bodyPost_ret (v := .agg (tv ⟨true, k, -1⟩)) (results_cell_row Try.results70 _ _ w.heap.size 41 (tv ⟨true, k, -1⟩) (0, 0) _ rfl (setRow_heap _ _ _ _ _ _ HR.out) Try.underlying41 rfl (by kernel_rfl)) rfl ⟨rfl, HST.out, HU.out⟩
  | none =>
    have HF : Hid (findN s.L x n = none) := hf
    have HT : Hid (tchT p n x s = ⟨false, putW p n s.L s.A s.R, s.L (putW p n s.L s.A s.R)⟩) := by unfold tchT; rw [hf]; rfl
    have HS : Hid (tchS p n x s = ⟨upd s.L (putW p n s.L s.A s.R) x, touchA n (putW p n s.L s.A s.R) s.A, upd (putR p n s.L s.R) (putW p n s.L s.A s.R) (nextRank p s.c), nextCount p s.c⟩) := by unfold tchS; rw [hf]; rfl
    rw [HT.out, HS.out]
    clear hf HT HS
    generalize hv : putW p n s.L s.A s.R = k at *
    have HV : Hid (putW p n s.L s.A s.R = k) := hv
    clear hv
    go_enter Try.func70, Try.ntmps70
    go_wp2_with fail
    refine (Find_any b off n _ _ _ _ _ hn8.1 H0.out.set).mono ?_
    rintro e w1 ⟨rfl, rfl⟩
    rw [HF.out]
    simp only [oi]
    go_wp2_with fail
    refine (Next_any b2 off2 p s.c _ HB.out.c.1 HB.out.c.2 H0.out.cnt).mono ?_
    rintro e w2 ⟨rfl, hc2, hu2⟩
    have HC2 : Hid (HoldsF w2 b2 off2 1 (fun _ => nextCount p s.c)) := hc2
    have HU2 : Hid (Upd (rowS b2 off2 1) (w.alloc (Obj.cells #[Value.bool false, Value.int IntKind.i64 0, Value.int IntKind.i64 0] 41)) w2) := hu2
    clear hc2 hu2
    go_wp2_with fail
    refine (Put_any b off n p x _ _ _ _ _ HN.out HB.out.a HB.out.r (H0.out.set.of_upd HU2.out (apart_no HAP.out))).mono ?_
    rintro e w3 ⟨rfl, hs, hu⟩
    rw [HV.out] at hs ⊢
    have hr : w3.heap[w.heap.size]? = some (.cells blankT 41) := by
      rw [hu.block (by have := HU2.out.size; simp at this; omega) (fun o ho => by have := ho.1; omega), HU2.out.block (by simp) (fun o ho => by have := ho.1; omega)]; exact heap_alloc_new _ _
    have HR : Hid (w3.heap[w.heap.size]? = some (.cells blankT 41)) := hr
    have HC := HC2.out.of_upd hu (apart_no HAP.out.symm)
    have HST : Hid (StAt (w3.setRow w.heap.size (tv ⟨false, k, s.L k⟩)) b off b2 off2 n ⟨upd s.L k x, touchA n k s.A, upd (putR p n s.L s.R) k (nextRank p s.c), nextCount p s.c⟩) := by
      have hh : StAt w3 b off b2 off2 n ⟨upd s.L k x, touchA n k s.A, upd (putR p n s.L s.R) k (nextRank p s.c), nextCount p s.c⟩ := ⟨hs, HC⟩
      exact hh.of_upd (S := fun k _ => k = w.heap.size) ((Upd.refl _ _).setRowAll hr rfl (fun _ _ => rfl)) (fun j hj h => by omega) (fun h => by omega)
    have HU : Hid (Upd (twoS b off b2 off2) w (w3.setRow w.heap.size (tv ⟨false, k, s.L k⟩))) :=
      (((((Upd.refl (fun k o => twoS b off b2 off2 k o ∨ w.heap.size ≤ k) w).alloc _).trans (HU2.out.mono (fun _ _ h => .inl (.inr h)))).trans (hu.mono (fun _ _ h => .inl (.inl h)))).setRowAll (cs := tv ⟨false, k, s.L k⟩) hr rfl (fun h => absurd h (Nat.lt_irrefl _))).shrink (fun k o hk h => by
        rcases h with h | h
        · exact h
        · omega)
    clear hs hu hr HC
    go_wp2_with (refine wpList_store_row rfl 41 _ _ rfl w.heap.size (tv ⟨false, k, s.L k⟩) (by rfl) (by rfl) 41 blankT HR.out (by kernel_rfl) (by rfl) (tv_one _) ?_)
    refine bodyPost_ret (v := .agg (tv ⟨false, k, s.L k⟩)) (results_cell_row Try.results70 _ _ w.heap.size 41 (tv ⟨false, k, s.L k⟩) (0, 0) _ rfl (setRow_heap _ _ _ _ _ _ HR.out) Try.underlying41 rfl (by kernel_rfl)) rfl ⟨rfl, HST.out, HU.out⟩

end Go.Proofs.Ytobniidkkmlilaa

/- The walks: all touches of one call. -/
namespace Go.Proofs.Ytobniidkkmlilaa
open Go.RowKit Go.Coh

theorem info41 : (Try.prog.info? 41).map (fun i => (i.zero, i.size, i.bytes)) = some (some (.agg blankT), 3, 24) := by kernel_rfl

/-- 'make([]api.Touch, m)' -/
theorem run_make41 (m : Nat) (hm : m ≤ 1000) (w : World) :
    (Instr.makeSlice 28 (.int .i64 (m : Int)) (.int .i64 (m : Int))).run Try.prog w = .ok (.slice (some ⟨w.heap.size, 0, none⟩) m m) (w.alloc (.cells (madeCells blankT (m * 3)) 41)) := by
  obtain ⟨i, hi, hzz⟩ := Option.map_eq_some_iff.1 info41
  simp only [Prod.mk.injEq] at hzz
  obtain ⟨hz, hs, hb⟩ := hzz
  have hr := run_make (P := Try.prog) w 28 41 i (.agg blankT) Try.underlying28 hi hz .i64 .i64 m m (by omega) (Int.le_refl _) (by rw [hb]; omega) (by omega)
  simp only [Int.toNat_natCast, hs] at hr
  exact hr

/-- a list of integers as Go hands it over -/
def IntsAt (w : World) (v : Value) (m : Nat) (xs : Nat → Int) : Prop :=
  (v = .slice none 0 0 ∧ m = 0) ∨ ∃ a off cap, v = .slice (some ⟨a, off, none⟩) m cap ∧ a < w.heap.size ∧ ∀ i, i < m → w.cell? ⟨a, off + i, none⟩ = some (.int .i64 (xs i))

/-- the touches T 0 .. T (k-1) lie in block g -/
def TchAt (w : World) (g k : Nat) (T : Nat → Tch) : Prop :=
  ∀ i, i < k → w.rangeAt g (i * 3) (tv (T i)).toList

theorem upd_setCells {S : Nat → Nat → Prop} {w : World} {b : Nat} : ∀ {vs : List Value} {o : Nat} {w' : World}, Upd S w w' → (b < w.heap.size → ∀ j, j < vs.length → S b (o + j)) → Upd S w (w'.setCells b o vs)
  | [], _, _, h, _ => h
  | v :: r, o, w', h, hS => by
    rw [World.setCells]
    refine upd_setCells (h.setCell (fun hb => ?_) v) (fun hb j hj => ?_)
    · have := hS hb 0 (by simp)
      simpa using this
    · have := hS hb (j + 1) (by simp; omega)
      rwa [show o + (j + 1) = o + 1 + j by omega] at this

theorem there_upd {S : Nat → Nat → Prop} {w w' : World} {b o n : Nat} (h : w.there b o n) (u : Upd S w w') (hb : b < w.heap.size) (hS : ∀ o, ¬ S b o) : w'.there b o n := fun j hj => by
  obtain ⟨h1, h2⟩ := h j hj
  exact ⟨by rw [u.cell hb (hS _)]; exact h1, by rw [u.frozen hb]; exact h2⟩

set_option maxHeartbeats 1000000 in
theorem touchAll_someO (p n m : Nat) (a off cap : Nat) (xs : Nat → Int) (w : World) (hn : Size n) (hm : m ≤ 200) (ha : a < w.heap.size) (hx : ∀ i, i < m → w.cell? ⟨a, off + i, none⟩ = some (.int .i64 (xs i))) :
    Calls Try.prog 41 #[.int .i64 p, .int .i64 n, .slice (some ⟨a, off, none⟩) m cap] w fun e w' =>
      (∃ g, e = .returned (.slice (some ⟨g, 0, none⟩) m m) ∧ w.heap.size ≤ g ∧ g < w'.heap.size ∧ TchAt w' g m (tchRunT p n xs) ∧ ∃ c, w'.heap[g]? = some (.cells c 41 (0, 0)) ∧ c.size = m * 3) ∧ Upd no w w' := by
  have HN : Hid (Size n) := hn
  have HX : Hid (∀ i, i < m → w.cell? ⟨a, off + i, none⟩ = some (.int .i64 (xs i))) := hx
  have hmk := run_make41 m (by omega)
  clear hn hx
  go_enter Try.func41, Try.ntmps41
  go_wp2_with fail
  refine (New_any n _ HN.out).mono ?_
  rintro e w1 ⟨⟨cs, rfl, harr⟩, hu1⟩
  dsimp only
  iterate 4 (first | go_values | go_skip | go_guarded | go_step | go_upon)
  refine wpList_store_row rfl 108 _ _ rfl w1.heap.size cs (by rfl) (by rfl) 108 (blank 0) (heap_alloc_new w1 _) (by rw [harr.size]; kernel_rfl) (by rw [harr.size]; rfl) harr.one ?_
  have hb1 := setRow_heap _ _ _ cs _ _ (heap_alloc_new w1 (.cells (blank 0) 108))
  have HS2 := harr.at hb1
  have hu2 : Upd no w ((w1.alloc (.cells (blank 0) 108)).setRow w1.heap.size cs) := (hu1.alloc _).setRowAll (heap_alloc_new w1 (.cells (blank 0) 108)) (by rw [harr.size]; rfl) (fun h => absurd hu1.size (by omega))
  have hz2 : ((w1.alloc (.cells (blank 0) 108)).setRow w1.heap.size cs).heap.size = w1.heap.size + 1 := by simp
  have hN := hu1.size
  change wpList _ _ _ _ _ ((w1.alloc (.cells (blank 0) 108)).setRow w1.heap.size cs)
  generalize (w1.alloc (.cells (blank 0) 108)).setRow w1.heap.size cs = w2 at *
  generalize w1.heap.size = N1 at *
  clear hb1 harr hu1
  have HS : Hid (SetAt w2 N1 0 n (newL n) (newA n) fun _ => 0) := HS2
  have HU : Hid (Upd no w w2) := hu2
  clear HS2 hu2
  go_wp2_with fail
  have hu3 : Upd no w ((w2.alloc (Obj.cells #[Value.int IntKind.i64 0] 111)).alloc (Obj.cells (madeCells blankT (m * 3)) 41)) := (HU.out.alloc _).alloc _
  have hst3 : StAt ((w2.alloc (Obj.cells #[Value.int IntKind.i64 0] 111)).alloc (Obj.cells (madeCells blankT (m * 3)) 41)) N1 0 (N1 + 1) 0 n (newS n) := by
    refine ⟨HS.out.of_upd (((Upd.refl no w2).alloc _).alloc _) (fun _ _ h => h), fun j hj => ?_⟩
    rw [show j = 0 by omega]
    have hh : ((w2.alloc (Obj.cells #[Value.int IntKind.i64 0] 111)).alloc (Obj.cells (madeCells blankT (m * 3)) 41)).heap[N1 + 1]? = some (.cells #[.int .i64 0] 111) := by
      rw [Below.heap_alloc _ _ _ (by simp; omega), ← hz2, heap_alloc_new]
    exact ⟨by simp [World.cell?, hh, newS], by simp [World.frozen?, hh]⟩
  have hth3 : ((w2.alloc (Obj.cells #[Value.int IntKind.i64 0] 111)).alloc (Obj.cells (madeCells blankT (m * 3)) 41)).there (N1 + 2) 0 (m * 3) := by
    have hh : ((w2.alloc (Obj.cells #[Value.int IntKind.i64 0] 111)).alloc (Obj.cells (madeCells blankT (m * 3)) 41)).heap[N1 + 2]? = some (.cells (madeCells blankT (m * 3)) 41) := by
      have := heap_alloc2_new w2 (Obj.cells #[Value.int IntKind.i64 0] 111) (Obj.cells (madeCells blankT (m * 3)) 41)
      rwa [hz2] at this
    intro j hj
    exact ⟨by simp [World.cell?, hh, size_madeCells]; exact hj, by simp [World.frozen?, hh]⟩
  have hob3 : ∃ c, ((w2.alloc (Obj.cells #[Value.int IntKind.i64 0] 111)).alloc (Obj.cells (madeCells blankT (m * 3)) 41)).heap[N1 + 2]? = some (.cells c 41 (0, 0)) ∧ c.size = m * 3 := by
    have := heap_alloc2_new w2 (Obj.cells #[Value.int IntKind.i64 0] 111) (Obj.cells (madeCells blankT (m * 3)) 41)
    rw [hz2] at this
    exact ⟨_, this, size_madeCells _ _⟩
  have hz3 : ((w2.alloc (Obj.cells #[Value.int IntKind.i64 0] 111)).alloc (Obj.cells (madeCells blankT (m * 3)) 41)).heap.size = N1 + 3 := by simp [hz2]
  generalize (w2.alloc (Obj.cells #[Value.int IntKind.i64 0] 111)).alloc (Obj.cells (madeCells blankT (m * 3)) 41) = w3 at *
  have HST : Hid (StAt w3 N1 0 (N1 + 1) 0 n (newS n)) := hst3
  have HTH : Hid (w3.there (N1 + 2) 0 (m * 3)) := hth3
  have HOB : Hid (∃ c, w3.heap[N1 + 2]? = some (.cells c 41 (0, 0)) ∧ c.size = m * 3) := hob3
  have HU3 : Hid (Upd no w w3) := hu3
  clear hst3 hth3 hu3 HS HU hmk hob3
  go_loopw [20] (fun i wr => ∃ k : Nat, k ≤ m ∧ i = .int .i64 k ∧ StAt wr N1 0 (N1 + 1) 0 n (tchRun p n xs k) ∧ TchAt wr (N1 + 2) k (tchRunT p n xs) ∧ wr.there (N1 + 2) 0 (m * 3) ∧ Upd no w wr ∧ N1 + 3 ≤ wr.heap.size ∧ ∃ c, wr.heap[N1 + 2]? = some (.cells c 41 (0, 0)) ∧ c.size = m * 3) (fun i _ => m - (intOf i).toNat)
  case atStart => exact ⟨0, Nat.zero_le _, rfl, HST.out, fun i hi => absurd hi (Nat.not_lt_zero _), HTH.out, HU3.out, by omega, HOB.out⟩
  case round =>
    obtain ⟨k, hk, rfl, hs, ht, hth, hu, hz, hob⟩ := hrel
    have HOk : Hid (∃ c, wr.heap[N1 + 2]? = some (.cells c 41 (0, 0)) ∧ c.size = m * 3) := hob
    have HSk : Hid (StAt wr N1 0 (N1 + 1) 0 n (tchRun p n xs k)) := hs
    have HTk : Hid (TchAt wr (N1 + 2) k (tchRunT p n xs)) := ht
    have HHk : Hid (wr.there (N1 + 2) 0 (m * 3)) := hth
    have HUk : Hid (Upd no w wr) := hu
    clear hs ht hth hu HST HTH HU3 hob HOB
    by_cases hlt : k < m
    · have hx := HX.out k hlt
      rw [← HUk.out.cell ha (fun h => h)] at hx
      go_wp2_with fail
      refine (touch29 N1 0 (N1 + 1) 0 n p (xs k) _ _ HN.out (Bd.run (by rcases HN.out with h | h | h | h <;> omega) k) (.inl (by omega)) HSk.out).mono ?_
      rintro e w4 ⟨rfl, hs4, hu4⟩
      have hth4 : w4.there (N1 + 1 + 1) 0 (m * 3) := there_upd HHk.out hu4 (by omega) (fun o h => by rcases h with h | h <;> have := h.1 <;> omega)
      have hthk : w4.there (N1 + 1 + 1) (k * 3) (tv (tchT p n (xs k) (tchRun p n xs k))).size := fun j hj => by
        have := hth4 (k * 3 + j) (by have : (tv (tchT p n (xs k) (tchRun p n xs k))).size = 3 := rfl; omega)
        rwa [Nat.zero_add] at this
      have hur : Upd (fun b _ => b = N1 + 2) w4 (w4.setCells (N1 + 1 + 1) (k * 3) (tv (tchT p n (xs k) (tchRun p n xs k))).toList) := upd_setCells (Upd.refl _ _) (fun _ _ _ => rfl)
      have HS5 : Hid (StAt (w4.setCells (N1 + 1 + 1) (k * 3) (tv (tchT p n (xs k) (tchRun p n xs k))).toList) N1 0 (N1 + 1) 0 n (tchRun p n xs (k + 1))) :=
        hs4.of_upd hur (fun j _ h => by omega) (fun h => by omega)
      have HH5 : Hid ((w4.setCells (N1 + 1 + 1) (k * 3) (tv (tchT p n (xs k) (tchRun p n xs k))).toList).there (N1 + 2) 0 (m * 3)) := World.there_setCells hth4 _ _ _
      have HT5 : Hid (TchAt (w4.setCells (N1 + 1 + 1) (k * 3) (tv (tchT p n (xs k) (tchRun p n xs k))).toList) (N1 + 2) (k + 1) (tchRunT p n xs)) := by
        intro i hi
        by_cases e : i = k
        · subst e
          exact World.rangeAt_setCells_same _ _ _ _ hthk
        · refine World.rangeAt_setCells_apart ?_ _ _ _ (.inr (.inl ?_))
          · intro j v hj
            have := HTk.out i (by omega) j v hj
            rw [hu4.cell (by omega) (fun h => by rcases h with h | h <;> have := h.1 <;> omega)]
            exact this
          · show i * 3 + 3 ≤ k * 3
            omega
      have HU5 : Hid (Upd no w (w4.setCells (N1 + 1 + 1) (k * 3) (tv (tchT p n (xs k) (tchRun p n xs k))).toList)) :=
        (((HUk.out.mono (S' := fun b _ => w.heap.size ≤ b) (fun _ _ h => h.elim)).trans (hu4.mono (fun _ _ h => by rcases h with h | h <;> have := h.1 <;> omega))).trans (hur.mono (fun _ _ h => by omega))).shrink (fun b o hb h => by omega)
      have HO5 : Hid (∃ c, (w4.setCells (N1 + 1 + 1) (k * 3) (tv (tchT p n (xs k) (tchRun p n xs k))).toList).heap[N1 + 2]? = some (.cells c 41 (0, 0)) ∧ c.size = m * 3) := by
        obtain ⟨c, h1, h2⟩ := HOk.out
        obtain ⟨c1, h3, h4, _⟩ := hu4.cells _ _ _ _ h1
        obtain ⟨c2, h5, h6, _⟩ := hur.cells _ _ _ _ h3
        exact ⟨c2, h5, by omega⟩
      have HZ5 : Hid (N1 + 3 ≤ (w4.setCells (N1 + 1 + 1) (k * 3) (tv (tchT p n (xs k) (tchRun p n xs k))).toList).heap.size) := by
        have h1 := hur.size
        have h2 := hu4.size
        show _ ≤ _
        omega
      clear hs4 hu4 hth4 hur
      generalize tchT p n (xs k) (tchRun p n xs k) = t at *
      go_wp2_with (refine wpList_store_mid rfl 41 _ _ rfl (N1 + 1 + 1) (k * 3) (tv t) (by rfl) (by rfl) hthk (by kernel_rfl) (tv_one _) ?_)
      go_roundw
      case rel => exact ⟨k + 1, by omega, by go_num, HS5.out, HT5.out, HH5.out, HU5.out, HZ5.out, HO5.out⟩
      case measure => simp [intOf]; omega
    · go_wp2
      go_ret
      have hkm : k = m := by omega
      subst hkm
      exact ⟨⟨N1 + 2, rfl, by omega, by omega, HTk.out, HOk.out⟩, HUk.out⟩

end Go.Proofs.Ytobniidkkmlilaa
