/- The walks: one touch. -/
import Derived.Test.YtobniidkkmlilaaWf
namespace Go.Proofs.Ytobniidkkmlilaa
open Go.RowKit Go.Coh

/-- Two rows that don't meet. -/
def Apart (b off n b' off' n' : Nat) : Prop := b ≠ b' ∨ off + n ≤ off' ∨ off' + n' ≤ off

/-- the set's cells and the count's -/
def twoS (b off b2 off2 : Nat) : Nat → Nat → Prop := fun k o => rowS b off 25 k o ∨ rowS b2 off2 1 k o

theorem apart_no {b off n b' off' n' : Nat} (h : Apart b off n b' off' n') : ∀ j, j < n → ¬ rowS b' off' n' b (off + j) := fun j hj hr => by
  obtain ⟨h1, h2, h3⟩ := hr
  rcases h with h | h | h
  · exact h h1
  · omega
  · omega
theorem Apart.symm {b off n b' off' n' : Nat} (h : Apart b off n b' off' n') : Apart b' off' n' b off n := by
  rcases h with h | h | h
  · exact .inl fun e => h e.symm
  · exact .inr (.inr h)
  · exact .inr (.inl h)

/-- what a touch leaves in memory -/
structure StAt (w : World) (b off b2 off2 n : Nat) (s : St) : Prop where
  set : SetAt w b off n s.L s.A s.R
  cnt : HoldsF w b2 off2 1 (fun _ => s.c)

theorem StAt.of_upd {S : Nat → Nat → Prop} {w w' : World} {b off b2 off2 n : Nat} {s : St} (h : StAt w b off b2 off2 n s) (u : Upd S w w') (h1 : ∀ j, j < 25 → ¬ S b (off + j)) (h2 : ¬ S b2 off2) : StAt w' b off b2 off2 n s :=
  ⟨h.set.of_upd u h1, h.cnt.of_upd u (fun j hj => by rw [show j = 0 by omega]; exact h2)⟩

def blankT : Array Value := #[.bool false, .int .i64 0, .int .i64 0]

def tv (t : Tch) : Array Value := #[.bool t.hit, .int .i64 t.way, .int .i64 t.out]

theorem tv_one (t : Tch) : (tv t).all (·.oneCell') = true := by simp [tv, Value.oneCell']

set_option maxHeartbeats 1000000 in
theorem touch29 (b off b2 off2 n p : Nat) (x : Int) (s : St) (w : World) (hn : Size n) (hb : Bd s) (hap : Apart b off 25 b2 off2 1) (H : StAt w b off b2 off2 n s) :
    Calls Try.prog 70 #[.pointer (some ⟨b, off, none⟩), .int .i64 p, .pointer (some ⟨b2, off2, none⟩), .int .i64 x] w fun e w' =>
      e = .returned (.agg (tv (tchT p n x s))) ∧ StAt w' b off b2 off2 n (tchS p n x s) ∧ Upd (twoS b off b2 off2) w w' := by
  have hn8 : n ≤ 8 ∧ 0 < n := by rcases hn with h | h | h | h <;> omega
  have HN : Hid (Size n) := hn
  have HB : Hid (Bd s) := hb
  have HAP : Hid (Apart b off 25 b2 off2 1) := hap
  have hbl : b < w.heap.size := H.set.ln.lt (by omega)
  have hbl2 : b2 < w.heap.size := H.cnt.lt (by omega)
  have H0 : Hid (StAt (w.alloc (.cells #[.bool false, .int .i64 0, .int .i64 0] 41)) b off b2 off2 n s) :=
    H.of_upd ((Upd.refl no w).alloc _) (fun _ _ h => h) (fun h => h)
  clear hn hb hap H
  cases hf : findN s.L x n with
  | some k =>
    have HF : Hid (findN s.L x n = some k) := hf
    have hk : k < n := (findN_some.1 hf).1
    have HT : Hid (tchT p n x s = ⟨true, k, -1⟩) := by unfold tchT; rw [hf]; rfl
    have HS : Hid (tchS p n x s = ⟨s.L, touchA n k s.A, upd s.R k 0, s.c⟩) := by unfold tchS; rw [hf]; rfl
    rw [HT.out, HS.out]
    clear hf HT HS
    have hne : ((k : Int) != -1) = true := by simp
    go_enter Try.func70, Try.ntmps70
    go_wp2_with fail
    refine (Find_any b off n _ _ _ _ _ hn8.1 H0.out.set).mono ?_
    rintro e w1 ⟨rfl, rfl⟩
    rw [HF.out]
    simp only [oi]
    go_wp2_with fail
    refine (Found_any b off n k _ _ _ _ hn8.1 hk HB.out.a H0.out.set).mono ?_
    rintro e w2 ⟨rfl, hs, hu⟩
    have hr : w2.heap[w.heap.size]? = some (.cells blankT 41) := by
      rw [hu.block (by simp) (fun o ho => by have := ho.1; omega)]; exact heap_alloc_new _ _
    have HR : Hid (w2.heap[w.heap.size]? = some (.cells blankT 41)) := hr
    have HC := H0.out.cnt.of_upd hu (apart_no HAP.out.symm)
    have HST : Hid (StAt (w2.setRow w.heap.size (tv ⟨true, k, -1⟩)) b off b2 off2 n ⟨s.L, touchA n k s.A, upd s.R k 0, s.c⟩) := by
      have hh : StAt w2 b off b2 off2 n ⟨s.L, touchA n k s.A, upd s.R k 0, s.c⟩ := ⟨hs, HC⟩
      exact hh.of_upd (S := fun k _ => k = w.heap.size) ((Upd.refl _ _).setRowAll hr rfl (fun _ _ => rfl)) (fun j hj h => by omega) (fun h => by omega)
    have HU : Hid (Upd (twoS b off b2 off2) w (w2.setRow w.heap.size (tv ⟨true, k, -1⟩))) :=
      ((((Upd.refl (fun k o => twoS b off b2 off2 k o ∨ w.heap.size ≤ k) w).alloc _).trans (hu.mono (fun _ _ h => .inl (.inl h)))).setRowAll (cs := tv ⟨true, k, -1⟩) hr rfl (fun h => absurd h (Nat.lt_irrefl _))).shrink (fun k o hk h => by
        rcases h with h | h
        · exact h
        · omega)
    clear hs hu hr HC
    go_wp2_with (refine wpList_store_row rfl 41 _ _ rfl w.heap.size (tv ⟨true, k, -1⟩) (by rfl) (by rfl) 41 blankT HR.out (by kernel_rfl) (by rfl) (tv_one _) ?_)
    refine bodyPost_ret (v := .agg (tv ⟨true, k, -1⟩)) (results_cell_row Try.results70 _ _ w.heap.size 41 (tv ⟨true, k, -1⟩) (0, 0) _ rfl (setRow_heap _ _ _ _ _ _ HR.out) Try.underlying41 rfl (by kernel_rfl)) rfl ⟨rfl, HST.out, HU.out⟩
  | none =>
    have HF : Hid (findN s.L x n = none) := hf
    have HT : Hid (tchT p n x s = ⟨false, putW p n s.L s.A s.R, s.L (putW p n s.L s.A s.R)⟩) := by unfold tchT; rw [hf]; rfl
    have HS : Hid (tchS p n x s = ⟨upd s.L (putW p n s.L s.A s.R) x, touchA n (putW p n s.L s.A s.R) s.A, upd (putR p n s.L s.R) (putW p n s.L s.A s.R) (nextRank p s.c), nextCount p s.c⟩) := by unfold tchS; rw [hf]; rfl
    rw [HT.out, HS.out]
    clear hf HT HS
    generalize hv : putW p n s.L s.A s.R = k at *
    have HV : Hid (putW p n s.L s.A s.R = k) := hv
    clear hv
    go_enter Try.func70, Try.ntmps70
    go_wp2_with fail
    refine (Find_any b off n _ _ _ _ _ hn8.1 H0.out.set).mono ?_
    rintro e w1 ⟨rfl, rfl⟩
    rw [HF.out]
    simp only [oi]
    go_wp2_with fail
    refine (Next_any b2 off2 p s.c _ HB.out.c.1 HB.out.c.2 H0.out.cnt).mono ?_
    rintro e w2 ⟨rfl, hc2, hu2⟩
    have HC2 : Hid (HoldsF w2 b2 off2 1 (fun _ => nextCount p s.c)) := hc2
    have HU2 : Hid (Upd (rowS b2 off2 1) (w.alloc (Obj.cells #[Value.bool false, Value.int IntKind.i64 0, Value.int IntKind.i64 0] 41)) w2) := hu2
    clear hc2 hu2
    go_wp2_with fail
    refine (Put_any b off n p x _ _ _ _ _ HN.out HB.out.a HB.out.r (H0.out.set.of_upd HU2.out (apart_no HAP.out))).mono ?_
    rintro e w3 ⟨rfl, hs, hu⟩
    rw [HV.out] at hs ⊢
    have hr : w3.heap[w.heap.size]? = some (.cells blankT 41) := by
      rw [hu.block (by have := HU2.out.size; simp at this; omega) (fun o ho => by have := ho.1; omega), HU2.out.block (by simp) (fun o ho => by have := ho.1; omega)]; exact heap_alloc_new _ _
    have HR : Hid (w3.heap[w.heap.size]? = some (.cells blankT 41)) := hr
    have HC := HC2.out.of_upd hu (apart_no HAP.out.symm)
    have HST : Hid (StAt (w3.setRow w.heap.size (tv ⟨false, k, s.L k⟩)) b off b2 off2 n ⟨upd s.L k x, touchA n k s.A, upd (putR p n s.L s.R) k (nextRank p s.c), nextCount p s.c⟩) := by
      have hh : StAt w3 b off b2 off2 n ⟨upd s.L k x, touchA n k s.A, upd (putR p n s.L s.R) k (nextRank p s.c), nextCount p s.c⟩ := ⟨hs, HC⟩
      exact hh.of_upd (S := fun k _ => k = w.heap.size) ((Upd.refl _ _).setRowAll hr rfl (fun _ _ => rfl)) (fun j hj h => by omega) (fun h => by omega)
    have HU : Hid (Upd (twoS b off b2 off2) w (w3.setRow w.heap.size (tv ⟨false, k, s.L k⟩))) :=
      (((((Upd.refl (fun k o => twoS b off b2 off2 k o ∨ w.heap.size ≤ k) w).alloc _).trans (HU2.out.mono (fun _ _ h => .inl (.inr h)))).trans (hu.mono (fun _ _ h => .inl (.inl h)))).setRowAll (cs := tv ⟨false, k, s.L k⟩) hr rfl (fun h => absurd h (Nat.lt_irrefl _))).shrink (fun k o hk h => by
        rcases h with h | h
        · exact h
        · omega)
    clear hs hu hr HC
    go_wp2_with (refine wpList_store_row rfl 41 _ _ rfl w.heap.size (tv ⟨false, k, s.L k⟩) (by rfl) (by rfl) 41 blankT HR.out (by kernel_rfl) (by rfl) (tv_one _) ?_)
    refine bodyPost_ret (v := .agg (tv ⟨false, k, s.L k⟩)) (results_cell_row Try.results70 _ _ w.heap.size 41 (tv ⟨false, k, s.L k⟩) (0, 0) _ rfl (setRow_heap _ _ _ _ _ _ HR.out) Try.underlying41 rfl (by kernel_rfl)) rfl ⟨rfl, HST.out, HU.out⟩

end Go.Proofs.Ytobniidkkmlilaa
