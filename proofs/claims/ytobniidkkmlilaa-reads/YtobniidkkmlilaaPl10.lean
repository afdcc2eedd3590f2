import Derived.Test.YtobniidkkmlilaaPl09
import Derived.Deep.MidRow

/- The walks: all touches of one call. -/
namespace Go.Proofs.Ytobniidkkmlilaa
open Go.RowKit Go.Coh

theorem info41 : (Try.prog.info? 41).map (fun i => (i.zero, i.size, i.bytes)) = some (some (.agg blankT), 3, 24) := by kernel_rfl

/-- 'make([]api.Touch, m)' -/
theorem run_make41 (m : Nat) (hm : m ≤ 1000) (w : World) :
    (Instr.makeSlice 28 (.int .i64 (m : Int)) (.int .i64 (m : Int))).run Try.prog w = .ok (.slice (some ⟨w.heap.size, 0, none⟩) m m) (w.alloc (.cells (madeCells blankT (m * 3)) 41)) := by
  obtain ⟨i, hi, hzz⟩ := Option.map_eq_some_iff.1 info41
  simp only [Prod.mk.injEq] at hzz
  obtain ⟨hz, hs, hb⟩ := hzz
  have hr := run_make (P := Try.prog) w 28 41 i (.agg blankT) Try.underlying28 hi hz .i64 .i64 m m (by omega) (Int.le_refl _) (by rw [hb]; omega) (by omega)
  simp only [Int.toNat_natCast, hs] at hr
  exact hr

/-- a list of integers as Go hands it over -/
def IntsAt (w : World) (v : Value) (m : Nat) (xs : Nat → Int) : Prop :=
  (v = .slice none 0 0 ∧ m = 0) ∨ ∃ a off cap, v = .slice (some ⟨a, off, none⟩) m cap ∧ a < w.heap.size ∧ ∀ i, i < m → w.cell? ⟨a, off + i, none⟩ = some (.int .i64 (xs i))

/-- the touches T 0 .. T (k-1) lie in block g -/
def TchAt (w : World) (g k : Nat) (T : Nat → Tch) : Prop :=
  ∀ i, i < k → w.rangeAt g (i * 3) (tv (T i)).toList

theorem upd_setCells {S : Nat → Nat → Prop} {w : World} {b : Nat} : ∀ {vs : List Value} {o : Nat} {w' : World}, Upd S w w' → (b < w.heap.size → ∀ j, j < vs.length → S b (o + j)) → Upd S w (w'.setCells b o vs)
  | [], _, _, h, _ => h
  | v :: r, o, w', h, hS => by
    rw [World.setCells]
    refine upd_setCells (h.setCell (fun hb => ?_) v) (fun hb j hj => ?_)
    · have := hS hb 0 (by simp)
      simpa using this
    · have := hS hb (j + 1) (by simp; omega)
      rwa [show o + (j + 1) = o + 1 + j by omega] at this

theorem there_upd {S : Nat → Nat → Prop} {w w' : World} {b o n : Nat} (h : w.there b o n) (u : Upd S w w') (hb : b < w.heap.size) (hS : ∀ o, ¬ S b o) : w'.there b o n := fun j hj => by
  obtain ⟨h1, h2⟩ := h j hj
  exact ⟨by rw [u.cell hb (hS _)]; exact h1, by rw [u.frozen hb]; exact h2⟩

set_option maxHeartbeats 1000000 in
theorem touchAll_someO (p n m : Nat) (a off cap : Nat) (xs : Nat → Int) (w : World) (hn : Size n) (hm : m ≤ 200) (ha : a < w.heap.size) (hx : ∀ i, i < m → w.cell? ⟨a, off + i, none⟩ = some (.int .i64 (xs i))) :
    Calls Try.prog 41 #[.int .i64 p, .int .i64 n, .slice (some ⟨a, off, none⟩) m cap] w fun e w' =>
      (∃ g, e = .returned (.slice (some ⟨g, 0, none⟩) m m) ∧ w.heap.size ≤ g ∧ g < w'.heap.size ∧ TchAt w' g m (tchRunT p n xs) ∧ ∃ c, w'.heap[g]? = some (.cells c 41 (0, 0)) ∧ c.size = m * 3) ∧ Upd no w w' := by
  have HN : Hid (Size n) := hn
  have HX : Hid (∀ i, i < m → w.cell? ⟨a, off + i, none⟩ = some (.int .i64 (xs i))) := hx
  have hmk := run_make41 m (by omega)
  clear hn hx
  go_enter Try.func41, Try.ntmps41
  go_wp2_with fail
  refine (New_any n _ HN.out).mono ?_
  rintro e w1 ⟨⟨cs, rfl, harr⟩, hu1⟩
  dsimp only
  iterate 4 (first | go_values | go_skip | go_guarded | go_step | go_upon)
  refine wpList_store_row rfl 108 _ _ rfl w1.heap.size cs (by rfl) (by rfl) 108 (blank 0) (heap_alloc_new w1 _) (by rw [harr.size]; kernel_rfl) (by rw [harr.size]; rfl) harr.one ?_
  have hb1 := setRow_heap _ _ _ cs _ _ (heap_alloc_new w1 (.cells (blank 0) 108))
  have HS2 := harr.at hb1
  have hu2 : Upd no w ((w1.alloc (.cells (blank 0) 108)).setRow w1.heap.size cs) := (hu1.alloc _).setRowAll (heap_alloc_new w1 (.cells (blank 0) 108)) (by rw [harr.size]; rfl) (fun h => absurd hu1.size (by omega))
  have hz2 : ((w1.alloc (.cells (blank 0) 108)).setRow w1.heap.size cs).heap.size = w1.heap.size + 1 := by simp
  have hN := hu1.size
  change wpList _ _ _ _ _ ((w1.alloc (.cells (blank 0) 108)).setRow w1.heap.size cs)
  generalize (w1.alloc (.cells (blank 0) 108)).setRow w1.heap.size cs = w2 at *
  generalize w1.heap.size = N1 at *
  clear hb1 harr hu1
  have HS : Hid (SetAt w2 N1 0 n (newL n) (newA n) fun _ => 0) := HS2
  have HU : Hid (Upd no w w2) := hu2
  clear HS2 hu2
  go_wp2_with fail
  have hu3 : Upd no w ((w2.alloc (Obj.cells #[Value.int IntKind.i64 0] 111)).alloc (Obj.cells (madeCells blankT (m * 3)) 41)) := (HU.out.alloc _).alloc _
  have hst3 : StAt ((w2.alloc (Obj.cells #[Value.int IntKind.i64 0] 111)).alloc (Obj.cells (madeCells blankT (m * 3)) 41)) N1 0 (N1 + 1) 0 n (newS n) := by
    refine ⟨HS.out.of_upd (((Upd.refl no w2).alloc _).alloc _) (fun _ _ h => h), fun j hj => ?_⟩
    rw [show j = 0 by omega]
    have hh : ((w2.alloc (Obj.cells #[Value.int IntKind.i64 0] 111)).alloc (Obj.cells (madeCells blankT (m * 3)) 41)).heap[N1 + 1]? = some (.cells #[.int .i64 0] 111) := by
      rw [Below.heap_alloc _ _ _ (by simp; omega), ← hz2, heap_alloc_new]
    exact ⟨by simp [World.cell?, hh, newS], by simp [World.frozen?, hh]⟩
  have hth3 : ((w2.alloc (Obj.cells #[Value.int IntKind.i64 0] 111)).alloc (Obj.cells (madeCells blankT (m * 3)) 41)).there (N1 + 2) 0 (m * 3) := by
    have hh : ((w2.alloc (Obj.cells #[Value.int IntKind.i64 0] 111)).alloc (Obj.cells (madeCells blankT (m * 3)) 41)).heap[N1 + 2]? = some (.cells (madeCells blankT (m * 3)) 41) := by
      have := heap_alloc2_new w2 (Obj.cells #[Value.int IntKind.i64 0] 111) (Obj.cells (madeCells blankT (m * 3)) 41)
      rwa [hz2] at this
    intro j hj
    exact ⟨by simp [World.cell?, hh, size_madeCells]; exact hj, by simp [World.frozen?, hh]⟩
  have hob3 : ∃ c, ((w2.alloc (Obj.cells #[Value.int IntKind.i64 0] 111)).alloc (Obj.cells (madeCells blankT (m * 3)) 41)).heap[N1 + 2]? = some (.cells c 41 (0, 0)) ∧ c.size = m * 3 := by
    have := heap_alloc2_new w2 (Obj.cells #[Value.int IntKind.i64 0] 111) (Obj.cells (madeCells blankT (m * 3)) 41)
    rw [hz2] at this
    exact ⟨_, this, size_madeCells _ _⟩
  have hz3 : ((w2.alloc (Obj.cells #[Value.int IntKind.i64 0] 111)).alloc (Obj.cells (madeCells blankT (m * 3)) 41)).heap.size = N1 + 3 := by simp [hz2]
  generalize (w2.alloc (Obj.cells #[Value.int IntKind.i64 0] 111)).alloc (Obj.cells (madeCells blankT (m * 3)) 41) = w3 at *
  have HST : Hid (StAt w3 N1 0 (N1 + 1) 0 n (newS n)) := hst3
  have HTH : Hid (w3.there (N1 + 2) 0 (m * 3)) := hth3
  have HOB : Hid (∃ c, w3.heap[N1 + 2]? = some (.cells c 41 (0, 0)) ∧ c.size = m * 3) := hob3
  have HU3 : Hid (Upd no w w3) := hu3
  clear hst3 hth3 hu3 HS HU hmk hob3
  go_loopw [20] (fun i wr => ∃ k : Nat, k ≤ m ∧ i = .int .i64 k ∧ StAt wr N1 0 (N1 + 1) 0 n (tchRun p n xs k) ∧ TchAt wr (N1 + 2) k (tchRunT p n xs) ∧ wr.there (N1 + 2) 0 (m * 3) ∧ Upd no w wr ∧ N1 + 3 ≤ wr.heap.size ∧ ∃ c, wr.heap[N1 + 2]? = some (.cells c 41 (0, 0)) ∧ c.size = m * 3) (fun i _ => m - (intOf i).toNat)
  case atStart => exact ⟨0, Nat.zero_le _, rfl, HST.out, fun i hi => absurd hi (Nat.not_lt_zero _), HTH.out, HU3.out, by omega, HOB.out⟩
  case round =>
    obtain ⟨k, hk, rfl, hs, ht, hth, hu, hz, hob⟩ := hrel
    have HOk : Hid (∃ c, wr.heap[N1 + 2]? = some (.cells c 41 (0, 0)) ∧ c.size = m * 3) := hob
    have HSk : Hid (StAt wr N1 0 (N1 + 1) 0 n (tchRun p n xs k)) := hs
    have HTk : Hid (TchAt wr (N1 + 2) k (tchRunT p n xs)) := ht
    have HHk : Hid (wr.there (N1 + 2) 0 (m * 3)) := hth
    have HUk : Hid (Upd no w wr) := hu
    clear hs ht hth hu HST HTH HU3 hob HOB
    by_cases hlt : k < m
    · have hx := HX.out k hlt
      rw [← HUk.out.cell ha (fun h => h)] at hx
      go_wp2_with fail
      refine (touch29 N1 0 (N1 + 1) 0 n p (xs k) _ _ HN.out (Bd.run (by rcases HN.out with h | h | h | h <;> omega) k) (.inl (by omega)) HSk.out).mono ?_
      rintro e w4 ⟨rfl, hs4, hu4⟩
      have hth4 : w4.there (N1 + 1 + 1) 0 (m * 3) := there_upd HHk.out hu4 (by omega) (fun o h => by rcases h with h | h <;> have := h.1 <;> omega)
      have hthk : w4.there (N1 + 1 + 1) (k * 3) (tv (tchT p n (xs k) (tchRun p n xs k))).size := fun j hj => by
        have := hth4 (k * 3 + j) (by have : (tv (tchT p n (xs k) (tchRun p n xs k))).size = 3 := rfl; omega)
        rwa [Nat.zero_add] at this
      have hur : Upd (fun b _ => b = N1 + 2) w4 (w4.setCells (N1 + 1 + 1) (k * 3) (tv (tchT p n (xs k) (tchRun p n xs k))).toList) := upd_setCells (Upd.refl _ _) (fun _ _ _ => rfl)
      have HS5 : Hid (StAt (w4.setCells (N1 + 1 + 1) (k * 3) (tv (tchT p n (xs k) (tchRun p n xs k))).toList) N1 0 (N1 + 1) 0 n (tchRun p n xs (k + 1))) :=
        hs4.of_upd hur (fun j _ h => by omega) (fun h => by omega)
      have HH5 : Hid ((w4.setCells (N1 + 1 + 1) (k * 3) (tv (tchT p n (xs k) (tchRun p n xs k))).toList).there (N1 + 2) 0 (m * 3)) := World.there_setCells hth4 _ _ _
      have HT5 : Hid (TchAt (w4.setCells (N1 + 1 + 1) (k * 3) (tv (tchT p n (xs k) (tchRun p n xs k))).toList) (N1 + 2) (k + 1) (tchRunT p n xs)) := by
        intro i hi
        by_cases e : i = k
        · subst e
          exact World.rangeAt_setCells_same _ _ _ _ hthk
        · refine World.rangeAt_setCells_apart ?_ _ _ _ (.inr (.inl ?_))
          · intro j v hj
            have := HTk.out i (by omega) j v hj
            rw [hu4.cell (by omega) (fun h => by rcases h with h | h <;> have := h.1 <;> omega)]
            exact this
          · show i * 3 + 3 ≤ k * 3
            omega
      have HU5 : Hid (Upd no w (w4.setCells (N1 + 1 + 1) (k * 3) (tv (tchT p n (xs k) (tchRun p n xs k))).toList)) :=
        (((HUk.out.mono (S' := fun b _ => w.heap.size ≤ b) (fun _ _ h => h.elim)).trans (hu4.mono (fun _ _ h => by rcases h with h | h <;> have := h.1 <;> omega))).trans (hur.mono (fun _ _ h => by omega))).shrink (fun b o hb h => by omega)
      have HO5 : Hid (∃ c, (w4.setCells (N1 + 1 + 1) (k * 3) (tv (tchT p n (xs k) (tchRun p n xs k))).toList).heap[N1 + 2]? = some (.cells c 41 (0, 0)) ∧ c.size = m * 3) := by
        obtain ⟨c, h1, h2⟩ := HOk.out
        obtain ⟨c1, h3, h4, _⟩ := hu4.cells _ _ _ _ h1
        obtain ⟨c2, h5, h6, _⟩ := hur.cells _ _ _ _ h3
        exact ⟨c2, h5, by omega⟩
      have HZ5 : Hid (N1 + 3 ≤ (w4.setCells (N1 + 1 + 1) (k * 3) (tv (tchT p n (xs k) (tchRun p n xs k))).toList).heap.size) := by
        have h1 := hur.size
        have h2 := hu4.size
        show _ ≤ _
        omega
      clear hs4 hu4 hth4 hur
      generalize tchT p n (xs k) (tchRun p n xs k) = t at *
      go_wp2_with (refine wpList_store_mid rfl 41 _ _ rfl (N1 + 1 + 1) (k * 3) (tv t) (by rfl) (by rfl) hthk (by kernel_rfl) (tv_one _) ?_)
      go_roundw
      case rel => exact ⟨k + 1, by omega, by go_num, HS5.out, HT5.out, HH5.out, HU5.out, HZ5.out, HO5.out⟩
      case measure => simp [intOf]; omega
    · go_wp2
      go_ret
      have hkm : k = m := by omega
      subst hkm
      exact ⟨⟨N1 + 2, rfl, by omega, by omega, HTk.out, HOk.out⟩, HUk.out⟩

end Go.Proofs.Ytobniidkkmlilaa

/- The walks: Touches, where nothing is wrong. -/
namespace Go.Proofs.Ytobniidkkmlilaa
open Go.RowKit Go.Coh

set_option maxHeartbeats 1000000 in
theorem touchAll_nil (p n : Nat) (w : World) (hn : Size n) :
    Calls Try.prog 41 #[.int .i64 p, .int .i64 n, .slice none 0 0] w fun e w' =>
      (∃ g, e = .returned (.slice (some ⟨g, 0, none⟩) 0 0) ∧ w.heap.size ≤ g ∧ g < w'.heap.size ∧ ∃ c, w'.heap[g]? = some (.cells c 41 (0, 0)) ∧ c.size = 0) ∧ Upd no w w' := by
  have HN : Hid (Size n) := hn
  have hmk : ∀ w, (Instr.makeSlice 28 (.int .i64 0) (.int .i64 0)).run Try.prog w = .ok (.slice (some ⟨w.heap.size, 0, none⟩) 0 0) (w.alloc (.cells (madeCells blankT (0 * 3)) 41)) := fun w => run_make41 0 (by omega) w
  clear hn
  go_enter Try.func41, Try.ntmps41
  go_wp2_with fail
  refine (New_any n _ HN.out).mono ?_
  rintro e w1 ⟨⟨cs, rfl, harr⟩, hu1⟩
  dsimp only
  iterate 4 (first | go_values | go_skip | go_guarded | go_step | go_upon)
  refine wpList_store_row rfl 108 _ _ rfl w1.heap.size cs (by rfl) (by rfl) 108 (blank 0) (heap_alloc_new w1 _) (by rw [harr.size]; kernel_rfl) (by rw [harr.size]; rfl) harr.one ?_
  have hu2 : Upd no w ((w1.alloc (.cells (blank 0) 108)).setRow w1.heap.size cs) := (hu1.alloc _).setRowAll (heap_alloc_new w1 (.cells (blank 0) 108)) (by rw [harr.size]; rfl) (fun h => absurd hu1.size (by omega))
  have hz2 : ((w1.alloc (.cells (blank 0) 108)).setRow w1.heap.size cs).heap.size = w1.heap.size + 1 := by simp
  have hN := hu1.size
  change wpList _ _ _ _ _ ((w1.alloc (.cells (blank 0) 108)).setRow w1.heap.size cs)
  generalize (w1.alloc (.cells (blank 0) 108)).setRow w1.heap.size cs = w2 at *
  generalize w1.heap.size = N1 at *
  clear harr hu1
  have HU : Hid (Upd no w w2) := hu2
  clear hu2
  go_wp2_with fail
  go_loopw [20] (fun i wr => i = .int .i64 0 ∧ Upd no w wr ∧ N1 + 3 ≤ wr.heap.size ∧ ∃ c, wr.heap[N1 + 2]? = some (.cells c 41 (0, 0)) ∧ c.size = 0) (fun _ _ => 0)
  case atStart =>
    refine ⟨rfl, (HU.out.alloc _).alloc _, by simp [hz2], ?_⟩
    have := heap_alloc2_new w2 (Obj.cells #[Value.int IntKind.i64 0] 111) (Obj.cells (madeCells blankT (0 * 3)) 41)
    rw [hz2] at this
    exact ⟨_, this, size_madeCells _ _⟩
  case round =>
    obtain ⟨rfl, hu, hz, hob⟩ := hrel
    have HUk : Hid (Upd no w wr) := hu
    have HOk : Hid (∃ c, wr.heap[N1 + 2]? = some (.cells c 41 (0, 0)) ∧ c.size = 0) := hob
    clear hu hob
    go_wp2
    go_ret
    exact ⟨⟨N1 + 2, rfl, by omega, by omega, HOk.out⟩, HUk.out⟩

theorem touchAll_anyO (p n m : Nat) (v : Value) (xs : Nat → Int) (w : World) (hn : Size n) (hm : m ≤ 200) (hv : IntsAt w v m xs) :
    Calls Try.prog 41 #[.int .i64 p, .int .i64 n, v] w fun e w' =>
      (∃ g, e = .returned (.slice (some ⟨g, 0, none⟩) m m) ∧ w.heap.size ≤ g ∧ g < w'.heap.size ∧ TchAt w' g m (tchRunT p n xs) ∧ ∃ c, w'.heap[g]? = some (.cells c 41 (0, 0)) ∧ c.size = m * 3) ∧ Upd no w w' := by
  rcases hv with ⟨rfl, rfl⟩ | ⟨a, off, cap, rfl, ha, hx⟩
  · refine (touchAll_nil p n w hn).mono ?_
    rintro e w' ⟨⟨g, h1, h2, h3, h5⟩, h4⟩
    exact ⟨⟨g, h1, h2, h3, fun i hi => absurd hi (Nat.not_lt_zero _), by simpa using h5⟩, h4⟩
  · exact touchAll_someO p n m a off cap xs w hn hm ha hx

set_option maxHeartbeats 1000000 in
theorem isSize_yes (n : Nat) (w : World) (hn : Size n) : Calls Try.prog 68 #[.int .i64 n] w fun e w' => e = .returned (.bool true) ∧ w' = w := by
  rcases hn with rfl | rfl | rfl | rfl
  all_goals
    go_enter Try.func68, Try.ntmps68
    go_wp2
    go_ret
    exact ⟨rfl, rfl⟩

set_option maxHeartbeats 1000000 in
theorem check_ok (p n m : Nat) (v : Value) (xs : Nat → Int) (w : World) (hp : p ≤ 3) (hn : Size n) (hm : m ≤ 200) (hv : IntsAt w v m xs) (h0 : ∀ i, i < m → 0 ≤ xs i) :
    Calls Try.prog 40 #[.int .i64 p, .int .i64 n, v] w fun e w' => e = .returned (.int .i64 0) ∧ w' = w := by
  have HN : Hid (Size n) := hn
  have H0 : Hid (∀ i, i < m → 0 ≤ xs i) := h0
  clear hn h0
  rcases hv with ⟨rfl, rfl⟩ | ⟨a, off, cap, rfl, ha, hx⟩
  · go_enter Try.func40, Try.ntmps40
    go_wp2_with fail
    refine (isSize_yes n _ HN.out).mono ?_
    rintro e w1 ⟨rfl, rfl⟩
    go_wp2
    go_loop [23] (fun i => i = .int .i64 0) (fun _ => 0)
    case atStart => exact rfl
    case round =>
      obtain rfl := hrel
      go_wp2
      go_ret
      exact ⟨rfl, rfl⟩
  · have HX : Hid (∀ i, i < m → w.cell? ⟨a, off + i, none⟩ = some (.int .i64 (xs i))) := hx
    clear hx
    go_enter Try.func40, Try.ntmps40
    go_wp2_with fail
    refine (isSize_yes n _ HN.out).mono ?_
    rintro e w1 ⟨rfl, rfl⟩
    go_wp2
    go_loop [23] (fun i => ∃ k : Nat, k ≤ m ∧ i = .int .i64 k) (fun i => m - (intOf i).toNat)
    case atStart => exact ⟨0, Nat.zero_le _, rfl⟩
    case round =>
      obtain ⟨k, hk, rfl⟩ := hrel
      by_cases hlt : k < m
      · have hx := HX.out k hlt
        have h0 := H0.out k hlt
        go_wp2
        go_round
        case rel => exact ⟨k + 1, by omega, by go_num⟩
        case measure => simp [intOf]; omega
      · go_wp2
        go_ret
        exact ⟨rfl, rfl⟩

set_option maxHeartbeats 1000000 in
theorem Touches_okO (p n m : Nat) (v : Value) (xs : Nat → Int) (w : World) (hp : p ≤ 3) (hn : Size n) (hm : m ≤ 200) (hv : IntsAt w v m xs) (h0 : ∀ i, i < m → 0 ≤ xs i) :
    Calls Try.prog 16 #[.int .i64 p, .int .i64 n, v] w fun e w' =>
      (∃ g, e = .returned (.tuple #[.slice (some ⟨g, 0, none⟩) m m, .int .i64 0]) ∧ w.heap.size ≤ g ∧ g < w'.heap.size ∧ TchAt w' g m (tchRunT p n xs) ∧ ∃ c, w'.heap[g]? = some (.cells c 41 (0, 0)) ∧ c.size = m * 3) ∧ Upd no w w' := by
  have HV : Hid (IntsAt w v m xs) := hv
  have HN : Hid (Size n) := hn
  have H0 : Hid (∀ i, i < m → 0 ≤ xs i) := h0
  clear hn h0 hv
  go_enter Try.func16, Try.ntmps16
  go_wp2_with fail
  refine (check_ok p n m v xs _ hp HN.out hm HV.out H0.out).mono ?_
  rintro e w1 ⟨rfl, rfl⟩
  go_wp2_with fail
  refine (touchAll_anyO p n m v xs _ HN.out hm HV.out).mono ?_
  rintro e w2 ⟨⟨g, rfl, h1, h2, h3, h5⟩, h4⟩
  have HOB : Hid (∃ c, w2.heap[g]? = some (.cells c 41 (0, 0)) ∧ c.size = m * 3) := h5
  clear h5
  have HT : Hid (TchAt w2 g m (tchRunT p n xs)) := h3
  have HU : Hid (Upd no w1 w2) := h4
  clear h3 h4
  go_wp2
  go_ret2
  exact ⟨⟨g, rfl, h1, h2, HT.out, HOB.out⟩, HU.out⟩

theorem Touches_ok (p n m : Nat) (v : Value) (xs : Nat → Int) (w : World) (hp : p ≤ 3) (hn : Size n) (hm : m ≤ 200) (hv : IntsAt w v m xs) (h0 : ∀ i, i < m → 0 ≤ xs i) :
    Calls Try.prog 16 #[.int .i64 p, .int .i64 n, v] w fun e w' =>
      (∃ g, e = .returned (.tuple #[.slice (some ⟨g, 0, none⟩) m m, .int .i64 0]) ∧ w.heap.size ≤ g ∧ g < w'.heap.size ∧ TchAt w' g m (tchRunT p n xs)) ∧ Upd no w w' := by
  refine (Touches_okO p n m v xs w hp hn hm hv h0).mono ?_
  rintro e w' ⟨⟨g, h1, h2, h3, h4, _⟩, h5⟩
  exact ⟨⟨g, h1, h2, h3, h4⟩, h5⟩

end Go.Proofs.Ytobniidkkmlilaa
