/- The walks: Touches, where nothing is wrong. -/
import Derived.Test.YtobniidkkmlilaaWh
namespace Go.Proofs.Ytobniidkkmlilaa
open Go.RowKit Go.Coh

set_option maxHeartbeats 1000000 in
theorem touchAll_nil (p n : Nat) (w : World) (hn : Size n) :
    Calls Try.prog 41 #[.int .i64 p, .int .i64 n, .slice none 0 0] w fun e w' =>
      (∃ g, e = .returned (.slice (some ⟨g, 0, none⟩) 0 0) ∧ w.heap.size ≤ g ∧ g < w'.heap.size ∧ ∃ c, w'.heap[g]? = some (.cells c 41 (0, 0)) ∧ c.size = 0) ∧ Upd no w w' := by
  have HN : Hid (Size n) := hn
  have hmk : ∀ w, (Instr.makeSlice 28 (.int .i64 0) (.int .i64 0)).run Try.prog w = .ok (.slice (some ⟨w.heap.size, 0, none⟩) 0 0) (w.alloc (.cells (madeCells blankT (0 * 3)) 41)) := fun w => run_make41 0 (by omega) w
  clear hn
  go_enter Try.func41, Try.ntmps41
  go_wp2_with fail
  refine (New_any n _ HN.out).mono ?_
  rintro e w1 ⟨⟨cs, rfl, harr⟩, hu1⟩
  dsimp only
  iterate 4 (first | go_values | go_skip | go_guarded | go_step | go_upon)
  refine wpList_store_row rfl 108 _ _ rfl w1.heap.size cs (by rfl) (by rfl) 108 (blank 0) (heap_alloc_new w1 _) (by rw [harr.size]; kernel_rfl) (by rw [harr.size]; rfl) harr.one ?_
  have hu2 : Upd no w ((w1.alloc (.cells (blank 0) 108)).setRow w1.heap.size cs) := (hu1.alloc _).setRowAll (heap_alloc_new w1 (.cells (blank 0) 108)) (by rw [harr.size]; rfl) (fun h => absurd hu1.size (by omega))
  have hz2 : ((w1.alloc (.cells (blank 0) 108)).setRow w1.heap.size cs).heap.size = w1.heap.size + 1 := by simp
  have hN := hu1.size
  change wpList _ _ _ _ _ ((w1.alloc (.cells (blank 0) 108)).setRow w1.heap.size cs)
  generalize (w1.alloc (.cells (blank 0) 108)).setRow w1.heap.size cs = w2 at *
  generalize w1.heap.size = N1 at *
  clear harr hu1
  have HU : Hid (Upd no w w2) := hu2
  clear hu2
  go_wp2_with fail
  go_loopw [20] (fun i wr => i = .int .i64 0 ∧ Upd no w wr ∧ N1 + 3 ≤ wr.heap.size ∧ ∃ c, wr.heap[N1 + 2]? = some (.cells c 41 (0, 0)) ∧ c.size = 0) (fun _ _ => 0)
  case atStart =>
    refine ⟨rfl, (HU.out.alloc _).alloc _, by simp [hz2], ?_⟩
    have := heap_alloc2_new w2 (Obj.cells #[Value.int IntKind.i64 0] 111) (Obj.cells (madeCells blankT (0 * 3)) 41)
    rw [hz2] at this
    exact ⟨_, this, size_madeCells _ _⟩
  case round =>
    obtain ⟨rfl, hu, hz, hob⟩ := hrel
    have HUk : Hid (Upd no w wr) := hu
    have HOk : Hid (∃ c, wr.heap[N1 + 2]? = some (.cells c 41 (0, 0)) ∧ c.size = 0) := hob
    clear hu hob
    go_wp2
    go_ret
    exact ⟨⟨N1 + 2, rfl, by omega, by omega, HOk.out⟩, HUk.out⟩

theorem touchAll_anyO (p n m : Nat) (v : Value) (xs : Nat → Int) (w : World) (hn : Size n) (hm : m ≤ 200) (hv : IntsAt w v m xs) :
    Calls Try.prog 41 #[.int .i64 p, .int .i64 n, v] w fun e w' =>
      (∃ g, e = .returned (.slice (some ⟨g, 0, none⟩) m m) ∧ w.heap.size ≤ g ∧ g < w'.heap.size ∧ TchAt w' g m (tchRunT p n xs) ∧ ∃ c, w'.heap[g]? = some (.cells c 41 (0, 0)) ∧ c.size = m * 3) ∧ Upd no w w' := by
  rcases hv with ⟨rfl, rfl⟩ | ⟨a, off, cap, rfl, ha, hx⟩
  · refine (touchAll_nil p n w hn).mono ?_
    rintro e w' ⟨⟨g, h1, h2, h3, h5⟩, h4⟩
    exact ⟨⟨g, h1, h2, h3, fun i hi => absurd hi (Nat.not_lt_zero _), by simpa using h5⟩, h4⟩
  · exact touchAll_someO p n m a off cap xs w hn hm ha hx

set_option maxHeartbeats 1000000 in
theorem isSize_yes (n : Nat) (w : World) (hn : Size n) : Calls Try.prog 68 #[.int .i64 n] w fun e w' => e = .returned (.bool true) ∧ w' = w := by
  rcases hn with rfl | rfl | rfl | rfl
  all_goals
    go_enter Try.func68, Try.ntmps68
    go_wp2
    go_ret
    exact ⟨rfl, rfl⟩

set_option maxHeartbeats 1000000 in
theorem check_ok (p n m : Nat) (v : Value) (xs : Nat → Int) (w : World) (hp : p ≤ 3) (hn : Size n) (hm : m ≤ 200) (hv : IntsAt w v m xs) (h0 : ∀ i, i < m → 0 ≤ xs i) :
    Calls Try.prog 40 #[.int .i64 p, .int .i64 n, v] w fun e w' => e = .returned (.int .i64 0) ∧ w' = w := by
  have HN : Hid (Size n) := hn
  have H0 : Hid (∀ i, i < m → 0 ≤ xs i) := h0
  clear hn h0
  rcases hv with ⟨rfl, rfl⟩ | ⟨a, off, cap, rfl, ha, hx⟩
  · go_enter Try.func40, Try.ntmps40
    go_wp2_with fail
    refine (isSize_yes n _ HN.out).mono ?_
    rintro e w1 ⟨rfl, rfl⟩
    go_wp2
    go_loop [23] (fun i => i = .int .i64 0) (fun _ => 0)
    case atStart => exact rfl
    case round =>
      obtain rfl := hrel
      go_wp2
      go_ret
      exact ⟨rfl, rfl⟩
  · have HX : Hid (∀ i, i < m → w.cell? ⟨a, off + i, none⟩ = some (.int .i64 (xs i))) := hx
    clear hx
    go_enter Try.func40, Try.ntmps40
    go_wp2_with fail
    refine (isSize_yes n _ HN.out).mono ?_
    rintro e w1 ⟨rfl, rfl⟩
    go_wp2
    go_loop [23] (fun i => ∃ k : Nat, k ≤ m ∧ i = .int .i64 k) (fun i => m - (intOf i).toNat)
    case atStart => exact ⟨0, Nat.zero_le _, rfl⟩
    case round =>
      obtain ⟨k, hk, rfl⟩ := hrel
      by_cases hlt : k < m
      · have hx := HX.out k hlt
        have h0 := H0.out k hlt
        go_wp2
        go_round
        case rel => exact ⟨k + 1, by omega, by go_num⟩
        case measure => simp [intOf]; omega
      · go_wp2
        go_ret
        exact ⟨rfl, rfl⟩

set_option maxHeartbeats 1000000 in
theorem Touches_okO (p n m : Nat) (v : Value) (xs : Nat → Int) (w : World) (hp : p ≤ 3) (hn : Size n) (hm : m ≤ 200) (hv : IntsAt w v m xs) (h0 : ∀ i, i < m → 0 ≤ xs i) :
    Calls Try.prog 16 #[.int .i64 p, .int .i64 n, v] w fun e w' =>
      (∃ g, e = .returned (.tuple #[.slice (some ⟨g, 0, none⟩) m m, .int .i64 0]) ∧ w.heap.size ≤ g ∧ g < w'.heap.size ∧ TchAt w' g m (tchRunT p n xs) ∧ ∃ c, w'.heap[g]? = some (.cells c 41 (0, 0)) ∧ c.size = m * 3) ∧ Upd no w w' := by
  have HV : Hid (IntsAt w v m xs) := hv
  have HN : Hid (Size n) := hn
  have H0 : Hid (∀ i, i < m → 0 ≤ xs i) := h0
  clear hn h0 hv
  go_enter Try.func16, Try.ntmps16
  go_wp2_with fail
  refine (check_ok p n m v xs _ hp HN.out hm HV.out H0.out).mono ?_
  rintro e w1 ⟨rfl, rfl⟩
  go_wp2_with fail
  refine (touchAll_anyO p n m v xs _ HN.out hm HV.out).mono ?_
  rintro e w2 ⟨⟨g, rfl, h1, h2, h3, h5⟩, h4⟩
  have HOB : Hid (∃ c, w2.heap[g]? = some (.cells c 41 (0, 0)) ∧ c.size = m * 3) := h5
  clear h5
  have HT : Hid (TchAt w2 g m (tchRunT p n xs)) := h3
  have HU : Hid (Upd no w1 w2) := h4
  clear h3 h4
  go_wp2
  go_ret2
  exact ⟨⟨g, rfl, h1, h2, HT.out, HOB.out⟩, HU.out⟩

theorem Touches_ok (p n m : Nat) (v : Value) (xs : Nat → Int) (w : World) (hp : p ≤ 3) (hn : Size n) (hm : m ≤ 200) (hv : IntsAt w v m xs) (h0 : ∀ i, i < m → 0 ≤ xs i) :
    Calls Try.prog 16 #[.int .i64 p, .int .i64 n, v] w fun e w' =>
      (∃ g, e = .returned (.tuple #[.slice (some ⟨g, 0, none⟩) m m, .int .i64 0]) ∧ w.heap.size ≤ g ∧ g < w'.heap.size ∧ TchAt w' g m (tchRunT p n xs)) ∧ Upd no w w' := by
  refine (Touches_okO p n m v xs w hp hn hm hv h0).mono ?_
  rintro e w' ⟨⟨g, h1, h2, h3, h4, _⟩, h5⟩
  exact ⟨⟨g, h1, h2, h3, h4⟩, h5⟩

end Go.Proofs.Ytobniidkkmlilaa
