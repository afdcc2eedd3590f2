import Derived.Test.YtobniidkkmlilaaPa05

/- The walks: Touches, where nothing is wrong. -/
namespace Go.Proofs.Ytobniidkkmlilaa
open Go.RowKit Go.Coh

set_option maxHeartbeats 1000000 in
theorem touchAll_nil (p n : Nat) (w : World) (hn : Size n) :
    Calls Try.prog 41 #[.int .i64 p, .int .i64 n, .slice none 0 0] w fun e w' =>
      (∃ g, e = .returned (.slice (some ⟨g, 0, none⟩) 0 0) ∧ w.heap.size ≤ g ∧ g < w'.heap.size ∧ ∃ c, w'.heap[g]? = some (.cells c 41 (0, 0)) ∧ c.size = 0) ∧ Upd no w w' := by
  have HN : Hid (Size n) := hn
  have hmk : ∀ w, (Instr.makeSlice 28 (.int .i64 0) (.int .i64 0)).run Try.prog w = .ok (.slice (some ⟨w.heap.size, 0, none⟩) 0 0) (w.alloc (.cells (madeCells blankT (0 * 3)) 41)) := fun w => run_make41 0 (by omega) w
  clear hn
  go_enter Try.func41, Try.ntmps41
  go_wp2_with fail
  refine (New_any n _ HN.out).mono ?_
  rintro e w1 ⟨⟨cs, rfl, harr⟩, hu1⟩
  dsimp only
  iterate 4 (first | go_values | go_skip | go_guarded | go_step | go_upon)
  refine wpList_store_row rfl 108 _ _ rfl w1.heap.size cs (by rfl) (by rfl) 108 (blank 0) (heap_alloc_new w1 _) (by rw [harr.size]; kernel_rfl) (by rw [harr.size]; rfl) harr.one ?_
  have hu2 : Upd no w ((w1.alloc (.cells (blank 0) 108)).setRow w1.heap.size cs) := (hu1.alloc _).setRowAll (heap_alloc_new w1 (.cells (blank 0) 108)) (by rw [harr.size]; rfl) (fun h => absurd hu1.size (by omega))
  have hz2 : ((w1.alloc (.cells (blank 0) 108)).setRow w1.heap.size cs).heap.size = w1.heap.size + 1 := by simp
  have hN := hu1.size
  change wpList _ _ _ _ _ ((w1.alloc (.cells (blank 0) 108)).setRow w1.heap.size cs)
  generalize (w1.alloc (.cells (blank 0) 108)).setRow w1.heap.size cs = w2 at *
  generalize w1.heap.size = N1 at *
  clear harr hu1
  have HU : Hid (Upd no w w2) := hu2
  clear hu2
  go_wp2_with fail
  go_loopw [20] (fun i wr => i = .int .i64 0 ∧ Upd no w wr ∧ N1 + 3 ≤ wr.heap.size ∧ ∃ c, wr.heap[N1 + 2]? = some (.cells c 41 (0, 0)) ∧ c.size = 0) (fun _ _ => 0)
  case atStart =>
    refine ⟨rfl, (HU.out.alloc _).alloc _, by simp [hz2], ?_⟩
    have := heap_alloc2_new w2 (Obj.cells #[Value.int IntKind.i64 0] 111) (Obj.cells (madeCells blankT (0 * 3)) 41)
    rw [hz2] at this
    exact ⟨_, this, size_madeCells _ _⟩
  case round =>
    obtain ⟨rfl, hu, hz, hob⟩ := hrel
    have HUk : Hid (Upd no w wr) := hu
    have HOk : Hid (∃ c, wr.heap[N1 + 2]? = some (.cells c 41 (0, 0)) ∧ c.size = 0) := hob
    clear hu hob
    go_wp2
    go_ret
    exact ⟨⟨N1 + 2, rfl, by omega, by omega, HOk.out⟩, HUk.out⟩

theorem touchAll_anyO (p n m : Nat) (v : Value) (xs : Nat → Int) (w : World) (hn : Size n) (hm : m ≤ 200) (hv : IntsAt w v m xs) :
    Calls Try.prog 41 #[.int .i64 p, .int .i64 n, v] w fun e w' =>
      (∃ g, e = .returned (.slice (some ⟨g, 0, none⟩) m m) ∧ w.heap.size ≤ g ∧ g < w'.heap.size ∧ TchAt w' g m (tchRunT p n xs) ∧ ∃ c, w'.heap[g]? = some (.cells c 41 (0, 0)) ∧ c.size = m * 3) ∧ Upd no w w' := by
  rcases hv with ⟨rfl, rfl⟩ | ⟨a, off, cap, rfl, ha, hx⟩
  · refine (touchAll_nil p n w hn).mono ?_
    rintro e w' ⟨⟨g, h1, h2, h3, h5⟩, h4⟩
    exact ⟨⟨g, h1, h2, h3, fun i hi => absurd hi (Nat.not_lt_zero _), by simpa using h5⟩, h4⟩
  · exact touchAll_someO p n m a off cap xs w hn hm ha hx

set_option maxHeartbeats 1000000 in
theorem isSize_yes (n : Nat) (w : World) (hn : Size n) : Calls Try.prog 68 #[.int .i64 n] w fun e w' => e = .returned (.bool true) ∧ w' = w := by
  rcases hn with rfl | rfl | rfl | rfl
  all_goals
    go_enter Try.func68, Try.ntmps68
    go_wp2
    go_ret
    exact ⟨rfl, rfl⟩

set_option maxHeartbeats 1000000 in
theorem check_ok (p n m : Nat) (v : Value) (xs : Nat → Int) (w : World) (hp : p ≤ 3) (hn : Size n) (hm : m ≤ 200) (hv : IntsAt w v m xs) (h0 : ∀ i, i < m → 0 ≤ xs i) :
    Calls Try.prog 40 #[.int .i64 p, .int .i64 n, v] w fun e w' => e = .returned (.int .i64 0) ∧ w' = w := by
  have HN : Hid (Size n) := hn
  have H0 : Hid (∀ i, i < m → 0 ≤ xs i) := h0
  clear hn h0
  rcases hv with ⟨rfl, rfl⟩ | ⟨a, off, cap, rfl, ha, hx⟩
  · go_enter Try.func40, Try.ntmps40
    go_wp2_with fail
    refine (isSize_yes n _ HN.out).mono ?_
    rintro e w1 ⟨rfl, rfl⟩
    go_wp2
    go_loop [23] (fun i => i = .int .i64 0) (fun _ => 0)
    case atStart => exact rfl
    case round =>
      obtain rfl := hrel
      go_wp2
      go_ret
      exact ⟨rfl, rfl⟩
  · have HX : Hid (∀ i, i < m → w.cell? ⟨a, off + i, none⟩ = some (.int .i64 (xs i))) := hx
    clear hx
    go_enter Try.func40, Try.ntmps40
    go_wp2_with fail
    refine (isSize_yes n _ HN.out).mono ?_
    rintro e w1 ⟨rfl, rfl⟩
    go_wp2
    go_loop [23] (fun i => ∃ k : Nat, k ≤ m ∧ i = .int .i64 k) (fun i => m - (intOf i).toNat)
    case atStart => exact ⟨0, Nat.zero_le _, rfl⟩
    case round =>
      obtain ⟨k, hk, rfl⟩ := hrel
      by_cases hlt : k < m
      · have hx := HX.out k hlt
        have h0 := H0.out k hlt
        go_wp2
        go_round
        case rel => exact ⟨k + 1, by omega, by go_num⟩
        case measure => simp [intOf]; omega
      · go_wp2
        go_ret
        exact ⟨rfl, rfl⟩

set_option maxHeartbeats 1000000 in
theorem Touches_okO (p n m : Nat) (v : Value) (xs : Nat → Int) (w : World) (hp : p ≤ 3) (hn : Size n) (hm : m ≤ 200) (hv : IntsAt w v m xs) (h0 : ∀ i, i < m → 0 ≤ xs i) :
    Calls Try.prog 16 #[.int .i64 p, .int .i64 n, v] w fun e w' =>
      (∃ g, e = .returned (.tuple #[.slice (some ⟨g, 0, none⟩) m m, .int .i64 0]) ∧ w.heap.size ≤ g ∧ g < w'.heap.size ∧ TchAt w' g m (tchRunT p n xs) ∧ ∃ c, w'.heap[g]? = some (.cells c 41 (0, 0)) ∧ c.size = m * 3) ∧ Upd no w w' := by
  have HV : Hid (IntsAt w v m xs) := hv
  have HN : Hid (Size n) := hn
  have H0 : Hid (∀ i, i < m → 0 ≤ xs i) := h0
  clear hn h0 hv
  go_enter Try.func16, Try.ntmps16
  go_wp2_with fail
  refine (check_ok p n m v xs _ hp HN.out hm HV.out H0.out).mono ?_
  rintro e w1 ⟨rfl, rfl⟩
  go_wp2_with fail
  refine (touchAll_anyO p n m v xs _ HN.out hm HV.out).mono ?_
  rintro e w2 ⟨⟨g, rfl, h1, h2, h3, h5⟩, h4⟩
  have HOB : Hid (∃ c, w2.heap[g]? = some (.cells c 41 (0, 0)) ∧ c.size = m * 3) := h5
  clear h5
  have HT : Hid (TchAt w2 g m (tchRunT p n xs)) := h3
  have HU : Hid (Upd no w1 w2) := h4
  clear h3 h4
  go_wp2
  go_ret2
  exact ⟨⟨g, rfl, h1, h2, HT.out, HOB.out⟩, HU.out⟩

theorem Touches_ok (p n m : Nat) (v : Value) (xs : Nat → Int) (w : World) (hp : p ≤ 3) (hn : Size n) (hm : m ≤ 200) (hv : IntsAt w v m xs) (h0 : ∀ i, i < m → 0 ≤ xs i) :
    Calls Try.prog 16 #[.int .i64 p, .int .i64 n, v] w fun e w' =>
      (∃ g, e = .returned (.tuple #[.slice (some ⟨g, 0, none⟩) m m, .int .i64 0]) ∧ w.heap.size ≤ g ∧ g < w'.heap.size ∧ TchAt w' g m (tchRunT p n xs)) ∧ Upd no w w' := by
  refine (Touches_okO p n m v xs w hp hn hm hv h0).mono ?_
  rintro e w' ⟨⟨g, h1, h2, h3, h4, _⟩, h5⟩
  exact ⟨⟨g, h1, h2, h3, h4⟩, h5⟩

end Go.Proofs.Ytobniidkkmlilaa

/- The walks over package coherentkeep: small numbers out of raw ones. -/
namespace Go.Proofs.Ytobniidkkmlilaa
open Go.RowKit Go.Coh

def pickN (c : Int) (n : Nat) : Nat := ((if c < 0 then -(c + 1) else c) % n).toNat
theorem pickN_lt (c : Int) (n : Nat) (hn : 0 < n) : pickN c n < n := by
  unfold pickN
  have h1 := Int.emod_lt_of_pos (if c < 0 then -(c + 1) else c) (show (0 : Int) < n by omega)
  have h2 := Int.emod_nonneg (if c < 0 then -(c + 1) else c) (show (n : Int) ≠ 0 by omega)
  omega
theorem pickN_neg (c : Int) (n : Nat) (hn : 0 < n) (h : c < 0) : (-(c + 1)) % n = (pickN c n : Int) := by
  unfold pickN
  have h2 := Int.emod_nonneg (-(c + 1)) (show (n : Int) ≠ 0 by omega)
  rw [if_pos h]; omega
theorem pickN_pos (c : Int) (n : Nat) (hn : 0 < n) (h : ¬ c < 0) : c % n = (pickN c n : Int) := by
  unfold pickN
  have h2 := Int.emod_nonneg c (show (n : Int) ≠ 0 by omega)
  rw [if_neg h]; omega

set_option maxHeartbeats 400000 in
theorem pick_any (c : Int) (n : Nat) (w : World) (hn : 0 < n) (hn2 : n ≤ 1000) (h1 : -9223372036854775808 ≤ c) (h2 : c ≤ 9223372036854775807) :
    Calls Try.prog 25 #[.int .i64 c, .int .i64 n] w fun e w' => e = .returned (.int .i64 (pickN c n : Nat)) ∧ w' = w := by
  by_cases h : c < 0
  · have HP : Hid ((-(c + 1)) % (n : Int) = (pickN c n : Int)) := pickN_neg c n hn h
    go_enter Try.func25, Try.ntmps25
    go_wp2
    go_ret
    exact ⟨ret_int (by rw [← HP.out, ← Int.neg_tmod, Int.tmod_eq_emod_of_nonneg (by omega)]), rfl⟩
  · have HP : Hid (c % (n : Int) = (pickN c n : Int)) := pickN_pos c n hn h
    go_enter Try.func25, Try.ntmps25
    go_wp2
    go_ret
    exact ⟨ret_int (by rw [← HP.out]), rfl⟩

theorem pick_int (c : Int) (n : Nat) (k : Int) (w : World) (ek : k = n) (hn : 0 < n) (hn2 : n ≤ 1000) (h1 : -9223372036854775808 ≤ c) (h2 : c ≤ 9223372036854775807) :
    Calls Try.prog 25 #[.int .i64 c, .int .i64 k] w fun e w' => e = .returned (.int .i64 (pickN c n : Nat)) ∧ w' = w := by
  subst ek; exact pick_any c n w hn hn2 h1 h2

def powerN (c : Int) : Nat := 2 ^ pickN c 4
theorem powerN_size (c : Int) : Size (powerN c) := by
  have := pickN_lt c 4 (by omega)
  unfold powerN
  generalize pickN c 4 = k at *
  match k, this with
  | 0, _ => exact .inl rfl
  | 1, _ => exact .inr (.inl rfl)
  | 2, _ => exact .inr (.inr (.inl rfl))
  | 3, _ => exact .inr (.inr (.inr rfl))

set_option maxHeartbeats 400000 in
theorem power_any (c : Int) (w : World) (h1 : -9223372036854775808 ≤ c) (h2 : c ≤ 9223372036854775807) :
    Calls Try.prog 22 #[.int .i64 c] w fun e w' => e = .returned (.int .i64 (powerN c : Nat)) ∧ w' = w := by
  have hk := pickN_lt c 4 (by omega)
  have HP : Hid (powerN c = 2 ^ pickN c 4) := rfl
  go_enter Try.func22, Try.ntmps22
  go_wp2_with fail
  refine (pick_int c 4 _ _ rfl (by omega) (by omega) h1 h2).mono ?_
  rintro e w1 ⟨rfl, rfl⟩
  generalize pickN c 4 = k at *
  have hcase : k = 0 ∨ k = 1 ∨ k = 2 ∨ k = 3 := by omega
  clear hk
  go_wp2
  go_loop [3, 4] (fun n i => ∃ a b : Nat, n = .int .i64 a ∧ i = .int .i64 b ∧ (b = 0 ∨ b = 1 ∨ b = 2 ∨ b = 3) ∧ a * 2 ^ b = 2 ^ k ∧ a ≤ 8) (fun _ i => (intOf i).toNat)
  case atStart => exact ⟨1, k, rfl, rfl, hcase, by omega, by omega⟩
  case round =>
    obtain ⟨a, b, rfl, rfl, hb, he, ha⟩ := hrel
    have HE : Hid (a * 2 ^ b = 2 ^ k) := he
    have HCs : Hid (k = 0 ∨ k = 1 ∨ k = 2 ∨ k = 3) := hcase
    clear he hcase
    have ha8 : 0 < b → a ≤ 4 := by
      intro hb0
      have h8 : 2 ^ k ≤ 8 := by rcases HCs.out with h | h | h | h <;> subst h <;> decide
      have h2 : 2 ≤ 2 ^ b := by rcases hb with h | h | h | h <;> subst h <;> first | omega | decide
      have h3 : a * 2 ≤ a * 2 ^ b := Nat.mul_le_mul_left a h2
      have := HE.out
      omega
    by_cases hz : b = 0
    · subst hz
      go_wp2
      go_ret
      exact ⟨ret_int (by rw [HP.out, ← HE.out]; simp), rfl⟩
    · have ha4 := ha8 (by omega)
      clear ha8
      have hb1 : 0 < b := by omega
      go_wp2
      go_round
      case rel =>
        refine ⟨2 * a, b - 1, by go_num, by first | go_num | (congr 1; omega), by omega, ?_, by omega⟩
        have := HE.out
        rw [show b = (b - 1) + 1 by omega, Nat.pow_succ] at this
        rw [← this, Nat.mul_comm 2 a, Nat.mul_assoc, Nat.mul_comm 2]
      case measure => simp [intOf]; omega

end Go.Proofs.Ytobniidkkmlilaa

/- The walks over package coherentkeep: some. -/
namespace Go.Proofs.Ytobniidkkmlilaa
open Go.RowKit Go.Coh

theorem upd_grown {S : Nat → Nat → Prop} {w w' w'' : World} {row : Option Nat} (h : Upd S w w') (hg : w'.grownBy w'' row) (hr : ∀ k, row = some k → w.heap.size ≤ k) : Upd S w w'' := by
  have hb : ∀ k, k < w.heap.size → w''.heap[k]? = w'.heap[k]? := fun k hk => hg.block k (Nat.lt_of_lt_of_le hk h.size) (fun e => by have := hr k e.symm; omega)
  refine ⟨hg.os.trans h.os, hg.tape.trans h.tape, hg.output.trans h.output, Nat.le_trans h.size hg.size, ?_, ?_⟩
  · intro b c e fr hc
    rw [hb b (Array.getElem?_eq_some_iff.1 hc).1]
    exact h.cells b c e fr hc
  · intro b x hc hx
    rw [hb b (Array.getElem?_eq_some_iff.1 hc).1]
    exact h.rest b x hc hx

theorem info3 : (Try.prog.info? 3).map (fun i => (i.zero, i.size, i.bytes)) = some (some (.int .i64 0), 1, 8) := by kernel_rfl

def iv (f : Nat → Int) (k : Nat) : List Value := (List.range k).map fun i => .int .i64 (f i)
theorem iv_succ (f : Nat → Int) (k : Nat) : iv f k ++ [.int .i64 (f k)] = iv f (k + 1) := by simp [iv, List.range_succ]
theorem iv_get (f : Nat → Int) (k i : Nat) (hi : i < k) : (iv f k)[i]? = some (.int .i64 (f i)) := by simp [iv, hi]

/-- what is owned can be read -/
theorem ints_of_own {w : World} {base : Nat} {v : Value} {k : Nat} {f : Nat → Int} (h : w.ownsRow base 3 1 v k (iv f k)) : IntsAt w v k f ∧ ∀ a l c, v = .slice (some a) l c → base ≤ a.block := by
  rcases h.2 with ⟨rfl, rfl⟩ | ⟨g, cap, cur, rfl, hb, hg, _, _, _, ht⟩
  · exact ⟨.inl ⟨rfl, rfl⟩, fun a l c e => by cases e⟩
  · refine ⟨.inr ⟨g, 0, cap, rfl, (Array.getElem?_eq_some_iff.1 hg).1, fun i hi => ?_⟩, fun a l c e => by injection e with e _ _; injection e with e; subst e; exact hb⟩
    rw [Nat.zero_add, cell_of_row w g i cur 3 (0, 0) hg]
    have := iv_get f k i hi
    rw [← ht, List.getElem?_take, if_pos (by omega)] at this
    simpa using this

def someN (m : Nat) : Nat := if m < 200 then m else 200

set_option maxRecDepth 100000 in
set_option maxHeartbeats 1000000 in
theorem some_some (a off m cap n : Nat) (zs : Nat → Int) (w : World) (hn : 0 < n) (hn2 : n ≤ 100) (hm : m ≤ maxLen) (ha : a < w.heap.size)
    (hz : ∀ i, i < m → w.cell? ⟨a, off + i, none⟩ = some (.int .i64 (zs i)) ∧ -9223372036854775808 ≤ zs i ∧ zs i ≤ 9223372036854775807) :
    Calls Try.prog 23 #[.slice (some ⟨a, off, none⟩) m cap, .int .i64 n] w fun e w' =>
      (∃ v, e = .returned v ∧ w'.ownsRow w.heap.size 3 1 v (someN m) (iv (fun i => pickN (zs i) n) (someN m))) ∧ Upd no w w' := by
  unfold maxLen at hm
  have HZ : Hid (∀ i, i < m → w.cell? ⟨a, off + i, none⟩ = some (.int .i64 (zs i)) ∧ -9223372036854775808 ≤ zs i ∧ zs i ≤ 9223372036854775807) := hz
  obtain ⟨i0, hi, hz0, hz1, hz2⟩ := info_parts info3
  clear hz
  go_enter Try.func23, Try.ntmps23
  go_wp2
  go_loopw [5, 6] (fun l i wr => ∃ k : Nat, k ≤ m ∧ k ≤ 200 ∧ i = .int .i64 k ∧ wr.ownsRow w.heap.size 3 1 l k (iv (fun i => pickN (zs i) n) k) ∧ Upd no w wr) (fun _ i _ => m - (intOf i).toNat)
  case atStart => exact ⟨0, Nat.zero_le _, Nat.zero_le _, rfl, World.ownsRow_nil _ _ _ _, Upd.refl _ _⟩
  case round =>
    obtain ⟨k, hk, hk2, rfl, hown, hu⟩ := hrel
    have HU : Hid (Upd no w wr) := hu
    have HO : Hid (wr.ownsRow w.heap.size 3 1 u5 k (iv (fun i => pickN (zs i) n) k)) := hown
    clear hu hown
    by_cases hlt : k < m
    · have hzk := HZ.out k hlt
      have hc : wr.cell? ⟨a, off + k, none⟩ = some (.int .i64 (zs k)) := by rw [HU.out.cell ha (fun h => h)]; exact hzk.1
      by_cases h200 : k < 200
      · have hsz := HU.out.size
        go_wp2_with fail
        refine (pick_any (zs k) n _ hn (by omega) hzk.2.1 hzk.2.2).mono ?_
        rintro e w1 ⟨rfl, rfl⟩
        go_wp2_with (at_builtin; refine wpList_append_own _ rfl _ _ 24 rfl w.heap.size 3 i0 (.int .i64 0) 1 8 Try.underlying24 hi hz0 hz1 hz2 rfl (by decide) _ _ _ rfl (HO.out.alloc _) ⟨w1.heap.size, 0, none⟩ 1 1 [.int .i64 (pickN (zs k) n : Nat)] rfl rfl (cell_one_new _ _ _) (ints_oneCell .i64 [((pickN (zs k) n : Nat) : Int)]) (by unfold maxLen; omega) (by omega) (by simp; omega) ?_; intro v' w2 hown' hgrow hnil)
        go_roundw
        case rel =>
          refine ⟨k + 1, by omega, by omega, by go_num, ?_, upd_grown (HU.out.alloc _) hgrow (fun g hg => (HO.out.lt g hg).1)⟩
          have := hown'
          rwa [iv_succ (fun i => (pickN (zs i) n : Int)) k] at this
        case measure => simp [intOf]; omega
      · go_wp2
        go_ret
        refine ⟨⟨_, rfl, ?_⟩, HU.out⟩
        rw [show someN m = k by unfold someN; split <;> omega]
        exact HO.out
    · have hd : decide (k < m) = false := by simpa using hlt
      go_wp2
      go_ret
      refine ⟨⟨_, rfl, ?_⟩, HU.out⟩
      rw [show someN m = k by unfold someN; split <;> omega]
      exact HO.out

set_option maxRecDepth 100000 in
set_option maxHeartbeats 1000000 in
theorem some_nil (o : Option Addr) (cap n : Nat) (w : World) :
    Calls Try.prog 23 #[.slice o 0 cap, .int .i64 n] w fun e w' => e = .returned (.slice none 0 0) ∧ w' = w := by
  go_enter Try.func23, Try.ntmps23
  go_wp2
  go_loop [5, 6] (fun l i => i = .int .i64 0 ∧ l = .slice none 0 0) (fun _ _ => 0)
  case atStart => exact ⟨rfl, rfl⟩
  case round =>
    obtain ⟨rfl, rfl⟩ := hrel
    go_wp2
    go_ret
    exact ⟨rfl, rfl⟩

/-- raw numbers as Go hands them over -/
def RawAt (w : World) (v : Value) (m : Nat) (zs : Nat → Int) : Prop :=
  (∃ o cap, v = .slice o 0 cap ∧ m = 0) ∨ ∃ a off cap, v = .slice (some ⟨a, off, none⟩) m cap ∧ m ≤ maxLen ∧ a < w.heap.size ∧ ∀ i, i < m → w.cell? ⟨a, off + i, none⟩ = some (.int .i64 (zs i)) ∧ -9223372036854775808 ≤ zs i ∧ zs i ≤ 9223372036854775807

theorem some_any (m n : Nat) (v : Value) (k : Int) (zs : Nat → Int) (w : World) (ek : k = n) (hn : 0 < n) (hn2 : n ≤ 100) (hv : RawAt w v m zs) :
    Calls Try.prog 23 #[v, .int .i64 k] w fun e w' =>
      (∃ v, e = .returned v ∧ w'.ownsRow w.heap.size 3 1 v (someN m) (iv (fun i => pickN (zs i) n) (someN m))) ∧ Upd no w w' := by
  subst ek
  rcases hv with ⟨o, cap, rfl, rfl⟩ | ⟨a, off, cap, rfl, hm, ha, hz⟩
  · refine (some_nil o cap n w).mono ?_
    rintro e w' ⟨rfl, rfl⟩
    exact ⟨⟨_, rfl, World.ownsRow_nil _ _ _ _⟩, Upd.refl _ _⟩
  · exact some_some a off m cap n zs w hn hn2 hm ha hz

theorem someN_le (m : Nat) : someN m ≤ 200 := by unfold someN; split <;> omega

end Go.Proofs.Ytobniidkkmlilaa
