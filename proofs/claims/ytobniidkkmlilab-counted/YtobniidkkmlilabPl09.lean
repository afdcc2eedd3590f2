import Derived.Test.YtobniidkkmlilabPl08

/- The walks: a new set. -/
namespace Go.Proofs.Ytobniidkkmlilab
open Go.RowKit Go.Coh

def no : Nat → Nat → Prop := fun _ _ => False

/-- A set as 25 cells. -/
structure ArrSet (cs : Array Value) (n : Nat) (L A R : Nat → Int) : Prop where
  size : cs.size = 25
  c0 : cs[0]? = some (.int .i64 n)
  ln : ∀ j, j < 8 → cs[1 + j]? = some (.int .i64 (L j))
  ag : ∀ j, j < 8 → cs[9 + j]? = some (.int .i64 (A j))
  rk : ∀ j, j < 8 → cs[17 + j]? = some (.int .i64 (R j))

theorem ArrSet.int {cs : Array Value} {n : Nat} {L A R : Nat → Int} (h : ArrSet cs n L A R) (i : Nat) (hi : i < 25) : ∃ v : Int, cs[i]? = some (.int .i64 v) := by
  by_cases h0 : i = 0
  · subst h0; exact ⟨_, h.c0⟩
  · by_cases h1 : i < 9
    · exact ⟨_, by have := h.ln (i - 1) (by omega); rwa [show 1 + (i - 1) = i by omega] at this⟩
    · by_cases h2 : i < 17
      · exact ⟨_, by have := h.ag (i - 9) (by omega); rwa [show 9 + (i - 9) = i by omega] at this⟩
      · exact ⟨_, by have := h.rk (i - 17) (by omega); rwa [show 17 + (i - 17) = i by omega] at this⟩

theorem ArrSet.one {cs : Array Value} {n : Nat} {L A R : Nat → Int} (h : ArrSet cs n L A R) : cs.all (·.oneCell') = true := by
  rw [Array.all_eq_true]
  intro i hi
  obtain ⟨v, hv⟩ := h.int i (by rw [← h.size]; exact hi)
  rw [Array.getElem?_eq_getElem hi] at hv
  injection hv with hv
  rw [hv]; rfl

theorem ArrSet.at {w : World} {b : Nat} {t : TypeId} {cs : Array Value} {n : Nat} {L A R : Nat → Int} (h : ArrSet cs n L A R) (hb : w.heap[b]? = some (.cells cs t (0, 0))) : SetAt w b 0 n L A R := by
  have hc : ∀ j, w.cell? ⟨b, j, none⟩ = cs[j]? := fun j => by simp [World.cell?, hb]
  have hf : ∀ j, w.frozen? ⟨b, j, none⟩ = false := fun j => by simp [World.frozen?, hb]
  exact ⟨by rw [hc]; exact h.c0, fun j hj => ⟨by rw [hc, Nat.zero_add]; exact h.ln j hj, hf _⟩, fun j hj => ⟨by rw [hc, Nat.zero_add]; exact h.ag j hj, hf _⟩, fun j hj => ⟨by rw [hc, Nat.zero_add]; exact h.rk j hj, hf _⟩⟩

theorem SetAt.arr {w : World} {b : Nat} {t : TypeId} {fr : Nat × Nat} {cs : Array Value} {n : Nat} {L A R : Nat → Int} (h : SetAt w b 0 n L A R) (hb : w.heap[b]? = some (.cells cs t fr)) (hs : cs.size = 25) : ArrSet cs n L A R := by
  have hc : ∀ j, w.cell? ⟨b, j, none⟩ = cs[j]? := fun j => by simp [World.cell?, hb]
  exact ⟨hs, by rw [← hc]; exact h.cnt, fun j hj => by rw [← hc]; simpa using h.ln.c j hj, fun j hj => by rw [← hc]; simpa using h.ag.c j hj, fun j hj => by rw [← hc]; simpa using h.rk.c j hj⟩

def blank (n : Int) : Array Value := #[.int .i64 n, .int .i64 0, .int .i64 0, .int .i64 0, .int .i64 0, .int .i64 0, .int .i64 0, .int .i64 0, .int .i64 0, .int .i64 0, .int .i64 0, .int .i64 0, .int .i64 0, .int .i64 0, .int .i64 0, .int .i64 0, .int .i64 0, .int .i64 0, .int .i64 0, .int .i64 0, .int .i64 0, .int .i64 0, .int .i64 0, .int .i64 0, .int .i64 0]
theorem blank_arr (n : Nat) : ArrSet (blank n) n (fun _ => 0) (fun _ => 0) (fun _ => 0) := by
  refine ⟨rfl, rfl, ?_, ?_, ?_⟩ <;>
  · intro j hj
    match j, hj with
    | 0, _ | 1, _ | 2, _ | 3, _ | 4, _ | 5, _ | 6, _ | 7, _ => rfl

set_option maxHeartbeats 1000000 in
theorem New_any (n : Nat) (w : World) (hn : Size n) :
    Calls Try.prog 57 #[.int .i64 n] w fun e w' => (∃ cs, e = .returned (.agg cs) ∧ ArrSet cs n (newL n) (newA n) (fun _ => 0)) ∧ Upd no w w' := by
  have hn8 : n ≤ 8 ∧ 0 < n := by rcases hn with h | h | h | h <;> omega
  have HN : Hid (Size n) := hn
  clear hn
  go_enter Try.func57, Try.ntmps57
  go_wp2_with fail
  refine (possible_any _ _ (by omega) (by omega)).mono ?_
  rintro e w1 ⟨rfl, rfl⟩
  dsimp only
  iterate 7 (first | go_values | go_skip | go_guarded | go_step | go_upon)
  refine wpList_store_row rfl 58 _ _ rfl (w.heap.size + 1) (blank n) (by rfl) (by rfl) 58 (blank 0) (heap_alloc2_new w _ _) (by kernel_rfl) (by rfl) (blank_arr n).one ?_
  have ha1 := heap_alloc2_new w (.cells (blank 0) 58) (.cells (blank 0) 58)
  have hb0 : ((w.alloc (.cells (blank 0) 58)).alloc (.cells (blank 0) 58)).heap[w.heap.size]? = some (.cells (blank 0) 58) := by
    rw [Below.heap_alloc _ _ _ (by simp), heap_alloc_new]
  have HU : Hid (Upd no w ((((w.alloc (.cells (blank 0) 58)).alloc (.cells (blank 0) 58))).setRow (w.heap.size + 1) (blank n))) := (((Upd.refl no w).alloc _).alloc _).setRowAll ha1 rfl (fun h => absurd h (by omega))
  have HS := (blank_arr n).at (setRow_heap _ _ _ (blank n) _ _ ha1)
  have HB : Hid ((((w.alloc (.cells (blank 0) 58)).alloc (.cells (blank 0) 58)).setRow (w.heap.size + 1) (blank n)).heap[w.heap.size + 1]? = some (.cells (blank n) 58)) := setRow_heap _ _ _ (blank n) _ _ ha1
  have HB0 : Hid ((((w.alloc (.cells (blank 0) 58)).alloc (.cells (blank 0) 58)).setRow (w.heap.size + 1) (blank n)).heap[w.heap.size]? = some (.cells (blank 0) 58)) := by
    show (World.setRow _ _ _).heap[_]? = _
    simp only [World.setRow, Array.getElem?_modify]
    rw [if_neg (by omega)]
    exact hb0
  have HZ : Hid ((((w.alloc (.cells (blank 0) 58)).alloc (.cells (blank 0) 58)).setRow (w.heap.size + 1) (blank n)).heap.size = w.heap.size + 2) := by show _ = _; simp
  clear ha1 hb0
  change wpList _ _ _ _ _ (((w.alloc (.cells (blank 0) 58)).alloc (.cells (blank 0) 58)).setRow (w.heap.size + 1) (blank n))
  generalize ((w.alloc (.cells (blank 0) 58)).alloc (.cells (blank 0) 58)).setRow (w.heap.size + 1) (blank n) = w2 at *
  generalize hN : w.heap.size = N at *
  have HNN : Hid (w.heap.size = N) := hN
  clear hN
  have HSS : Hid (SetAt w2 (N + 1) 0 n (fun _ => 0) (fun _ => 0) (fun _ => 0)) := HS
  clear HS
  go_wp2
  go_loopw [4] (fun i wr => ∃ k : Nat, k ≤ n ∧ i = .int .i64 k ∧ SetAt wr (N + 1) 0 n (newL k) (newA k) (fun _ => 0) ∧ Upd (rowS (N + 1) 0 25) w2 wr) (fun i _ => n - (intOf i).toNat)
  case atStart => exact ⟨0, Nat.zero_le _, rfl, HSS.out.congr (fun j _ => by simp [newL]) (fun j _ => by simp [newA]) (fun _ _ => rfl), Upd.refl _ _⟩
  case round =>
    obtain ⟨k, hk, rfl, hs, hu⟩ := hrel
    have hc := hs.cnt
    have HS : Hid (SetAt wr (N + 1) 0 n (newL k) (newA k) (fun _ => 0)) := hs
    have HU2 : Hid (Upd (rowS (N + 1) 0 25) w2 wr) := hu
    clear hs hu
    by_cases hlt : k < n
    · have hlk := HS.out.ln.c k (by omega)
      have hlf := HS.out.ln.f k (by omega)
      have hak := HS.out.ag.c k (by omega)
      have haf := HS.out.ag.f k (by omega)
      rw [Nat.zero_add] at hlk hlf hak haf
      go_wp2
      go_roundw
      case rel =>
        have h2 := (HS.out.setL (i := k) (by omega) (-1)).setA (i := k) (by omega) k
        have u2 := upd_at (upd_at HU2.out (o := 0 + 1 + k) (by omega) (.int .i64 (-1))) (o := 0 + 9 + k) (by omega) (.int .i64 k)
        rw [Nat.zero_add, Nat.zero_add] at h2 u2
        refine ⟨k + 1, by omega, by go_num, h2.congr (fun j hj => ?_) (fun j hj => ?_) (fun _ _ => rfl), u2⟩
        · unfold upd newL
          by_cases e : j = k
          · subst e; rw [if_pos rfl, if_pos (by omega)]
          · rw [if_neg e]
            by_cases e2 : j < k
            · rw [if_pos e2, if_pos (by omega)]
            · rw [if_neg e2, if_neg (by omega)]
        · unfold upd newA
          by_cases e : j = k
          · subst e; rw [if_pos rfl, if_pos (by omega)]
          · rw [if_neg e]
            by_cases e2 : j < k
            · rw [if_pos e2, if_pos (by omega)]
            · rw [if_neg e2, if_neg (by omega)]
      case measure => simp [intOf]; omega
    · have hkn : k = n := by omega
      subst hkn
      obtain ⟨cs, hcs, hsz, _⟩ := HU2.out.cells (N + 1) _ _ _ HB.out
      have harr := HS.out.arr hcs hsz
      obtain ⟨c0, hc0, hz0, hc0'⟩ := HU2.out.cells N _ _ _ HB0.out
      have HC : Hid (wr.heap[N + 1]? = some (.cells cs 58 (0, 0))) := hcs
      have HC0 : Hid (wr.heap[N]? = some (.cells c0 58 (0, 0))) := hc0
      have hz : cs.size = 25 := hsz
      have hz' : c0.size = 25 := hz0
      have HARR : Hid (ArrSet cs k (newL k) (newA k) fun _ => 0) := harr
      clear hcs hc0 harr hc0' hsz hz0
      go_wp2_with (first
        | (refine wpList_load_row rfl 58 _ rfl (N + 1) (by rfl) 58 cs (0, 0) _ HC.out Try.underlying58 rfl (by rw [hz]; kernel_rfl) ?_)
        | (refine wpList_store_row rfl 58 _ _ rfl N cs (by rfl) (by rfl) 58 c0 HC0.out (by rw [hz]; kernel_rfl) (hz'.trans hz.symm) HARR.out.one ?_))
      refine bodyPost_ret (v := .agg cs) (results_cell_row Try.results57 _ _ N 58 cs (0, 0) _ rfl (setRow_heap _ _ _ cs _ _ HC0.out) Try.underlying58 rfl (by rw [hz]; kernel_rfl)) rfl ⟨⟨cs, rfl, HARR.out⟩, ?_⟩
      have hall : Upd (fun k _ => N ≤ k) w2 (wr.setRow N cs) := (HU2.out.mono (fun k o h => by have := h.1; omega)).setRowAll HC0.out (hz.trans hz'.symm) (fun _ _ => Nat.le_refl _)
      exact ((HU.out.mono (fun _ _ h => h.elim)).trans hall).shrink (fun k o hk h => by have := HNN.out; omega)

end Go.Proofs.Ytobniidkkmlilab

/- The walks: one touch. -/
namespace Go.Proofs.Ytobniidkkmlilab
open Go.RowKit Go.Coh

/-- Two rows that don't meet. -/
def Apart (b off n b' off' n' : Nat) : Prop := b ≠ b' ∨ off + n ≤ off' ∨ off' + n' ≤ off

/-- the set's cells and the count's -/
def twoS (b off b2 off2 : Nat) : Nat → Nat → Prop := fun k o => rowS b off 25 k o ∨ rowS b2 off2 1 k o

theorem apart_no {b off n b' off' n' : Nat} (h : Apart b off n b' off' n') : ∀ j, j < n → ¬ rowS b' off' n' b (off + j) := fun j hj hr => by
  obtain ⟨h1, h2, h3⟩ := hr
  rcases h with h | h | h
  · exact h h1
  · omega
  · omega
theorem Apart.symm {b off n b' off' n' : Nat} (h : Apart b off n b' off' n') : Apart b' off' n' b off n := by
  rcases h with h | h | h
  · exact .inl fun e => h e.symm
  · exact .inr (.inr h)
  · exact .inr (.inl h)

/-- what a touch leaves in memory -/
structure StAt (w : World) (b off b2 off2 n : Nat) (s : St) : Prop where
  set : SetAt w b off n s.L s.A s.R
  cnt : HoldsF w b2 off2 1 (fun _ => s.c)

theorem StAt.of_upd {S : Nat → Nat → Prop} {w w' : World} {b off b2 off2 n : Nat} {s : St} (h : StAt w b off b2 off2 n s) (u : Upd S w w') (h1 : ∀ j, j < 25 → ¬ S b (off + j)) (h2 : ¬ S b2 off2) : StAt w' b off b2 off2 n s :=
  ⟨h.set.of_upd u h1, h.cnt.of_upd u (fun j hj => by rw [show j = 0 by omega]; exact h2)⟩

def blankT : Array Value := #[.bool false, .int .i64 0, .int .i64 0]

def tv (t : Tch) : Array Value := #[.bool t.hit, .int .i64 t.way, .int .i64 t.out]

theorem tv_one (t : Tch) : (tv t).all (·.oneCell') = true := by simp [tv, Value.oneCell']

set_option maxHeartbeats 1000000 in
theorem touch29 (b off b2 off2 n p : Nat) (x : Int) (s : St) (w : World) (hn : Size n) (hb : Bd s) (hap : Apart b off 25 b2 off2 1) (H : StAt w b off b2 off2 n s) :
    Calls Try.prog 63 #[.pointer (some ⟨b, off, none⟩), .int .i64 p, .pointer (some ⟨b2, off2, none⟩), .int .i64 x] w fun e w' =>
      e = .returned (.agg (tv (tchT p n x s))) ∧ StAt w' b off b2 off2 n (tchS p n x s) ∧ Upd (twoS b off b2 off2) w w' := by
  have hn8 : n ≤ 8 ∧ 0 < n := by rcases hn with h | h | h | h <;> omega
  have HN : Hid (Size n) := hn
  have HB : Hid (Bd s) := hb
  have HAP : Hid (Apart b off 25 b2 off2 1) := hap
  have hbl : b < w.heap.size := H.set.ln.lt (by omega)
  have hbl2 : b2 < w.heap.size := H.cnt.lt (by omega)
  have H0 : Hid (StAt (w.alloc (.cells #[.bool false, .int .i64 0, .int .i64 0] 90)) b off b2 off2 n s) :=
    H.of_upd ((Upd.refl no w).alloc _) (fun _ _ h => h) (fun h => h)
  clear hn hb hap H
  cases hf : findN s.L x n with
  | some k =>
    have HF : Hid (findN s.L x n = some k) := hf
    have hk : k < n := (findN_some.1 hf).1
    have HT : Hid (tchT p n x s = ⟨true, k, -1⟩) := by unfold tchT; rw [hf]; rfl
    have HS : Hid (tchS p n x s = ⟨s.L, touchA n k s.A, upd s.R k 0, s.c⟩) := by unfold tchS; rw [hf]; rfl
    rw [HT.out, HS.out]
    clear hf HT HS
    have hne : ((k : Int) != -1) = true := by simp
    go_enter Try.func63, Try.ntmps63
    go_wp2_with fail
    refine (Find_any b off n _ _ _ _ _ hn8.1 H0.out.set).mono ?_
    rintro e w1 ⟨rfl, rfl⟩
    rw [HF.out]
    simp only [oi]
    go_wp2_with fail
    refine (Found_any b off n k _ _ _ _ hn8.1 hk HB.out.a H0.out.set).mono ?_
    rintro e w2 ⟨rfl, hs, hu⟩
    have hr : w2.heap[w.heap.size]? = some (.cells blankT 90) := by
      rw [hu.block (by simp) (fun o ho => by have := ho.1; omega)]; exact heap_alloc_new _ _
    have HR : Hid (w2.heap[w.heap.size]? = some (.cells blankT 90)) := hr
    have HC := H0.out.cnt.of_upd hu (apart_no HAP.out.symm)
    have HST : Hid (StAt (w2.setRow w.heap.size (tv ⟨true, k, -1⟩)) b off b2 off2 n ⟨s.L, touchA n k s.A, upd s.R k 0, s.c⟩) := by
      have hh : StAt w2 b off b2 off2 n ⟨s.L, touchA n k s.A, upd s.R k 0, s.c⟩ := ⟨hs, HC⟩
      exact hh.of_upd (S := fun k _ => k = w.heap.size) ((Upd.refl _ _).setRowAll hr rfl (fun _ _ => rfl)) (fun j hj h => by omega) (fun h => by omega)
    have HU : Hid (Upd (twoS b off b2 off2) w (w2.setRow w.heap.size (tv ⟨true, k, -1⟩))) :=
      ((((Upd.refl (fun k o => twoS b off b2 off2 k o ∨ w.heap.size ≤ k) w).alloc _).trans (hu.mono (fun _ _ h => .inl (.inl h)))).setRowAll (cs := tv ⟨true, k, -1⟩) hr rfl (fun h => absurd h (Nat.lt_irrefl _))).shrink (fun k o hk h => by
        rcases h with h | h
        · exact h
        · omega)
    clear hs hu hr HC
    go_wp2_with (refine wpList_store_row rfl 90 _ _ rfl w.heap.size (tv ⟨true, k, -1⟩) (by rfl) (by rfl) 90 blankT HR.out (by kernel_rfl) (by rfl) (tv_one _) ?_)
    refine bodyPost_ret (v := .agg (tv ⟨true, k, -1⟩)) (results_cell_row Try.results63 _ _ w.heap.size 90 (tv ⟨true, k, -1⟩) (0, 0) _ rfl (setRow_heap _ _ _ _ _ _ HR.out) Try.underlying90 rfl (by kernel_rfl)) rfl ⟨rfl, HST.out, HU.out⟩
  | none =>
    have HF : Hid (findN s.L x n = none) := hf
    have HT : Hid (tchT p n x s = ⟨false, putW p n s.L s.A s.R, s.L (putW p n s.L s.A s.R)⟩) := by unfold tchT; rw [hf]; rfl
    have HS : Hid (tchS p n x s = ⟨upd s.L (putW p n s.L s.A s.R) x, touchA n (putW p n s.L s.A s.R) s.A, upd (putR p n s.L s.R) (putW p n s.L s.A s.R) (nextRank p s.c), nextCount p s.c⟩) := by unfold tchS; rw [hf]; rfl
    rw [HT.out, HS.out]
    clear hf HT HS
    generalize hv : putW p n s.L s.A s.R = k at *
    have HV : Hid (putW p n s.L s.A s.R = k) := hv
    clear hv
    go_enter Try.func63, Try.ntmps63
    go_wp2_with fail
    refine (Find_any b off n _ _ _ _ _ hn8.1 H0.out.set).mono ?_
    rintro e w1 ⟨rfl, rfl⟩
    rw [HF.out]
    simp only [oi]
    go_wp2_with fail
    refine (Next_any b2 off2 p s.c _ HB.out.c.1 HB.out.c.2 H0.out.cnt).mono ?_
    rintro e w2 ⟨rfl, hc2, hu2⟩
    have HC2 : Hid (HoldsF w2 b2 off2 1 (fun _ => nextCount p s.c)) := hc2
    have HU2 : Hid (Upd (rowS b2 off2 1) (w.alloc (Obj.cells #[Value.bool false, Value.int IntKind.i64 0, Value.int IntKind.i64 0] 90)) w2) := hu2
    clear hc2 hu2
    go_wp2_with fail
    refine (Put_any b off n p x _ _ _ _ _ HN.out HB.out.a HB.out.r (H0.out.set.of_upd HU2.out (apart_no HAP.out))).mono ?_
    rintro e w3 ⟨rfl, hs, hu⟩
    rw [HV.out] at hs ⊢
    have hr : w3.heap[w.heap.size]? = some (.cells blankT 90) := by
      rw [hu.block (by have := HU2.out.size; simp at this; omega) (fun o ho => by have := ho.1; omega), HU2.out.block (by simp) (fun o ho => by have := ho.1; omega)]; exact heap_alloc_new _ _
    have HR : Hid (w3.heap[w.heap.size]? = some (.cells blankT 90)) := hr
    have HC := HC2.out.of_upd hu (apart_no HAP.out.symm)
    have HST : Hid (StAt (w3.setRow w.heap.size (tv ⟨false, k, s.L k⟩)) b off b2 off2 n ⟨upd s.L k x, touchA n k s.A, upd (putR p n s.L s.R) k (nextRank p s.c), nextCount p s.c⟩) := by
      have hh : StAt w3 b off b2 off2 n ⟨upd s.L k x, touchA n k s.A, upd (putR p n s.L s.R) k (nextRank p s.c), nextCount p s.c⟩ := ⟨hs, HC⟩
      exact hh.of_upd (S := fun k _ => k = w.heap.size) ((Upd.refl _ _).setRowAll hr rfl (fun _ _ => rfl)) (fun j hj h => by omega) (fun h => by omega)
    have HU : Hid (Upd (twoS b off b2 off2) w (w3.setRow w.heap.size (tv ⟨false, k, s.L k⟩))) :=
      (((((Upd.refl (fun k o => twoS b off b2 off2 k o ∨ w.heap.size ≤ k) w).alloc _).trans (HU2.out.mono (fun _ _ h => .inl (.inr h)))).trans (hu.mono (fun _ _ h => .inl (.inl h)))).setRowAll (cs := tv ⟨false, k, s.L k⟩) hr rfl (fun h => absurd h (Nat.lt_irrefl _))).shrink (fun k o hk h => by
        rcases h with h | h
        · exact h
        · omega)
    clear hs hu hr HC
    go_wp2_with (refine wpList_store_row rfl 90 _ _ rfl w.heap.size (tv ⟨false, k, s.L k⟩) (by rfl) (by rfl) 90 blankT HR.out (by kernel_rfl) (by rfl) (tv_one _) ?_)
    refine bodyPost_ret (v := .agg (tv ⟨false, k, s.L k⟩)) (results_cell_row Try.results63 _ _ w.heap.size 90 (tv ⟨false, k, s.L k⟩) (0, 0) _ rfl (setRow_heap _ _ _ _ _ _ HR.out) Try.underlying90 rfl (by kernel_rfl)) rfl ⟨rfl, HST.out, HU.out⟩

end Go.Proofs.Ytobniidkkmlilab
