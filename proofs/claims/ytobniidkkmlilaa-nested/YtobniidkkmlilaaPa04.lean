import Derived.Test.YtobniidkkmlilaaPa03

/- The walks over package set: ranks, the victim, a line put in, a new set. -/
namespace Go.Proofs.Ytobniidkkmlilaa
open Go.RowKit Go.Coh

set_option maxHeartbeats 1000000 in
theorem highest_any (b off n : Nat) (L A R : Nat → Int) (w : World) (hn : n ≤ 8) (hn0 : 0 < n) (hR : ∀ j, 0 ≤ R j ∧ R j ≤ 3) (H : SetAt w b off n L A R) :
    Calls Try.prog 121 #[.pointer (some ⟨b, off, none⟩)] w fun e w' => e = .returned (.int .i64 (oldestW n R : Nat)) ∧ SetAt w' b off n L A (liftR n (3 - R (oldestW n R)) R) ∧ Upd (rowS b off 25) w w' := by
  have hc := H.cnt
  have hl := H.rk
  have HH : Hid (SetAt w b off n L A R) := H
  have HB : Hid (∀ j, 0 ≤ R j ∧ R j ≤ 3) := hR
  clear H hR
  go_enter Try.func121, Try.ntmps121
  go_wp2
  go_loopw [3, 4] (fun r i wr => ∃ k q : Nat, k ≤ n ∧ r = .int .i64 (argm (fun i j => decide (R j < R i)) 0 k : Nat) ∧ i = .int .i64 k ∧ wr = w.drewN q) (fun _ i _ => n - (intOf i).toNat)
  case atStart => exact ⟨0, 0, Nat.zero_le _, rfl, rfl, rfl⟩
  case round =>
    obtain ⟨k, q, hk, rfl, rfl, rfl⟩ := hrel
    have hlr := argm_lt (fun i j => decide (R j < R i)) 0 k n (by omega) hn0
    have HS : Hid (argm (fun i j => decide (R j < R i)) 0 (k + 1) = if decide (R (argm (fun i j => decide (R j < R i)) 0 k) < R k) then k else argm (fun i j => decide (R j < R i)) 0 k) := by
      show (if _ then _ else _) = _
      simp only [Nat.zero_add]
    by_cases hlt : k < n
    · have hlk := hl.c k (by omega)
      have hla := hl.c (argm (fun i j => decide (R j < R i)) 0 k) (by omega)
      generalize argm (fun i j => decide (R j < R i)) 0 k = r at *
      go_wp2
      go_quiet (fail)
      go_wp2
      all_goals
        go_roundw
        case rel => exact ⟨k + 1, _, by omega, by rw [HS.out]; first | rw [if_pos (decide_eq_true ‹_›)] | rw [if_neg (by simp only [decide_eq_true_eq]; omega)], by go_num, rfl⟩
        case measure => simp [intOf]; omega
    · have HR : Hid (oldestW n R = argm (fun i j => decide (R j < R i)) 0 k) := by rw [show k = n from by omega]; rfl
      clear HS
      generalize argm (fun i j => decide (R j < R i)) 0 k = r at *
      have hr := hl.c r (by omega)
      have hbr := HB.out r
      clear hl
      go_wp2
      go_loopw [6] (fun i wr => ∃ k : Nat, k ≤ n ∧ i = .int .i64 k ∧ SetAt wr b off n L A (liftR k (3 - R r) R) ∧ Upd (rowS b off 25) w wr) (fun i _ => n - (intOf i).toNat)
      case atStart => exact ⟨0, Nat.zero_le _, rfl, (HH.out.drewN q).congr (fun _ _ => rfl) (fun _ _ => rfl) (fun j _ => by simp [liftR]), (Upd.refl _ _).drewN q⟩
      case round =>
        obtain ⟨i, hi, rfl, hs, hu⟩ := hrel
        have hc' := hs.cnt
        have HS : Hid (SetAt wr b off n L A (liftR i (3 - R r) R)) := hs
        have HU : Hid (Upd (rowS b off 25) w wr) := hu
        clear hs hu
        by_cases hlt : i < n
        · have hak := HS.out.rk.c i (by omega)
          have hfk := HS.out.rk.f i (by omega)
          have hbk := HB.out i
          have ek : liftR i (3 - R r) R i = R i := by simp [liftR]
          rw [ek] at hak
          clear ek
          go_wp2
          go_region
          all_goals go_wp2
          all_goals
            go_roundw
            case rel =>
              refine ⟨i + 1, by omega, by go_num, ((HS.out.setR (by omega) (R i + (3 - R r))).congr (fun _ _ => rfl) (fun _ _ => rfl) (fun j hj => ?_)).drew, (upd_at HU.out (by omega) _).drew⟩
              unfold upd liftR
              by_cases hjk : j = i
              · subst hjk; rw [if_pos rfl, if_pos (by omega)]
              · rw [if_neg hjk]
                by_cases hj2 : j < i
                · rw [if_pos hj2, if_pos (by omega)]
                · rw [if_neg hj2, if_neg (by omega)]
            case measure => simp [intOf]; omega
        · go_wp2
          go_ret
          refine ⟨ret_int (by rw [HR.out]), ?_, HU.out⟩
          rw [HR.out]
          rw [show n = i from by omega]
          have := HS.out
          rwa [show n = i from by omega] at this

set_option maxHeartbeats 1000000 in
theorem victim_any (b off n p : Nat) (L A R : Nat → Int) (w : World) (hn : Size n) (hR : ∀ j, 0 ≤ R j ∧ R j ≤ 3) (H : SetAt w b off n L A R) :
    Calls Try.prog 115 #[.pointer (some ⟨b, off, none⟩), .int .i64 p] w fun e w' => e = .returned (.int .i64 (victimW p n A R : Nat)) ∧ SetAt w' b off n L A (victimR p n R) ∧ Upd (rowS b off 25) w w' := by
  have hn8 : n ≤ 8 ∧ 0 < n := by rcases hn with h | h | h | h <;> omega
  have HH : Hid (SetAt w b off n L A R) := H
  have HB : Hid (∀ j, 0 ≤ R j ∧ R j ≤ 3) := hR
  have HN : Hid (Size n) := hn
  clear H hR hn
  by_cases h0 : p = 0
  · subst h0
    go_enter Try.func115, Try.ntmps115
    go_wp2_with fail
    refine (oldest_any b off n L A R _ hn8.1 hn8.2 HH.out).mono ?_
    rintro e w1 ⟨rfl, q, rfl⟩
    go_wp2
    go_ret
    exact ⟨rfl, HH.out.drewN q, (Upd.refl _ _).drewN q⟩
  · have e0 : ((p : Int) == 0) = false := by simp; omega
    by_cases h1 : p = 1
    · subst h1
      go_enter Try.func115, Try.ntmps115
      go_wp2_with fail
      refine (leaf_any b off n L A R _ HN.out HH.out).mono ?_
      rintro e w1 ⟨rfl, q, rfl⟩
      go_wp2
      go_ret
      exact ⟨rfl, HH.out.drewN q, (Upd.refl _ _).drewN q⟩
    · have e1 : ((p : Int) == 1) = false := by simp; omega
      go_enter Try.func115, Try.ntmps115
      go_wp2_with fail
      refine (highest_any b off n L A R _ hn8.1 hn8.2 HB.out HH.out).mono ?_
      rintro e w1 ⟨rfl, hs, hu⟩
      go_wp2
      go_ret
      refine ⟨ret_int (by simp [victimW, h0, h1]), ?_, hu⟩
      have : victimR p n R = liftR n (3 - R (oldestW n R)) R := by simp [victimR, h0, h1]
      rw [this]; exact hs

end Go.Proofs.Ytobniidkkmlilaa

/- The walks over package set: a line put in, a new set. -/
namespace Go.Proofs.Ytobniidkkmlilaa
open Go.RowKit Go.Coh

set_option maxHeartbeats 1000000 in
theorem Put_any (b off n p : Nat) (x r : Int) (L A R : Nat → Int) (w : World) (hn : Size n) (hA : ∀ j, 0 ≤ A j ∧ A j ≤ 100) (hR : ∀ j, 0 ≤ R j ∧ R j ≤ 3) (H : SetAt w b off n L A R) :
    Calls Try.prog 95 #[.pointer (some ⟨b, off, none⟩), .int .i64 p, .int .i64 x, .int .i64 r] w fun e w' =>
      e = .returned (.tuple #[.int .i64 (putW p n L A R : Nat), .int .i64 (L (putW p n L A R))]) ∧
      SetAt w' b off n (upd L (putW p n L A R) x) (touchA n (putW p n L A R) A) (upd (putR p n L R) (putW p n L A R) r) ∧ Upd (rowS b off 25) w w' := by
  have hn8 : n ≤ 8 ∧ 0 < n := by rcases hn with h | h | h | h <;> omega
  have hlt := putW_lt (p := p) L A R hn
  have HH : Hid (SetAt w b off n L A R) := H
  have HA : Hid (∀ j, 0 ≤ A j ∧ A j ≤ 100) := hA
  have HB : Hid (∀ j, 0 ≤ R j ∧ R j ≤ 3) := hR
  have HN : Hid (Size n) := hn
  clear H hA hR hn
  cases hf : findN L (-1) n with
  | some k =>
    have HW : Hid (putW p n L A R = k) := by unfold putW; rw [hf]; rfl
    have HP : Hid (putR p n L R = R) := by unfold putR; rw [hf]; rfl
    have HF : Hid (findN L (-1) n = some k) := hf
    rw [HW.out, HP.out]
    rw [HW.out] at hlt
    clear hf HP HW
    have hl := HH.out.ln.c k (by omega)
    have hlf := HH.out.ln.f k (by omega)
    have hr := HH.out.rk.c k (by omega)
    have hrf := HH.out.rk.f k (by omega)
    go_enter Try.func95, Try.ntmps95
    go_wp2_with fail
    refine (Find_any b off n _ L A R _ hn8.1 HH.out).mono ?_
    rintro e w1 ⟨rfl, rfl⟩
    rw [HF.out]
    simp only [oi]
    go_wp2_with fail
    refine (touch_int b off n k _ _ _ _ _ rfl hn8.1 hlt HA.out ((HH.out.setL (by omega) x).setR (by omega) r)).mono ?_
    rintro e w2 ⟨rfl, hs, hu⟩
    have HS : Hid (SetAt w2 b off n (upd L k x) (touchA n k A) (upd R k r)) := hs
    have HU : Hid (Upd (rowS b off 25) w1 w2) := (upd_at (upd_at (Upd.refl _ _) (by omega) _) (by omega) _).trans hu
    clear hs hu
    go_wp2
    go_ret2
    exact ⟨rfl, HS.out, HU.out⟩
  | none =>
    have HW : Hid (putW p n L A R = victimW p n A R) := by unfold putW; rw [hf]; rfl
    have HP : Hid (putR p n L R = victimR p n R) := by unfold putR; rw [hf]; rfl
    have HF : Hid (findN L (-1) n = none) := hf
    rw [HW.out, HP.out]
    rw [HW.out] at hlt
    clear hf HP HW
    generalize hv : victimW p n A R = k at *
    have HV : Hid (victimW p n A R = k) := hv
    clear hv
    go_enter Try.func95, Try.ntmps95
    go_wp2_with fail
    refine (Find_any b off n _ L A R _ hn8.1 HH.out).mono ?_
    rintro e w1 ⟨rfl, rfl⟩
    rw [HF.out]
    simp only [oi]
    go_wp2_with fail
    refine (victim_any b off n p L A R _ HN.out HB.out HH.out).mono ?_
    rintro e w2 ⟨rfl, hs, hu⟩
    rw [HV.out]
    have hl := hs.ln.c k (by omega)
    have hlf := hs.ln.f k (by omega)
    have hr := hs.rk.c k (by omega)
    have hrf := hs.rk.f k (by omega)
    have HS : Hid (SetAt w2 b off n L A (victimR p n R)) := hs
    have HU : Hid (Upd (rowS b off 25) w1 w2) := hu
    clear hs hu
    go_wp2_with fail
    refine (touch_int b off n k _ _ _ _ _ rfl hn8.1 hlt HA.out ((HS.out.setL (by omega) x).setR (by omega) r)).mono ?_
    rintro e w3 ⟨rfl, hs, hu⟩
    have HS3 : Hid (SetAt w3 b off n (upd L k x) (touchA n k A) (upd (victimR p n R) k r)) := hs
    have HU3 : Hid (Upd (rowS b off 25) w1 w3) := (upd_at (upd_at HU.out (by omega) _) (by omega) _).trans hu
    clear hs hu
    go_wp2
    go_ret2
    exact ⟨rfl, HS3.out, HU3.out⟩

end Go.Proofs.Ytobniidkkmlilaa

/- The walks: a new set. -/
namespace Go.Proofs.Ytobniidkkmlilaa
open Go.RowKit Go.Coh

def no : Nat → Nat → Prop := fun _ _ => False

/-- A set as 25 cells. -/
structure ArrSet (cs : Array Value) (n : Nat) (L A R : Nat → Int) : Prop where
  size : cs.size = 25
  c0 : cs[0]? = some (.int .i64 n)
  ln : ∀ j, j < 8 → cs[1 + j]? = some (.int .i64 (L j))
  ag : ∀ j, j < 8 → cs[9 + j]? = some (.int .i64 (A j))
  rk : ∀ j, j < 8 → cs[17 + j]? = some (.int .i64 (R j))

theorem ArrSet.int {cs : Array Value} {n : Nat} {L A R : Nat → Int} (h : ArrSet cs n L A R) (i : Nat) (hi : i < 25) : ∃ v : Int, cs[i]? = some (.int .i64 v) := by
  by_cases h0 : i = 0
  · subst h0; exact ⟨_, h.c0⟩
  · by_cases h1 : i < 9
    · exact ⟨_, by have := h.ln (i - 1) (by omega); rwa [show 1 + (i - 1) = i by omega] at this⟩
    · by_cases h2 : i < 17
      · exact ⟨_, by have := h.ag (i - 9) (by omega); rwa [show 9 + (i - 9) = i by omega] at this⟩
      · exact ⟨_, by have := h.rk (i - 17) (by omega); rwa [show 17 + (i - 17) = i by omega] at this⟩

theorem ArrSet.one {cs : Array Value} {n : Nat} {L A R : Nat → Int} (h : ArrSet cs n L A R) : cs.all (·.oneCell') = true := by
  rw [Array.all_eq_true]
  intro i hi
  obtain ⟨v, hv⟩ := h.int i (by rw [← h.size]; exact hi)
  rw [Array.getElem?_eq_getElem hi] at hv
  injection hv with hv
  rw [hv]; rfl

theorem ArrSet.at {w : World} {b : Nat} {t : TypeId} {cs : Array Value} {n : Nat} {L A R : Nat → Int} (h : ArrSet cs n L A R) (hb : w.heap[b]? = some (.cells cs t (0, 0))) : SetAt w b 0 n L A R := by
  have hc : ∀ j, w.cell? ⟨b, j, none⟩ = cs[j]? := fun j => by simp [World.cell?, hb]
  have hf : ∀ j, w.frozen? ⟨b, j, none⟩ = false := fun j => by simp [World.frozen?, hb]
  exact ⟨by rw [hc]; exact h.c0, fun j hj => ⟨by rw [hc, Nat.zero_add]; exact h.ln j hj, hf _⟩, fun j hj => ⟨by rw [hc, Nat.zero_add]; exact h.ag j hj, hf _⟩, fun j hj => ⟨by rw [hc, Nat.zero_add]; exact h.rk j hj, hf _⟩⟩

theorem SetAt.arr {w : World} {b : Nat} {t : TypeId} {fr : Nat × Nat} {cs : Array Value} {n : Nat} {L A R : Nat → Int} (h : SetAt w b 0 n L A R) (hb : w.heap[b]? = some (.cells cs t fr)) (hs : cs.size = 25) : ArrSet cs n L A R := by
  have hc : ∀ j, w.cell? ⟨b, j, none⟩ = cs[j]? := fun j => by simp [World.cell?, hb]
  exact ⟨hs, by rw [← hc]; exact h.cnt, fun j hj => by rw [← hc]; simpa using h.ln.c j hj, fun j hj => by rw [← hc]; simpa using h.ag.c j hj, fun j hj => by rw [← hc]; simpa using h.rk.c j hj⟩

def blank (n : Int) : Array Value := #[.int .i64 n, .int .i64 0, .int .i64 0, .int .i64 0, .int .i64 0, .int .i64 0, .int .i64 0, .int .i64 0, .int .i64 0, .int .i64 0, .int .i64 0, .int .i64 0, .int .i64 0, .int .i64 0, .int .i64 0, .int .i64 0, .int .i64 0, .int .i64 0, .int .i64 0, .int .i64 0, .int .i64 0, .int .i64 0, .int .i64 0, .int .i64 0, .int .i64 0]
theorem blank_arr (n : Nat) : ArrSet (blank n) n (fun _ => 0) (fun _ => 0) (fun _ => 0) := by
  refine ⟨rfl, rfl, ?_, ?_, ?_⟩ <;>
  · intro j hj
    match j, hj with
    | 0, _ | 1, _ | 2, _ | 3, _ | 4, _ | 5, _ | 6, _ | 7, _ => rfl

set_option maxHeartbeats 1000000 in
theorem New_any (n : Nat) (w : World) (hn : Size n) :
    Calls Try.prog 69 #[.int .i64 n] w fun e w' => (∃ cs, e = .returned (.agg cs) ∧ ArrSet cs n (newL n) (newA n) (fun _ => 0)) ∧ Upd no w w' := by
  have hn8 : n ≤ 8 ∧ 0 < n := by rcases hn with h | h | h | h <;> omega
  have HN : Hid (Size n) := hn
  clear hn
  go_enter Try.func69, Try.ntmps69
  go_wp2_with fail
  refine (possible_any _ _ (by omega) (by omega)).mono ?_
  rintro e w1 ⟨rfl, rfl⟩
  dsimp only
  iterate 7 (first | go_values | go_skip | go_guarded | go_step | go_upon)
  refine wpList_store_row rfl 108 _ _ rfl (w.heap.size + 1) (blank n) (by rfl) (by rfl) 108 (blank 0) (heap_alloc2_new w _ _) (by kernel_rfl) (by rfl) (blank_arr n).one ?_
  have ha1 := heap_alloc2_new w (.cells (blank 0) 108) (.cells (blank 0) 108)
  have hb0 : ((w.alloc (.cells (blank 0) 108)).alloc (.cells (blank 0) 108)).heap[w.heap.size]? = some (.cells (blank 0) 108) := by
    rw [Below.heap_alloc _ _ _ (by simp), heap_alloc_new]
  have HU : Hid (Upd no w ((((w.alloc (.cells (blank 0) 108)).alloc (.cells (blank 0) 108))).setRow (w.heap.size + 1) (blank n))) := (((Upd.refl no w).alloc _).alloc _).setRowAll ha1 rfl (fun h => absurd h (by omega))
  have HS := (blank_arr n).at (setRow_heap _ _ _ (blank n) _ _ ha1)
  have HB : Hid ((((w.alloc (.cells (blank 0) 108)).alloc (.cells (blank 0) 108)).setRow (w.heap.size + 1) (blank n)).heap[w.heap.size + 1]? = some (.cells (blank n) 108)) := setRow_heap _ _ _ (blank n) _ _ ha1
  have HB0 : Hid ((((w.alloc (.cells (blank 0) 108)).alloc (.cells (blank 0) 108)).setRow (w.heap.size + 1) (blank n)).heap[w.heap.size]? = some (.cells (blank 0) 108)) := by
    show (World.setRow _ _ _).heap[_]? = _
    simp only [World.setRow, Array.getElem?_modify]
    rw [if_neg (by omega)]
    exact hb0
  have HZ : Hid ((((w.alloc (.cells (blank 0) 108)).alloc (.cells (blank 0) 108)).setRow (w.heap.size + 1) (blank n)).heap.size = w.heap.size + 2) := by show _ = _; simp
  clear ha1 hb0
  change wpList _ _ _ _ _ (((w.alloc (.cells (blank 0) 108)).alloc (.cells (blank 0) 108)).setRow (w.heap.size + 1) (blank n))
  generalize ((w.alloc (.cells (blank 0) 108)).alloc (.cells (blank 0) 108)).setRow (w.heap.size + 1) (blank n) = w2 at *
  generalize hN : w.heap.size = N at *
  have HNN : Hid (w.heap.size = N) := hN
  clear hN
  have HSS : Hid (SetAt w2 (N + 1) 0 n (fun _ => 0) (fun _ => 0) (fun _ => 0)) := HS
  clear HS
  go_wp2
  go_loopw [4] (fun i wr => ∃ k : Nat, k ≤ n ∧ i = .int .i64 k ∧ SetAt wr (N + 1) 0 n (newL k) (newA k) (fun _ => 0) ∧ Upd (rowS (N + 1) 0 25) w2 wr) (fun i _ => n - (intOf i).toNat)
  case atStart => exact ⟨0, Nat.zero_le _, rfl, HSS.out.congr (fun j _ => by simp [newL]) (fun j _ => by simp [newA]) (fun _ _ => rfl), Upd.refl _ _⟩
  case round =>
    obtain ⟨k, hk, rfl, hs, hu⟩ := hrel
    have hc := hs.cnt
    have HS : Hid (SetAt wr (N + 1) 0 n (newL k) (newA k) (fun _ => 0)) := hs
    have HU2 : Hid (Upd (rowS (N + 1) 0 25) w2 wr) := hu
    clear hs hu
    by_cases hlt : k < n
    · have hlk := HS.out.ln.c k (by omega)
      have hlf := HS.out.ln.f k (by omega)
      have hak := HS.out.ag.c k (by omega)
      have haf := HS.out.ag.f k (by omega)
      rw [Nat.zero_add] at hlk hlf hak haf
      go_wp2
      go_roundw
      case rel =>
        have h2 := (HS.out.setL (i := k) (by omega) (-1)).setA (i := k) (by omega) k
        have u2 := upd_at (upd_at HU2.out (o := 0 + 1 + k) (by omega) (.int .i64 (-1))) (o := 0 + 9 + k) (by omega) (.int .i64 k)
        rw [Nat.zero_add, Nat.zero_add] at h2 u2
        refine ⟨k + 1, by omega, by go_num, h2.congr (fun j hj => ?_) (fun j hj => ?_) (fun _ _ => rfl), u2⟩
        · unfold upd newL
          by_cases e : j = k
          · subst e; rw [if_pos rfl, if_pos (by omega)]
          · rw [if_neg e]
            by_cases e2 : j < k
            · rw [if_pos e2, if_pos (by omega)]
            · rw [if_neg e2, if_neg (by omega)]
        · unfold upd newA
          by_cases e : j = k
          · subst e; rw [if_pos rfl, if_pos (by omega)]
          · rw [if_neg e]
            by_cases e2 : j < k
            · rw [if_pos e2, if_pos (by omega)]
            · rw [if_neg e2, if_neg (by omega)]
      case measure => simp [intOf]; omega
    · have hkn : k = n := by omega
      subst hkn
      obtain ⟨cs, hcs, hsz, _⟩ := HU2.out.cells (N + 1) _ _ _ HB.out
      have harr := HS.out.arr hcs hsz
      obtain ⟨c0, hc0, hz0, hc0'⟩ := HU2.out.cells N _ _ _ HB0.out
      have HC : Hid (wr.heap[N + 1]? = some (.cells cs 108 (0, 0))) := hcs
      have HC0 : Hid (wr.heap[N]? = some (.cells c0 108 (0, 0))) := hc0
      have hz : cs.size = 25 := hsz
      have hz' : c0.size = 25 := hz0
      have HARR : Hid (ArrSet cs k (newL k) (newA k) fun _ => 0) := harr
      clear hcs hc0 harr hc0' hsz hz0
      go_wp2_with (first
        | (refine wpList_load_row rfl 108 _ rfl (N + 1) (by rfl) 108 cs (0, 0) _ HC.out Try.underlying108 rfl (by rw [hz]; kernel_rfl) ?_)
        | (refine wpList_store_row rfl 108 _ _ rfl N cs (by rfl) (by rfl) 108 c0 HC0.out (by rw [hz]; kernel_rfl) (hz'.trans hz.symm) HARR.out.one ?_))
      refine bodyPost_ret (v := .agg cs) (results_cell_row Try.results69 _ _ N 108 cs (0, 0) _ rfl (setRow_heap _ _ _ cs _ _ HC0.out) Try.underlying108 rfl (by rw [hz]; kernel_rfl)) rfl ⟨⟨cs, rfl, HARR.out⟩, ?_⟩
      have hall : Upd (fun k _ => N ≤ k) w2 (wr.setRow N cs) := (HU2.out.mono (fun k o h => by have := h.1; omega)).setRowAll HC0.out (hz.trans hz'.symm) (fun _ _ => Nat.le_refl _)
      exact ((HU.out.mono (fun _ _ h => h.elim)).trans hall).shrink (fun k o hk h => by have := HNN.out; omega)

end Go.Proofs.Ytobniidkkmlilaa
