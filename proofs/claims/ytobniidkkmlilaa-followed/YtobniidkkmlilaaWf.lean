/- The walks: a new set. -/
import Derived.Test.YtobniidkkmlilaaWe
namespace Go.Proofs.Ytobniidkkmlilaa
open Go.RowKit Go.Coh

def no : Nat → Nat → Prop := fun _ _ => False

/-- A set as 25 cells. -/
structure ArrSet (cs : Array Value) (n : Nat) (L A R : Nat → Int) : Prop where
  size : cs.size = 25
  c0 : cs[0]? = some (.int .i64 n)
  ln : ∀ j, j < 8 → cs[1 + j]? = some (.int .i64 (L j))
  ag : ∀ j, j < 8 → cs[9 + j]? = some (.int .i64 (A j))
  rk : ∀ j, j < 8 → cs[17 + j]? = some (.int .i64 (R j))

theorem ArrSet.int {cs : Array Value} {n : Nat} {L A R : Nat → Int} (h : ArrSet cs n L A R) (i : Nat) (hi : i < 25) : ∃ v : Int, cs[i]? = some (.int .i64 v) := by
  by_cases h0 : i = 0
  · subst h0; exact ⟨_, h.c0⟩
  · by_cases h1 : i < 9
    · exact ⟨_, by have := h.ln (i - 1) (by omega); rwa [show 1 + (i - 1) = i by omega] at this⟩
    · by_cases h2 : i < 17
      · exact ⟨_, by have := h.ag (i - 9) (by omega); rwa [show 9 + (i - 9) = i by omega] at this⟩
      · exact ⟨_, by have := h.rk (i - 17) (by omega); rwa [show 17 + (i - 17) = i by omega] at this⟩

theorem ArrSet.one {cs : Array Value} {n : Nat} {L A R : Nat → Int} (h : ArrSet cs n L A R) : cs.all (·.oneCell') = true := by
  rw [Array.all_eq_true]
  intro i hi
  obtain ⟨v, hv⟩ := h.int i (by rw [← h.size]; exact hi)
  rw [Array.getElem?_eq_getElem hi] at hv
  injection hv with hv
  rw [hv]; rfl

theorem ArrSet.at {w : World} {b : Nat} {t : TypeId} {cs : Array Value} {n : Nat} {L A R : Nat → Int} (h : ArrSet cs n L A R) (hb : w.heap[b]? = some (.cells cs t (0, 0))) : SetAt w b 0 n L A R := by
  have hc : ∀ j, w.cell? ⟨b, j, none⟩ = cs[j]? := fun j => by simp [World.cell?, hb]
  have hf : ∀ j, w.frozen? ⟨b, j, none⟩ = false := fun j => by simp [World.frozen?, hb]
  exact ⟨by rw [hc]; exact h.c0, fun j hj => ⟨by rw [hc, Nat.zero_add]; exact h.ln j hj, hf _⟩, fun j hj => ⟨by rw [hc, Nat.zero_add]; exact h.ag j hj, hf _⟩, fun j hj => ⟨by rw [hc, Nat.zero_add]; exact h.rk j hj, hf _⟩⟩

theorem SetAt.arr {w : World} {b : Nat} {t : TypeId} {fr : Nat × Nat} {cs : Array Value} {n : Nat} {L A R : Nat → Int} (h : SetAt w b 0 n L A R) (hb : w.heap[b]? = some (.cells cs t fr)) (hs : cs.size = 25) : ArrSet cs n L A R := by
  have hc : ∀ j, w.cell? ⟨b, j, none⟩ = cs[j]? := fun j => by simp [World.cell?, hb]
  exact ⟨hs, by rw [← hc]; exact h.cnt, fun j hj => by rw [← hc]; simpa using h.ln.c j hj, fun j hj => by rw [← hc]; simpa using h.ag.c j hj, fun j hj => by rw [← hc]; simpa using h.rk.c j hj⟩

def blank (n : Int) : Array Value := #[.int .i64 n, .int .i64 0, .int .i64 0, .int .i64 0, .int .i64 0, .int .i64 0, .int .i64 0, .int .i64 0, .int .i64 0, .int .i64 0, .int .i64 0, .int .i64 0, .int .i64 0, .int .i64 0, .int .i64 0, .int .i64 0, .int .i64 0, .int .i64 0, .int .i64 0, .int .i64 0, .int .i64 0, .int .i64 0, .int .i64 0, .int .i64 0, .int .i64 0]
theorem blank_arr (n : Nat) : ArrSet (blank n) n (fun _ => 0) (fun _ => 0) (fun _ => 0) := by
  refine ⟨rfl, rfl, ?_, ?_, ?_⟩ <;>
  · intro j hj
    match j, hj with
    | 0, _ | 1, _ | 2, _ | 3, _ | 4, _ | 5, _ | 6, _ | 7, _ => rfl

set_option maxHeartbeats 1000000 in
theorem New_any (n : Nat) (w : World) (hn : Size n) :
    Calls Try.prog 69 #[.int .i64 n] w fun e w' => (∃ cs, e = .returned (.agg cs) ∧ ArrSet cs n (newL n) (newA n) (fun _ => 0)) ∧ Upd no w w' := by
  have hn8 : n ≤ 8 ∧ 0 < n := by rcases hn with h | h | h | h <;> omega
  have HN : Hid (Size n) := hn
  clear hn
  go_enter Try.func69, Try.ntmps69
  go_wp2_with fail
  refine (possible_any _ _ (by omega) (by omega)).mono ?_
  rintro e w1 ⟨rfl, rfl⟩
  dsimp only
  iterate 7 (first | go_values | go_skip | go_guarded | go_step | go_upon)
  refine wpList_store_row rfl 108 _ _ rfl (w.heap.size + 1) (blank n) (by rfl) (by rfl) 108 (blank 0) (heap_alloc2_new w _ _) (by kernel_rfl) (by rfl) (blank_arr n).one ?_
  have ha1 := heap_alloc2_new w (.cells (blank 0) 108) (.cells (blank 0) 108)
  have hb0 : ((w.alloc (.cells (blank 0) 108)).alloc (.cells (blank 0) 108)).heap[w.heap.size]? = some (.cells (blank 0) 108) := by
    rw [Below.heap_alloc _ _ _ (by simp), heap_alloc_new]
  have HU : Hid (Upd no w ((((w.alloc (.cells (blank 0) 108)).alloc (.cells (blank 0) 108))).setRow (w.heap.size + 1) (blank n))) := (((Upd.refl no w).alloc _).alloc _).setRowAll ha1 rfl (fun h => absurd h (by omega))
  have HS := (blank_arr n).at (setRow_heap _ _ _ (blank n) _ _ ha1)
  have HB : Hid ((((w.alloc (.cells (blank 0) 108)).alloc (.cells (blank 0) 108)).setRow (w.heap.size + 1) (blank n)).heap[w.heap.size + 1]? = some (.cells (blank n) 108)) := setRow_heap _ _ _ (blank n) _ _ ha1
  have HB0 : Hid ((((w.alloc (.cells (blank 0) 108)).alloc (.cells (blank 0) 108)).setRow (w.heap.size + 1) (blank n)).heap[w.heap.size]? = some (.cells (blank 0) 108)) := by
    show (World.setRow _ _ _).heap[_]? = _
    simp only [World.setRow, Array.getElem?_modify]
    rw [if_neg (by omega)]
    exact hb0
  have HZ : Hid ((((w.alloc (.cells (blank 0) 108)).alloc (.cells (blank 0) 108)).setRow (w.heap.size + 1) (blank n)).heap.size = w.heap.size + 2) := by show _ = _; simp
  clear ha1 hb0
  change wpList _ _ _ _ _ (((w.alloc (.cells (blank 0) 108)).alloc (.cells (blank 0) 108)).setRow (w.heap.size + 1) (blank n))
  generalize ((w.alloc (.cells (blank 0) 108)).alloc (.cells (blank 0) 108)).setRow (w.heap.size + 1) (blank n) = w2 at *
  generalize hN : w.heap.size = N at *
  have HNN : Hid (w.heap.size = N) := hN
  clear hN
  have HSS : Hid (SetAt w2 (N + 1) 0 n (fun _ => 0) (fun _ => 0) (fun _ => 0)) := HS
  clear HS
  go_wp2
  go_loopw [4] (fun i wr => ∃ k : Nat, k ≤ n ∧ i = .int .i64 k ∧ SetAt wr (N + 1) 0 n (newL k) (newA k) (fun _ => 0) ∧ Upd (rowS (N + 1) 0 25) w2 wr) (fun i _ => n - (intOf i).toNat)
  case atStart => exact ⟨0, Nat.zero_le _, rfl, HSS.out.congr (fun j _ => by simp [newL]) (fun j _ => by simp [newA]) (fun _ _ => rfl), Upd.refl _ _⟩
  case round =>
    obtain ⟨k, hk, rfl, hs, hu⟩ := hrel
    have hc := hs.cnt
    have HS : Hid (SetAt wr (N + 1) 0 n (newL k) (newA k) (fun _ => 0)) := hs
    have HU2 : Hid (Upd (rowS (N + 1) 0 25) w2 wr) := hu
    clear hs hu
    by_cases hlt : k < n
    · have hlk := HS.out.ln.c k (by omega)
      have hlf := HS.out.ln.f k (by omega)
      have hak := HS.out.ag.c k (by omega)
      have haf := HS.out.ag.f k (by omega)
      rw [Nat.zero_add] at hlk hlf hak haf
      go_wp2
      go_roundw
      case rel =>
        have h2 := (HS.out.setL (i := k) (by omega) (-1)).setA (i := k) (by omega) k
        have u2 := upd_at (upd_at HU2.out (o := 0 + 1 + k) (by omega) (.int .i64 (-1))) (o := 0 + 9 + k) (by omega) (.int .i64 k)
        rw [Nat.zero_add, Nat.zero_add] at h2 u2
        refine ⟨k + 1, by omega, by go_num, h2.congr (fun j hj => ?_) (fun j hj => ?_) (fun _ _ => rfl), u2⟩
        · unfold upd newL
          by_cases e : j = k
          · subst e; rw [if_pos rfl, if_pos (by omega)]
          · rw [if_neg e]
            by_cases e2 : j < k
            · rw [if_pos e2, if_pos (by omega)]
            · rw [if_neg e2, if_neg (by omega)]
        · unfold upd newA
          by_cases e : j = k
          · subst e; rw [if_pos rfl, if_pos (by omega)]
          · rw [if_neg e]
            by_cases e2 : j < k
            · rw [if_pos e2, if_pos (by omega)]
            · rw [if_neg e2, if_neg (by omega)]
      case measure => simp [intOf]; omega
    · have hkn : k = n := by omega
      subst hkn
      obtain ⟨cs, hcs, hsz, _⟩ := HU2.out.cells (N + 1) _ _ _ HB.out
      have harr := HS.out.arr hcs hsz
      obtain ⟨c0, hc0, hz0, hc0'⟩ := HU2.out.cells N _ _ _ HB0.out
      have HC : Hid (wr.heap[N + 1]? = some (.cells cs 108 (0, 0))) := hcs
      have HC0 : Hid (wr.heap[N]? = some (.cells c0 108 (0, 0))) := hc0
      have hz : cs.size = 25 := hsz
      have hz' : c0.size = 25 := hz0
      have HARR : Hid (ArrSet cs k (newL k) (newA k) fun _ => 0) := harr
      clear hcs hc0 harr hc0' hsz hz0
      go_wp2_with (first
        | (refine wpList_load_row rfl 108 _ rfl (N + 1) (by rfl) 108 cs (0, 0) _ HC.out Try.underlying108 rfl (by rw [hz]; kernel_rfl) ?_)
        | (refine wpList_store_row rfl 108 _ _ rfl N cs (by rfl) (by rfl) 108 c0 HC0.out (by rw [hz]; kernel_rfl) (hz'.trans hz.symm) HARR.out.one ?_))
      refine bodyPost_ret (v := .agg cs) (results_cell_row Try.results69 _ _ N 108 cs (0, 0) _ rfl (setRow_heap _ _ _ cs _ _ HC0.out) Try.underlying108 rfl (by rw [hz]; kernel_rfl)) rfl ⟨⟨cs, rfl, HARR.out⟩, ?_⟩
      have hall : Upd (fun k _ => N ≤ k) w2 (wr.setRow N cs) := (HU2.out.mono (fun k o h => by have := h.1; omega)).setRowAll HC0.out (hz.trans hz'.symm) (fun _ _ => Nat.le_refl _)
      exact ((HU.out.mono (fun _ _ h => h.elim)).trans hall).shrink (fun k o hk h => by have := HNN.out; omega)

end Go.Proofs.Ytobniidkkmlilaa
