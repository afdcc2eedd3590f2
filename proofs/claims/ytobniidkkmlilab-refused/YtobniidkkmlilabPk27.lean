import Derived.Test.YtobniidkkmlilabPk26
import Derived.Great.BuildSlice
import Derived.Great.Walk

/- The walks over package cache: a new cache. -/
namespace Go.Proofs.Ytobniidkkmlilab
open Go.RowKit Go.Coh

def zc (n : Nat) : Array Value := (List.replicate n (.int .i64 0)).toArray
theorem zc_size (n : Nat) : (zc n).size = n := by simp [zc]
theorem zc_get (n j : Nat) (h : j < n) : (zc n)[j]? = some (.int .i64 0) := by simp [zc, h]

/-- 'var x T' of many cells -/
theorem wpList_allocZ {P : Program} {ops : Array Oper} {rest : List Oper} {o : Oper} {a : Act} {w : World} {Q : Exit → Act → World → Prop} (hg : o.guard = none) (t : TypeId) (ho : o.op = .alloc t) (d : Option Tmp) (hd : o.dst = d)
    (cs : Array Value) (hz : (P.info? t).bind (·.zero) = some (.agg cs)) (h : wpList P ops Q rest (a.put d (.pointer (some ⟨w.heap.size, 0, none⟩))) (w.alloc (.cells cs t))) : wpList P ops Q (o :: rest) a w := by
  refine Go.Great.wpList_allocTo hg d hd (.pointer (some ⟨w.heap.size, 0, none⟩)) (.cells cs t) ?_ h
  cases hi : P.info? t with
  | none => rw [hi] at hz; cases hz
  | some i =>
    rw [hi] at hz
    have hz' : i.zero = some (.agg cs) := hz
    unfold execOp
    simp [ho, Instr.alloc, zeroValue, typeInfo, hi, hz', newVar, newRow, Value.cells]

theorem zero97 : (Try.prog.info? 63).bind (·.zero) = some (.agg (zc 204)) := by kernel_rfl
theorem size97 : (Try.prog.info? 63).map (·.size) = some 204 := by kernel_rfl
def bcN (n : Nat) (P S : Nat) : Array Value := (.int .i64 P :: .int .i64 S :: (List.replicate n (.int .i64 0) ++ [.int .i64 7])).toArray
theorem bcN_size (n P S : Nat) : (bcN n P S).size = n + 3 := by simp [bcN]
theorem bcN_get (n P S j : Nat) (h : j < n + 3) : (bcN n P S)[j]? = some (.int .i64 (if j = 0 then (P : Int) else if j = 1 then (S : Int) else if j = n + 2 then 7 else 0)) := by
  unfold bcN
  rw [List.getElem?_toArray]
  match j, h with
  | 0, _ => rfl
  | 1, _ => rfl
  | j + 2, h =>
    rw [List.getElem?_cons_succ, List.getElem?_cons_succ]
    by_cases e : j < n
    · rw [List.getElem?_append_left (by simpa using e), if_neg (by omega), if_neg (by omega), if_neg (by omega)]
      simp [e]
    · have : j = n := by omega
      subst this
      rw [List.getElem?_append_right (by simp)]
      simp
def bc (P S : Nat) : Array Value := bcN 201 P S
theorem bc_size (P S : Nat) : (bc P S).size = 204 := bcN_size 201 P S
theorem bc_get (P S j : Nat) (h : j < 204) : (bc P S)[j]? = some (.int .i64 (if j = 0 then (P : Int) else if j = 1 then (S : Int) else if j = 203 then 7 else 0)) := bcN_get 201 P S j h
theorem built97 (P S : Nat) : Try.prog.built 63 [(0, .int .i64 P), (1, .int .i64 S), (4, .int .i64 7)] = some (bc P S) := by kernel_rfl

theorem all_ints {cs : Array Value} (h : ∀ j, j < cs.size → ∃ v : Int, cs[j]? = some (.int .i64 v)) : cs.all (·.oneCell') = true := by
  rw [Array.all_eq_true]
  intro i hi
  obtain ⟨v, hv⟩ := h i hi
  rw [Array.getElem?_eq_getElem hi] at hv
  injection hv with hv
  rw [hv]; rfl

/-- the cells of a cache: wherever they are laid, there is that cache -/
structure ArrC (cs : Array Value) (s : RC) : Prop where
  size : cs.size = 204
  one : cs.all (·.oneCell') = true
  at_ : ∀ (w : World) (b off : Nat), w.rangeAt b off cs.toList → (∀ j, j < 204 → w.frozen? ⟨b, off + j, none⟩ = false) → CacheAt w b off s

theorem newRC_rel (S W P : Nat) (hS : Size S) (hW : Size W) : CRel (fun _ => newS W) (newRC S W P) :=
  ⟨fun i _ => SetRel.new (i * W) W, fun _ => rfl, fun _ => Bd.new hW.pos.2, Int.le_refl _, Int.le_refl _, hS, hW⟩

theorem cpossible_any (n : Int) (w : World) (h1 : 1 ≤ n) (h2 : n ≤ 8) :
    Calls Try.prog 56 #[.int .i64 n] w fun e w' => e = .returned (.int .i64 n) ∧ w' = w := by
  go_enter Try.func56, Try.ntmps56
  go_wp2
  go_ret
  exact ⟨rfl, rfl⟩

set_option maxRecDepth 100000 in
set_option maxHeartbeats 1000000 in
theorem cNew_any (S W P : Nat) (w : World) (hS : Size S) (hW : Size W) :
    Calls Try.prog 37 #[.int .i64 S, .int .i64 W, .int .i64 P] w fun e w' => (∃ cs, e = .returned (.agg cs) ∧ ArrC cs (newRC S W P)) ∧ Upd no w w' := by
  have hSb := hS.pos
  have HS : Hid (Size S) := hS
  have HW : Hid (Size W) := hW
  clear hS hW
  go_enter Try.func37, Try.ntmps37
  go_wp2_with (refine wpList_allocZ rfl 63 rfl (some 6) rfl (zc 204) zero97 ?_)
  refine (cpossible_any _ _ (by omega) (by omega)).mono ?_
  rintro e w1 ⟨rfl, rfl⟩
  have ha1 := heap_alloc2_new w (.cells (zc 204) 63) (.cells (zc 204) 63)
  have HA1 : Hid (((w.alloc (.cells (zc 204) 63)).alloc (.cells (zc 204) 63)).heap[w.heap.size + 1]? = some (.cells (zc 204) 63)) := ha1
  have HBC : Hid (((Try.zeroCells63.setIfInBounds 0 (Value.int IntKind.i64 (P : Int))).setIfInBounds 1 (Value.int IntKind.i64 (S : Int))).setIfInBounds 203 (Value.int IntKind.i64 7) = bc P S) := by show _ = _; kernel_rfl
  have HON : Hid ((bc P S).all (·.oneCell') = true) := all_ints (fun j hj => ⟨_, bc_get P S j (by rw [bc_size] at hj; exact hj)⟩)
  go_wp2_with (first
    | (refine wpList_allocZ rfl 63 rfl (some 7) rfl (zc 204) zero97 ?_; refine wpList_store_row rfl 63 _ _ rfl (w.heap.size + 1) (bc P S) ?_ ?_ 63 (zc 204) HA1.out ?_ ?_ HON.out ?_))
  · show Value.pointer (some ⟨(w.alloc (.cells (zc 204) 63)).heap.size, 0, none⟩) = _
    simp
  · exact congrArg Value.agg HBC.out
  · rw [bc_size]; exact size97
  · rw [bc_size, zc_size]
  have hb0 : ((w.alloc (.cells (zc 204) 63)).alloc (.cells (zc 204) 63)).heap[w.heap.size]? = some (.cells (zc 204) 63) := by
    rw [Below.heap_alloc _ _ _ (by simp), heap_alloc_new]
  have HU : Hid (Upd no w ((((w.alloc (.cells (zc 204) 63)).alloc (.cells (zc 204) 63))).setRow (w.heap.size + 1) (bc P S))) := (((Upd.refl no w).alloc _).alloc _).setRowAll ha1 (by rw [bc_size, zc_size]) (fun h => absurd h (by omega))
  have HB : Hid ((((w.alloc (.cells (zc 204) 63)).alloc (.cells (zc 204) 63)).setRow (w.heap.size + 1) (bc P S)).heap[w.heap.size + 1]? = some (.cells (bc P S) 63)) := setRow_heap _ _ _ _ _ _ ha1
  have HB0 : Hid ((((w.alloc (.cells (zc 204) 63)).alloc (.cells (zc 204) 63)).setRow (w.heap.size + 1) (bc P S)).heap[w.heap.size]? = some (.cells (zc 204) 63)) := by
    show (World.setRow _ _ _).heap[_]? = _
    simp only [World.setRow, Array.getElem?_modify]
    rw [if_neg (by omega)]
    exact hb0
  clear ha1 hb0 HA1
  generalize ((w.alloc (.cells (zc 204) 63)).alloc (.cells (zc 204) 63)).setRow (w.heap.size + 1) (bc P S) = w2 at *
  have hN : w.heap.size + 1 < w2.heap.size := (Array.getElem?_eq_some_iff.1 HB.out).1
  generalize hNN : w.heap.size = N at *
  have HNN : Hid (w.heap.size = N) := hNN
  clear hNN
  have cell2 : ∀ j, j < 204 → w2.cell? ⟨N + 1, j, none⟩ = some (.int .i64 (if j = 0 then (P : Int) else if j = 1 then (S : Int) else if j = 203 then 7 else 0)) := fun j hj => by
    have : w2.cell? ⟨N + 1, j, none⟩ = (bc P S)[j]? := by simp [World.cell?, HB.out]
    rw [this]; exact bc_get P S j hj
  have CELL2 := (show Hid _ from cell2)
  clear cell2
  go_loopw [8] (fun i wr => ∃ k : Nat, k ≤ S ∧ i = .int .i64 k ∧ (∀ i, i < k → SetAt wr (N + 1) (2 + i * 25) W (newL W) (newA W) (fun _ => 0)) ∧ (∀ j, j < 204 → ∃ v : Int, wr.cell? ⟨N + 1, j, none⟩ = some (.int .i64 v)) ∧
      Upd (rowS (N + 1) 2 200) w2 wr) (fun i _ => S - (intOf i).toNat)
  case atStart => exact ⟨0, Nat.zero_le _, rfl, fun i hi => absurd hi (Nat.not_lt_zero _), fun j hj => ⟨_, CELL2.out j hj⟩, Upd.refl _ _⟩
  case round =>
    obtain ⟨k, hk, rfl, hs, hints, hu⟩ := hrel
    have h1 : wr.cell? ⟨N + 1, 1, none⟩ = some (.int .i64 S) := by
      rw [hu.cell hN (fun h => by have := h.2; omega), CELL2.out 1 (by omega)]; rfl
    have hfz : ∀ o, wr.frozen? ⟨N + 1, o, none⟩ = false := fun o => by
      rw [hu.frozen hN]; simp [World.frozen?, HB.out]
    have HSS : Hid (∀ i, i < k → SetAt wr (N + 1) (2 + i * 25) W (newL W) (newA W) (fun _ => 0)) := hs
    have HI : Hid (∀ j, j < 204 → ∃ v : Int, wr.cell? ⟨N + 1, j, none⟩ = some (.int .i64 v)) := hints
    have HU2 : Hid (Upd (rowS (N + 1) 2 200) w2 wr) := hu
    have HFZ : Hid (∀ o, wr.frozen? ⟨N + 1, o, none⟩ = false) := hfz
    clear hs hints hu hfz
    have hNr : N + 1 < wr.heap.size := Nat.lt_of_lt_of_le hN HU2.out.size
    by_cases hlt : k < S
    · go_wp2_with fail
      refine (New_any W _ HW.out).mono ?_
      rintro e w3 ⟨⟨cs, rfl, harr⟩, hu3⟩
      have hth : w3.there (N + 1) (2 + k * 25) cs.size := fun j hj => by
        rw [harr.size] at hj
        obtain ⟨v, hv⟩ := HI.out (2 + k * 25 + j) (by omega)
        exact ⟨by rw [hu3.cell hNr (fun h => h), hv]; rfl, by rw [hu3.frozen hNr]; exact HFZ.out _⟩
      have hsame := World.rangeAt_setCells_same w3 (N + 1) (2 + k * 25) cs.toList (by simpa using hth)
      have hur : Upd (rowS (N + 1) (2 + k * 25) 25) w3 (w3.setCells (N + 1) (2 + k * 25) cs.toList) := upd_setCells (Upd.refl _ _) (fun _ j hj => ⟨rfl, by omega, by have := harr.size; simp at hj; omega⟩)
      have hin : ∀ j, j < 25 → (w3.setCells (N + 1) (2 + k * 25) cs.toList).cell? ⟨N + 1, 2 + k * 25 + j, none⟩ = cs[j]? := fun j hj => by
        obtain ⟨v, hv⟩ := harr.int j hj
        rw [hv]; exact hsame j _ (by simpa using hv)
      have hw3 := hu3.size
      have HS5 : Hid (∀ i, i < k + 1 → SetAt (w3.setCells (N + 1) (2 + k * 25) cs.toList) (N + 1) (2 + i * 25) W (newL W) (newA W) (fun _ => 0)) := by
        intro i hi
        by_cases e : i = k
        · subst e
          have fz : ∀ o, (w3.setCells (N + 1) (2 + i * 25) cs.toList).frozen? ⟨N + 1, o, none⟩ = false := fun o => by rw [World.frozen?_setCells, hu3.frozen hNr]; exact HFZ.out _
          refine ⟨?_, fun j hj => ⟨?_, fz _⟩, fun j hj => ⟨?_, fz _⟩, fun j hj => ⟨?_, fz _⟩⟩
          · have := hin 0 (by omega); simp only [Nat.add_zero] at this; rw [this]; exact harr.c0
          · have := hin (1 + j) (by omega); rw [← Nat.add_assoc] at this; rw [this]; exact harr.ln j hj
          · have := hin (9 + j) (by omega); rw [← Nat.add_assoc] at this; rw [this]; exact harr.ag j hj
          · have := hin (17 + j) (by omega); rw [← Nat.add_assoc] at this; rw [this]; exact harr.rk j hj
        · exact ((HSS.out i (by omega)).of_upd hu3 (fun _ _ h => h)).of_upd hur (fun j hj h => by have := h.2; omega)
      have HI5 : Hid (∀ j, j < 204 → ∃ v : Int, (w3.setCells (N + 1) (2 + k * 25) cs.toList).cell? ⟨N + 1, j, none⟩ = some (.int .i64 v)) := by
        intro j hj
        by_cases e : 2 + k * 25 ≤ j ∧ j < 2 + k * 25 + 25
        · obtain ⟨v, hv⟩ := harr.int (j - (2 + k * 25)) (by omega)
          have := hin (j - (2 + k * 25)) (by omega)
          rw [show 2 + k * 25 + (j - (2 + k * 25)) = j by omega, hv] at this
          exact ⟨v, this⟩
        · obtain ⟨v, hv⟩ := HI.out j hj
          exact ⟨v, by rw [hur.cell (by omega) (fun h => e (by have := h.2; omega)), hu3.cell hNr (fun h => h)]; exact hv⟩
      have HU5 : Hid (Upd (rowS (N + 1) 2 200) w2 (w3.setCells (N + 1) (2 + k * 25) cs.toList)) :=
        (HU2.out.trans (hu3.mono (fun _ _ h => h.elim))).trans (hur.mono (fun _ _ h => ⟨h.1, by have := h.2; omega, by have := h.2; omega⟩))
      have HONE : Hid (cs.all (·.oneCell') = true) := harr.one
      have hz : cs.size = 25 := harr.size
      clear hu3 harr hsame hur hin
      go_wp2_with (refine wpList_store_mid rfl 58 _ _ rfl (N + 1) (2 + k * 25) cs ?_ ?_ hth ?_ HONE.out ?_)
      · rfl
      · rfl
      · rw [hz]; kernel_rfl
      go_roundw
      case rel => exact ⟨k + 1, by omega, by go_num, HS5.out, HI5.out, HU5.out⟩
      case measure => simp [intOf]; omega
    · have hkS : k = S := by omega
      subst hkS
      obtain ⟨cs, hcs, hsz, _⟩ := HU2.out.cells (N + 1) _ _ _ HB.out
      obtain ⟨c0, hc0, hz0, _⟩ := HU2.out.cells N _ _ _ HB0.out
      rw [bc_size] at hsz
      rw [zc_size] at hz0
      have hcell : ∀ j, wr.cell? ⟨N + 1, j, none⟩ = cs[j]? := fun j => by simp [World.cell?, hcs]
      have HARR : Hid (ArrC cs (newRC k W P)) := by
        have hca : CacheAt wr (N + 1) 0 (newRC k W P) := by
          refine ⟨⟨fun _ => newS W, newRC_rel k W P HS.out HW.out, fun i hi => ?_⟩, ?_, ?_, fun j hj => ⟨?_, HFZ.out _⟩, fun j hj => ⟨?_, HFZ.out _⟩⟩
          · rw [Nat.zero_add]; exact HSS.out i hi
          · rw [HU2.out.cell hN (fun h => by have := h.2; omega), CELL2.out 0 (by omega)]; rfl
          · exact h1
          · rw [show j = 0 by omega]
            rw [HU2.out.cell hN (fun h => by have := h.2; omega), CELL2.out _ (by omega)]; rfl
          · rw [show j = 0 by omega]
            rw [HU2.out.cell hN (fun h => by have := h.2; omega), CELL2.out _ (by omega)]; rfl
        refine ⟨hsz, all_ints (fun j hj => ?_), fun W' b off hr hf => hca.move (fun j hj => ⟨?_, hf j hj⟩)⟩
        · obtain ⟨v, hv⟩ := HI.out j (by omega)
          exact ⟨v, by rw [← hcell]; exact hv⟩
        · obtain ⟨v, hv⟩ := HI.out j hj
          rw [Nat.zero_add, hv]
          exact hr j _ (by rw [hcell] at hv; simpa using hv)
      have HC : Hid (wr.heap[N + 1]? = some (.cells cs 63 (0, 0))) := hcs
      have HC0 : Hid (wr.heap[N]? = some (.cells c0 63 (0, 0))) := hc0
      clear hcs hc0 hcell
      go_wp2_with (first
        | (refine wpList_load_row rfl 63 _ rfl (N + 1) (by rfl) 63 cs (0, 0) _ HC.out Try.underlying63 rfl (by rw [hsz]; exact size97) ?_)
        | (refine wpList_store_row rfl 63 _ _ rfl N cs (by rfl) (by rfl) 63 c0 HC0.out (by rw [hsz]; exact size97) (by rw [hsz, hz0]) HARR.out.one ?_))
      refine bodyPost_ret (v := .agg cs) (results_cell_row Try.results37 _ _ N 63 cs (0, 0) _ rfl (setRow_heap _ _ _ cs _ _ HC0.out) Try.underlying63 rfl (by rw [hsz]; exact size97)) rfl ⟨⟨cs, rfl, HARR.out⟩, ?_⟩
      have hall : Upd (fun k _ => N ≤ k) w2 (wr.setRow N cs) := (HU2.out.mono (fun k o h => by have := h.1; omega)).setRowAll HC0.out (by rw [hsz, hz0]) (fun _ _ => Nat.le_refl _)
      exact ((HU.out.mono (fun _ _ h => h.elim)).trans hall).shrink (fun k o hk h => by have := HNN.out; omega)

end Go.Proofs.Ytobniidkkmlilab
