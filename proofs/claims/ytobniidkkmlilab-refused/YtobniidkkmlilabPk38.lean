import Derived.Test.YtobniidkkmlilabPk35

/- The walks over the program's machine: New. -/
namespace Go.Proofs.Ytobniidkkmlilab
open Go.RowKit Go.Coh

def newM (c : Nat → Int) : RM := ⟨(c 0).toNat, c, fun _ => newRC 0 0 0, newRC 0 0 0, fun _ _ => 0, fun _ => 0, fun _ => 0, fun _ => 0, fun _ => 0⟩

def mcN (n : Nat) (c : Nat → Int) : Array Value := (.int .i64 (c 0) :: .int .i64 (c 1) :: .int .i64 (c 2) :: .int .i64 (c 3) :: .int .i64 (c 4) :: .int .i64 (c 5) :: .int .i64 (c 6) :: List.replicate n (.int .i64 0)).toArray
theorem mcN_size (n : Nat) (c : Nat → Int) : (mcN n c).size = n + 7 := by simp [mcN]
theorem mcN_get (n : Nat) (c : Nat → Int) (j : Nat) (h : j < n + 7) : (mcN n c)[j]? = some (.int .i64 (if j < 7 then c j else 0)) := by
  unfold mcN
  rw [List.getElem?_toArray]
  match j, h with
  | 0, _ | 1, _ | 2, _ | 3, _ | 4, _ | 5, _ | 6, _ => rfl
  | j + 7, h =>
    rw [List.getElem?_cons_succ, List.getElem?_cons_succ, List.getElem?_cons_succ, List.getElem?_cons_succ, List.getElem?_cons_succ, List.getElem?_cons_succ, List.getElem?_cons_succ, if_neg (by omega)]
    have : j < n := by omega
    simp [this]

theorem raw_new {w : World} {b : Nat} {c : Nat → Int} {n S W P LS LW LP : Nat} (hcf : CfOk c n S W P LS LW LP) (h : w.heap[b]? = some (.cells (mcN 1862 c) 68 (0, 0))) : PrAt w b (newM c) := by
  have hc : ∀ j, j < 1869 → w.cell? ⟨b, j, none⟩ = some (.int .i64 (if j < 7 then c j else 0)) := fun j hj => by
    have : w.cell? ⟨b, j, none⟩ = (mcN 1862 c)[j]? := by simp [World.cell?, h]
    rw [this]; exact mcN_get 1862 c j hj
  have hf : ∀ o, w.frozen? ⟨b, o, none⟩ = false := fun o => by simp [World.frozen?, h]
  refine ⟨by show c 0 = ((c 0).toNat : Int); have := hcf.e0; omega, fun j hj => ⟨?_, hf _⟩, fun j hj => ⟨?_, hf _⟩, fun j hj => ⟨?_, hf _⟩, fun j hj => ⟨?_, hf _⟩, hf, _, h, mcN_size 1862 c⟩
  · rw [Nat.zero_add, hc j (by omega), if_pos hj]; rfl
  · rw [hc _ (by omega), if_neg (by omega)]; rfl
  · rw [hc _ (by omega), if_neg (by omega)]; rfl
  · rw [hc _ (by omega), if_neg (by omega)]; rfl

theorem zero105 (c : Nat → Int) : ((((((Try.zeroCells68.setIfInBounds 0 (Value.int IntKind.i64 (c 0))).setIfInBounds 1 (Value.int IntKind.i64 (c 1))).setIfInBounds 2 (Value.int IntKind.i64 (c 2))).setIfInBounds 3 (Value.int IntKind.i64 (c 3))).setIfInBounds 4 (Value.int IntKind.i64 (c 4))).setIfInBounds 5 (Value.int IntKind.i64 (c 5))).setIfInBounds 6 (Value.int IntKind.i64 (c 6)) = mcN 1862 c := by kernel_rfl

set_option maxRecDepth 100000 in
set_option maxHeartbeats 2000000 in
theorem pNew_bad (c : Nat → Int) (w : World) (he : checkE c ≠ 0) : Calls Try.prog 9 #[.agg (celC c)] w fun e w' => e = .returned (.tuple #[.pointer none, .int .i64 (checkE c)]) ∧ Upd no w w' := by
  have hb : (checkE c != 0) = true := by simpa using he
  obtain ⟨E, hE⟩ : ∃ E, checkE c = E := ⟨_, rfl⟩
  have HEE : Hid (checkE c = E) := hE
  rw [hE] at hb ⊢
  clear he hE
  unfold celC
  go_enter Try.func9, Try.ntmps9
  go_wp2_with fail
  refine (pCheck_any c _).mono ?_
  rintro e w1 ⟨rfl, hu⟩
  rw [HEE.out]
  have HU := (show Hid _ from ((Upd.refl no w).alloc _).trans hu)
  clear hu
  go_wp2
  go_ret2
  exact ⟨rfl, HU.out⟩

set_option maxRecDepth 100000 in
set_option maxHeartbeats 2000000 in
theorem pNew_good (c : Nat → Int) (w : World) (he : checkE c = 0) : Calls Try.prog 9 #[.agg (celC c)] w fun e w' => (∃ b, e = .returned (.tuple #[.pointer (some ⟨b, 0, none⟩), .int .i64 0]) ∧ w.heap.size ≤ b ∧ PmAt w' b (newM c).freshS) ∧ Upd no w w' := by
  have HEE : Hid (checkE c = 0) := he
  obtain ⟨n, S, W, P, LS, LW, LP, hcf⟩ := cf_ok he
  have HCF : Hid (CfOk (newM c).conf n S W P LS LW LP) := hcf
  clear he hcf
  unfold celC
  go_enter Try.func9, Try.ntmps9
  go_wp2_with fail
  refine (pCheck_any c _).mono ?_
  rintro e w1 ⟨rfl, hu⟩
  rw [HEE.out]
  have hu1 : Upd no w w1 := ((Upd.refl no w).alloc _).trans hu
  have hbl := heap_alloc_new w (Obj.cells #[Value.int IntKind.i64 (c 0), Value.int IntKind.i64 (c 1), Value.int IntKind.i64 (c 2), Value.int IntKind.i64 (c 3), Value.int IntKind.i64 (c 4), Value.int IntKind.i64 (c 5), Value.int IntKind.i64 (c 6)] 23)
  rw [← hu.block (by simp) (fun _ h => h)] at hbl
  have hsz : w.heap.size < w1.heap.size := (Array.getElem?_eq_some_iff.1 hbl).1
  have d0 : w1.cell? ⟨w.heap.size, 0, none⟩ = some (.int .i64 (c 0)) := by simp [World.cell?, hbl]
  have d1 : w1.cell? ⟨w.heap.size, 1, none⟩ = some (.int .i64 (c 1)) := by simp [World.cell?, hbl]
  have d2 : w1.cell? ⟨w.heap.size, 2, none⟩ = some (.int .i64 (c 2)) := by simp [World.cell?, hbl]
  have d3 : w1.cell? ⟨w.heap.size, 3, none⟩ = some (.int .i64 (c 3)) := by simp [World.cell?, hbl]
  have d4 : w1.cell? ⟨w.heap.size, 4, none⟩ = some (.int .i64 (c 4)) := by simp [World.cell?, hbl]
  have d5 : w1.cell? ⟨w.heap.size, 5, none⟩ = some (.int .i64 (c 5)) := by simp [World.cell?, hbl]
  have d6 : w1.cell? ⟨w.heap.size, 6, none⟩ = some (.int .i64 (c 6)) := by simp [World.cell?, hbl]
  have HU1 := (show Hid _ from hu1)
  clear hu hbl hu1
  go_upto_region 5 with fail
  rw [zero105]
  have hnew := heap_alloc_new w1 (.cells (mcN 1862 c) 68)
  have HPR : Hid (PrAt (w1.alloc (.cells (mcN 1862 c) 68)) w1.heap.size (newM c)) := raw_new (c := c) HCF.out hnew
  have HUA : Hid (Upd no w (w1.alloc (.cells (mcN 1862 c) 68))) := HU1.out.alloc _
  generalize w1.alloc (.cells (mcN 1862 c) 68) = w2 at *
  generalize hM : w1.heap.size = M at *
  clear d0 d1 d2 d3 d4 d5 d6 hnew
  go_wp2_with fail
  refine (empty_any M (newM c) n S W P LS LW LP _ HCF.out HPR.out).mono ?_
  rintro e w3 ⟨rfl, g3, u3⟩
  have HG3 := (show Hid _ from g3)
  have HU3 : Hid (Upd no w w3) := ((HUA.out.mono (S' := blkS M) (fun _ _ h => h.elim)).trans u3).shrink (fun k o hk h => by
    have : k = M := h
    omega)
  clear g3 u3
  go_wp2
  go_ret2
  exact ⟨⟨M, rfl, by omega, HG3.out⟩, HU3.out⟩

end Go.Proofs.Ytobniidkkmlilab
