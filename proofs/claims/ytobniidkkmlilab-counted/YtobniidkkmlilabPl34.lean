import Derived.Test.YtobniidkkmlilabPl33
import Derived.Deep.CutRange
import Derived.Deep.RegionWith

/- The walks over the program's machine: empty. -/
namespace Go.Proofs.Ytobniidkkmlilab
open Go.RowKit Go.Coh

/-- the program's machine, whatever its caches -/
structure PrAt (w : World) (b : Nat) (m : RM) : Prop where
  c0 : m.conf 0 = m.cores
  conf : HoldsF w b 0 7 m.conf
  words : HoldsF w b 1347 256 m.words
  mem : HoldsF w b 1603 256 m.mem
  tally : HoldsF w b 1859 10 m.tally
  bf : ∀ o, w.frozen? ⟨b, o, none⟩ = false
  obj : ∃ cs, w.heap[b]? = some (.cells cs 68 (0, 0)) ∧ cs.size = 1869

def RM.freshS (m : RM) : RM := { m with firsts := fun _ => newRC (m.conf 1).toNat (m.conf 2).toNat (m.conf 3).toNat, far := newRC (m.conf 4).toNat (m.conf 5).toNat (m.conf 6).toNat, has := fun _ _ => 0, lasts := fun _ => 0 }

theorem PmAt.raw {w : World} {b : Nat} {m : RM} (h : PmAt w b m) : PrAt w b m := ⟨h.c0, h.conf, h.words, h.mem, h.tally, h.bf, h.obj⟩
theorem PrAt.blt {w : World} {b : Nat} {m : RM} (h : PrAt w b m) : b < w.heap.size := h.conf.lt (by omega)
theorem PrAt.of_upd {S : Nat → Nat → Prop} {w w' : World} {b : Nat} {m : RM} (h : PrAt w b m) (u : Upd S w w') (hS : ∀ o, (o < 7 ∨ 1347 ≤ o) → ¬ S b o) : PrAt w' b m := by
  have hb := h.blt
  refine ⟨h.c0, h.conf.of_upd u (fun j _ => hS _ (by omega)), h.words.of_upd u (fun j _ => hS _ (by omega)), h.mem.of_upd u (fun j _ => hS _ (by omega)), h.tally.of_upd u (fun j _ => hS _ (by omega)), fun o => by rw [u.frozen hb]; exact h.bf o, ?_⟩
  obtain ⟨cs, o1, o2⟩ := h.obj
  obtain ⟨c', o3, o4, _⟩ := u.cells _ _ _ _ o1
  exact ⟨c', o3, o4.trans o2⟩
theorem PrAt.thereAt {w : World} {b : Nat} {m : RM} (h : PrAt w b m) (o n : Nat) (ho : o + n ≤ 1869) : w.there b o n := by
  obtain ⟨cs, h1, h2⟩ := h.obj
  intro j hj
  exact ⟨by simp [World.cell?, h1, h2]; omega, h.bf _⟩

theorem powB_size {n : Int} (h : powB n = true) : ∃ k : Nat, n = k ∧ Size k := by
  unfold powB at h
  simp only [Bool.or_eq_true, beq_iff_eq] at h
  rcases h with ((h | h) | h) | h
  · exact ⟨1, h, .inl rfl⟩
  · exact ⟨2, h, .inr (.inl rfl)⟩
  · exact ⟨4, h, .inr (.inr (.inl rfl))⟩
  · exact ⟨8, h, .inr (.inr (.inr rfl))⟩

/-- what a machine's numbers are -/
structure CfOk (c : Nat → Int) (n S W P LS LW LP : Nat) : Prop where
  e0 : c 0 = n
  e1 : c 1 = S
  e2 : c 2 = W
  e3 : c 3 = P
  e4 : c 4 = LS
  e5 : c 5 = LW
  e6 : c 6 = LP
  n0 : 0 < n ∧ n ≤ 4
  sS : Size S
  sW : Size W
  sP : P ≤ 1
  sLS : Size LS
  sLW : Size LW
  sLP : LP ≤ 4

theorem cf_ok {c : Nat → Int} (h : checkE c = 0) : ∃ n S W P LS LW LP, CfOk c n S W P LS LW LP := by
  unfold checkE at h
  rw [checkB_eq] at h
  split at h
  · omega
  · rename_i h0
    split at h
    · omega
    · rename_i h1
      split at h
      · omega
      · rename_i h2
        split at h
        · omega
        · rename_i h3
          split at h
          · omega
          · rename_i h4
            have p1 : powB (c 1) = true := by cases e : powB (c 1); exact absurd (.inl e) h1; rfl
            have p4 : powB (c 4) = true := by cases e : powB (c 4); exact absurd (.inr e) h1; rfl
            have p2 : powB (c 2) = true := by cases e : powB (c 2); exact absurd (.inl e) h2; rfl
            have p5 : powB (c 5) = true := by cases e : powB (c 5); exact absurd (.inr e) h2; rfl
            obtain ⟨S, e1, s1⟩ := powB_size p1
            obtain ⟨LS, e4, s4⟩ := powB_size p4
            obtain ⟨W, e2, s2⟩ := powB_size p2
            obtain ⟨LW, e5, s5⟩ := powB_size p5
            exact ⟨(c 0).toNat, S, W, (c 3).toNat, LS, LW, (c 6).toNat, by omega, e1, e2, by omega, e4, e5, by omega, by omega, s1, s2, by omega, s4, s5, by omega⟩

theorem freshS_eq {m : RM} {n S W P LS LW LP : Nat} (h : CfOk m.conf n S W P LS LW LP) : m.freshS = { m with firsts := fun _ => newRC S W P, far := newRC LS LW LP, has := fun _ _ => 0, lasts := fun _ => 0 } := by
  unfold RM.freshS
  rw [h.e1, h.e2, h.e3, h.e4, h.e5, h.e6]
  rfl

theorem built100 : Try.prog.built 66 [] = some (zc 256) := by kernel_rfl
theorem zero100 : Try.zeroCells66 = zc 256 := by kernel_rfl
theorem built99 : Try.prog.built 65 [] = some (zc 64) := by kernel_rfl
theorem size100 : (Try.prog.info? 66).map (·.size) = some 256 := by kernel_rfl
theorem size99 : (Try.prog.info? 65).map (·.size) = some 64 := by kernel_rfl
theorem zc_one (n : Nat) : (zc n).all (·.oneCell') = true := all_ints (fun j hj => ⟨0, zc_get n j (by rw [zc_size] at hj; exact hj)⟩)

theorem zc_range (n : Nat) {w : World} {b o : Nat} (h : w.there b o (zc n).size) : ∀ j, j < n → (w.setCells b o (zc n).toList).cell? ⟨b, o + j, none⟩ = some (.int .i64 0) := fun j hj =>
  World.rangeAt_setCells_same w b o (zc n).toList (by rw [Array.length_toList]; exact h) j _ (by have := zc_get n j hj; simpa using this)
theorem zc_upd (n : Nat) (w : World) (b o : Nat) : Upd (rowS b o n) w (w.setCells b o (zc n).toList) :=
  upd_setCells (Upd.refl _ _) (fun _ j hj => by rw [Array.length_toList, zc_size] at hj; exact ⟨rfl, by omega, by omega⟩)

/-- the last part of 'empty', in memory -/
theorem pm_fresh {w3 : World} {b : Nat} {m : RM} {n S W P LS LW LP : Nat} {cs : Array Value} (hr : PrAt w3 b m) (hcf : CfOk m.conf n S W P LS LW LP) (hcs : ∀ i, i < n → CacheAt w3 b (7 + i * 204) (newRC S W P)) (ha : ArrC cs (newRC LS LW LP)) :
    w3.there b 823 cs.size ∧ (w3.setCells b 823 cs.toList).there b 1027 (zc 256).size ∧ ((w3.setCells b 823 cs.toList).setCells b 1027 (zc 256).toList).there b 1283 (zc 64).size ∧
    PmAt (((w3.setCells b 823 cs.toList).setCells b 1027 (zc 256).toList).setCells b 1283 (zc 64).toList) b m.freshS ∧ Upd (blkS b) w3 (((w3.setCells b 823 cs.toList).setCells b 1027 (zc 256).toList).setCells b 1283 (zc 64).toList) := by
  have hz := ha.size
  have hn := hcf.n0
  have hcn : m.cores = n := by have := hr.c0; have := hcf.e0; omega
  have th1 := hr.thereAt 823 cs.size (by omega)
  have u1 : Upd (rowS b 823 204) w3 (w3.setCells b 823 cs.toList) := upd_setCells (Upd.refl _ _) (fun _ j hj => ⟨rfl, by omega, by simp at hj; omega⟩)
  have s1 := World.rangeAt_setCells_same w3 b 823 cs.toList (by simpa using th1)
  have r1 : PrAt (w3.setCells b 823 cs.toList) b m := hr.of_upd u1 (fun o ho h => by have := h.2; omega)
  have th2 : (w3.setCells b 823 cs.toList).there b 1027 (zc 256).size := r1.thereAt 1027 _ (by rw [zc_size]; omega)
  have f1 : CacheAt (w3.setCells b 823 cs.toList) b 823 (newRC LS LW LP) := ha.at_ _ _ _ s1 (fun j hj => r1.bf _)
  have c1 : ∀ i, i < n → CacheAt (w3.setCells b 823 cs.toList) b (7 + i * 204) (newRC S W P) := fun i hi => (hcs i hi).of_upd u1 (fun j hj h => by have := h.2; omega)
  generalize w3.setCells b 823 cs.toList = w4 at *
  have u2 := zc_upd 256 w4 b 1027
  have s2 := zc_range 256 th2
  have r2 : PrAt (w4.setCells b 1027 (zc 256).toList) b m := r1.of_upd u2 (fun o ho h => by have := h.2; omega)
  have th3 : (w4.setCells b 1027 (zc 256).toList).there b 1283 (zc 64).size := r2.thereAt 1283 _ (by rw [zc_size]; omega)
  have f2 : CacheAt (w4.setCells b 1027 (zc 256).toList) b 823 (newRC LS LW LP) := f1.of_upd u2 (fun j hj h => by have := h.2; omega)
  have c2 : ∀ i, i < n → CacheAt (w4.setCells b 1027 (zc 256).toList) b (7 + i * 204) (newRC S W P) := fun i hi => (c1 i hi).of_upd u2 (fun j hj h => by have := h.2; omega)
  generalize w4.setCells b 1027 (zc 256).toList = w5 at *
  have u3 := zc_upd 64 w5 b 1283
  have s3 := zc_range 64 th3
  have r3 : PrAt (w5.setCells b 1283 (zc 64).toList) b m := r2.of_upd u3 (fun o ho h => by have := h.2; omega)
  refine ⟨th1, th2, th3, ?_, ((u1.mono (fun _ _ h => blk_row h)).trans (u2.mono (fun _ _ h => blk_row h))).trans (u3.mono (fun _ _ h => blk_row h))⟩
  rw [freshS_eq hcf]
  refine ⟨r3.c0, r3.conf, fun i hi => ?_, f2.of_upd u3 (fun j hj h => by have := h.2; omega), fun i l hi hl => ?_, fun j hj => ⟨s3 j hj, r3.bf _⟩, r3.words, r3.mem, r3.tally, r3.bf, r3.obj⟩
  · have hi' : i < n := by rw [← hcn]; exact hi
    exact (c2 i hi').of_upd u3 (fun j hj h => by have := h.2; omega)
  · have := s2 (i * 64 + l) (by omega)
    rw [← Nat.add_assoc] at this
    rw [u3.cell r2.blt (fun h => by have := h.2; omega)]
    exact this

set_option maxRecDepth 100000 in
set_option maxHeartbeats 2000000 in
theorem empty_any (b : Nat) (m : RM) (n S W P LS LW LP : Nat) (w : World) (hcf : CfOk m.conf n S W P LS LW LP) (H : PrAt w b m) :
    Calls Try.prog 20 #[.pointer (some ⟨b, 0, none⟩)] w fun e w' => e = .returned (.tuple #[]) ∧ PmAt w' b m.freshS ∧ Upd (blkS b) w w' := by
  have HH : Hid (PrAt w b m) := H
  have HCF : Hid (CfOk m.conf n S W P LS LW LP) := hcf
  have d0 := H.conf.c 0 (by omega)
  have d1 := H.conf.c 1 (by omega)
  have d2 := H.conf.c 2 (by omega)
  have d3 := H.conf.c 3 (by omega)
  have d4 := H.conf.c 4 (by omega)
  have d5 := H.conf.c 5 (by omega)
  have d6 := H.conf.c 6 (by omega)
  rw [hcf.e0] at d0
  rw [hcf.e1] at d1
  rw [hcf.e2] at d2
  rw [hcf.e3] at d3
  rw [hcf.e4] at d4
  rw [hcf.e5] at d5
  rw [hcf.e6] at d6
  have hb := H.blt
  have hn := hcf.n0
  have HCN : Hid (m.cores = n) := by show _ = _; have := H.c0; have := hcf.e0; omega
  clear H hcf
  go_enter Try.func20, Try.ntmps20
  go_wp2
  generalize hN : w.heap.size = N at *
  have HBN : Hid ((w.alloc (Obj.cells #[Value.int IntKind.i64 (n : Int), Value.int IntKind.i64 (S : Int), Value.int IntKind.i64 (W : Int), Value.int IntKind.i64 (P : Int), Value.int IntKind.i64 (LS : Int), Value.int IntKind.i64 (LW : Int), Value.int IntKind.i64 (LP : Int)] 23)).heap[N]? = some (.cells #[Value.int IntKind.i64 (n : Int), Value.int IntKind.i64 (S : Int), Value.int IntKind.i64 (W : Int), Value.int IntKind.i64 (P : Int), Value.int IntKind.i64 (LS : Int), Value.int IntKind.i64 (LW : Int), Value.int IntKind.i64 (LP : Int)] 23)) := by
    show _ = _
    rw [← hN]; exact heap_alloc_new _ _
  have HU0 : Hid (Upd no w (w.alloc (Obj.cells #[Value.int IntKind.i64 (n : Int), Value.int IntKind.i64 (S : Int), Value.int IntKind.i64 (W : Int), Value.int IntKind.i64 (P : Int), Value.int IntKind.i64 (LS : Int), Value.int IntKind.i64 (LW : Int), Value.int IntKind.i64 (LP : Int)] 23))) := (Upd.refl _ _).alloc _
  generalize w.alloc (Obj.cells #[Value.int IntKind.i64 (n : Int), Value.int IntKind.i64 (S : Int), Value.int IntKind.i64 (W : Int), Value.int IntKind.i64 (P : Int), Value.int IntKind.i64 (LS : Int), Value.int IntKind.i64 (LW : Int), Value.int IntKind.i64 (LP : Int)] 23) = w0 at *
  have HR0 : Hid (PrAt w0 b m) := HH.out.of_upd HU0.out (fun _ _ h => h)
  have hN0 : N < w0.heap.size := (Array.getElem?_eq_some_iff.1 HBN.out).1
  have HNN : Hid (w.heap.size = N) := hN
  clear d0 d1 d2 d3 d4 d5 d6 hN
  have HCELL : Hid (∀ wr, Upd (blkS b) w0 wr → wr.heap[N]? = some (.cells #[Value.int IntKind.i64 (n : Int), Value.int IntKind.i64 (S : Int), Value.int IntKind.i64 (W : Int), Value.int IntKind.i64 (P : Int), Value.int IntKind.i64 (LS : Int), Value.int IntKind.i64 (LW : Int), Value.int IntKind.i64 (LP : Int)] 23)) := fun wr u => by
    rw [u.block hN0 (fun o h => by have : N = b := h; omega)]; exact HBN.out
  have hb0 : b < w0.heap.size := by omega
  go_loopw [3] (fun i wr => ∃ k : Nat, k ≤ n ∧ i = .int .i64 k ∧ (∀ i, i < k → CacheAt wr b (7 + i * 204) (newRC S W P)) ∧ PrAt wr b m ∧ Upd (blkS b) w0 wr) (fun i _ => n - (intOf i).toNat)
  case atStart => exact ⟨0, Nat.zero_le _, rfl, fun i hi => absurd hi (Nat.not_lt_zero _), HR0.out, Upd.refl _ _⟩
  case round =>
    obtain ⟨k, hk, rfl, hcs, hr, hu⟩ := hrel
    have hbn := HCELL.out wr hu
    have d0 : wr.cell? ⟨N, 0, none⟩ = some (.int .i64 n) := by simp [World.cell?, hbn]
    have d1 : wr.cell? ⟨N, 1, none⟩ = some (.int .i64 S) := by simp [World.cell?, hbn]
    have d2 : wr.cell? ⟨N, 2, none⟩ = some (.int .i64 W) := by simp [World.cell?, hbn]
    have d3 : wr.cell? ⟨N, 3, none⟩ = some (.int .i64 P) := by simp [World.cell?, hbn]
    have d4 : wr.cell? ⟨N, 4, none⟩ = some (.int .i64 LS) := by simp [World.cell?, hbn]
    have d5 : wr.cell? ⟨N, 5, none⟩ = some (.int .i64 LW) := by simp [World.cell?, hbn]
    have d6 : wr.cell? ⟨N, 6, none⟩ = some (.int .i64 LP) := by simp [World.cell?, hbn]
    have HCS : Hid (∀ i, i < k → CacheAt wr b (7 + i * 204) (newRC S W P)) := hcs
    have HR : Hid (PrAt wr b m) := hr
    have HU : Hid (Upd (blkS b) w0 wr) := hu
    have hbr : b < wr.heap.size := hr.blt
    clear hcs hr hu hbn
    by_cases hlt : k < n
    · have hk4 : k < 4 := by omega
      go_wp2_with fail
      have HFIN : Hid (∀ W1 w3 cs, Upd no wr W1 → Upd no W1 w3 → ArrC cs (newRC S W P) → Sem.run Try.prog (storeCells ⟨b, 7 + k * 204, none⟩ cs.toList) w3 = .ok () (w3.setCells b (7 + k * 204) cs.toList) ∧ (∀ i, i < k + 1 → CacheAt (w3.setCells b (7 + k * 204) cs.toList) b (7 + i * 204) (newRC S W P)) ∧ PrAt (w3.setCells b (7 + k * 204) cs.toList) b m ∧ Upd (blkS b) w0 (w3.setCells b (7 + k * 204) cs.toList)) := by
        intro W1 w3 cs u1 u2 ha
        have u := u1.trans u2
        have hr3 : PrAt w3 b m := HR.out.of_upd u (fun _ _ h => h)
        have hth := hr3.thereAt (7 + k * 204) cs.toList.length (by have := ha.size; simp; omega)
        have hur : Upd (rowS b (7 + k * 204) 204) w3 (w3.setCells b (7 + k * 204) cs.toList) := upd_setCells (Upd.refl _ _) (fun _ j hj => ⟨rfl, by omega, by have := ha.size; simp at hj; omega⟩)
        have hsame := World.rangeAt_setCells_same w3 b (7 + k * 204) cs.toList hth
        refine ⟨?_, fun i hi => ?_, hr3.of_upd hur (fun o ho h => by have := h.2; omega), (HU.out.trans (u.mono (fun _ _ h => h.elim))).trans (hur.mono (fun _ _ h => blk_row h))⟩
        · have := run_storeCells_cells (P := Try.prog) b (7 + k * 204) cs.toList 0 w3 (fun j hj => by simpa using (hth j hj).1) (fun j hj => by simpa using (hth j hj).2) (fun v hv => (Array.all_eq_true_iff_forall_mem.1 ha.one) v (by simpa using hv))
          simpa using this
        · by_cases e : i = k
          · subst e
            exact ha.at_ _ _ _ hsame (fun j hj => by rw [World.frozen?_setCells]; exact hr3.bf _)
          · exact ((HCS.out i (by omega)).of_upd u (fun _ _ h => h)).of_upd hur (fun j hj h => by have := h.2; omega)
      go_region_with (go_at_call 37; refine (cNew_any S W P _ HCF.out.sS HCF.out.sW).mono ?_; rintro e1 w3 ⟨⟨cs, rfl, harr⟩, hu3⟩; have hfin := HFIN.out _ w3 cs (by (repeat (first | exact Upd.refl _ _ | apply Upd.drew | apply Upd.alloc))) hu3 harr; have hrun := hfin.1; have hz : cs.size = 204 := harr.size; have HG := (show Hid _ from hfin.2); clear hfin harr hu3)
      all_goals
        go_wp2
        go_roundw
        case rel => exact ⟨k + 1, by omega, by go_num, HG.out⟩
        case measure => simp [intOf]; omega
    · have hkn : k = n := by omega
      subst hkn
      go_wp2_with fail
      refine (cNew_any LS LW LP _ HCF.out.sLS HCF.out.sLW).mono ?_
      rintro e w3 ⟨⟨cs, rfl, ha⟩, hu3⟩
      obtain ⟨hth1, hth2, hth3, hpm, hupd⟩ := pm_fresh (HR.out.of_upd hu3 (fun _ _ h => h)) HCF.out (fun i hi => (HCS.out i hi).of_upd hu3 (fun _ _ h => h)) ha
      have hz : cs.size = 204 := ha.size
      have HON : Hid (cs.all (·.oneCell') = true) := ha.one
      have HPM := (show Hid _ from hpm)
      have HUP := (show Hid _ from (((HU0.out.mono (S' := blkS b) (fun _ _ h => h.elim)).trans HU.out).trans (hu3.mono (fun _ _ h => h.elim))).trans hupd)
      have HT1 := (show Hid _ from hth1)
      have HT2 := (show Hid _ from hth2)
      have HT3 := (show Hid _ from hth3)
      clear hth1 hth2 hth3 hpm hupd hu3 ha
      go_upto_region 6 with (refine wpList_store_mid rfl 63 _ _ rfl b 823 cs (by rfl) (by rfl) HT1.out (by rw [hz]; exact size97) HON.out ?_)
      generalize w3.setCells b 823 cs.toList = w4 at *
      go_upto_region 7 with (refine wpList_store_mid rfl 66 _ _ rfl b 1027 (zc 256) ?_ ?_ ?_ ?_ ?_ ?_)
      · rfl
      · exact congrArg Value.agg zero100
      · exact HT2.out
      · rw [zc_size]; exact size100
      · exact zc_one 256
      generalize w4.setCells b 1027 (zc 256).toList = w5 at *
      go_wp2_with (refine wpList_store_mid rfl 65 _ _ rfl b 1283 (zc 64) ?_ ?_ ?_ ?_ ?_ ?_)
      · rfl
      · kernel_rfl
      · exact HT3.out
      · rw [zc_size]; exact size99
      · exact zc_one 64
      go_end0
      exact ⟨rfl, HPM.out, HUP.out⟩

end Go.Proofs.Ytobniidkkmlilab
