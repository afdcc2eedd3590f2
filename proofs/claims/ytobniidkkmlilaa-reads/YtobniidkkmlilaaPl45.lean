import Derived.Test.YtobniidkkmlilaaPl42
import Derived.Test.YtobniidkkmlilaaPl43
import Derived.Test.YtobniidkkmlilaaPl44

/- The walks over package coherentlaw: does. -/
namespace Go.Proofs.Ytobniidkkmlilaa
open Go.RowKit Go.Coh

theorem which2 : WhichOk 2 := by unfold WhichOk; omega
theorem which0 : WhichOk 0 := by unfold WhichOk; omega

set_option maxRecDepth 100000 in
set_option maxHeartbeats 4000000 in
theorem does_nil3 (mm a b c : Int) (cf : Nat → Int) (w : World) :
    Calls Try.prog 52 #[.agg (prC none), .agg (opC 3 mm a b c cf)] w fun e w' => ∃ q, e = .returned (.tuple #[.bool true, .int .i64 q]) ∧ WhichOk q ∧ Upd no w w' := by
  unfold prC opC
  dsimp only
  go_enter Try.func52, Try.ntmps52
  go_wp2_with fail
  refine (pLoad_nil a b _).mono ?_
  rintro e w1 ⟨rfl, rfl⟩
  go_wp2_with fail
  refine (refLoad_nil a b _).mono ?_
  rintro e w2 ⟨rfl, rfl⟩
  go_wp2
  go_ret2
  exact ⟨2, rfl, which2, ((Upd.refl _ _).alloc _).alloc _⟩

set_option maxRecDepth 100000 in
set_option maxHeartbeats 4000000 in
theorem does_nil4 (mm a b c : Int) (cf : Nat → Int) (w : World) :
    Calls Try.prog 52 #[.agg (prC none), .agg (opC 4 mm a b c cf)] w fun e w' => ∃ q, e = .returned (.tuple #[.bool true, .int .i64 q]) ∧ WhichOk q ∧ Upd no w w' := by
  unfold prC opC
  dsimp only
  go_enter Try.func52, Try.ntmps52
  go_wp2_with fail
  refine (pStoreR_nil a b c _).mono ?_
  rintro e w1 ⟨rfl, rfl⟩
  go_wp2_with fail
  refine (refStore_nil a b c _).mono ?_
  rintro e w2 ⟨rfl, rfl⟩
  go_wp2
  go_ret2
  exact ⟨2, rfl, which2, ((Upd.refl _ _).alloc _).alloc _⟩

set_option maxRecDepth 100000 in
set_option maxHeartbeats 4000000 in
theorem does_nil5 (mm a b c : Int) (cf : Nat → Int) (w : World) :
    Calls Try.prog 52 #[.agg (prC none), .agg (opC 5 mm a b c cf)] w fun e w' => ∃ q, e = .returned (.tuple #[.bool true, .int .i64 q]) ∧ WhichOk q ∧ Upd no w w' := by
  unfold prC opC
  dsimp only
  go_enter Try.func52, Try.ntmps52
  go_wp2_with fail
  refine (pEvict_nil a b _).mono ?_
  rintro e w1 ⟨rfl, rfl⟩
  go_wp2_with fail
  refine (refEvict_nil a b _).mono ?_
  rintro e w2 ⟨rfl, rfl⟩
  go_wp2
  go_ret2
  exact ⟨2, rfl, which2, ((Upd.refl _ _).alloc _).alloc _⟩

set_option maxRecDepth 100000 in
set_option maxHeartbeats 4000000 in
theorem does_nil6 (mm a b c : Int) (cf : Nat → Int) (w : World) :
    Calls Try.prog 52 #[.agg (prC none), .agg (opC 6 mm a b c cf)] w fun e w' => ∃ q, e = .returned (.tuple #[.bool true, .int .i64 q]) ∧ WhichOk q ∧ Upd no w w' := by
  unfold prC opC
  dsimp only
  go_enter Try.func52, Try.ntmps52
  go_wp2_with fail
  refine (pDrain_nil _).mono ?_
  rintro e w1 ⟨rfl, rfl⟩
  go_wp2_with fail
  refine (refDrain_nil _).mono ?_
  rintro e w2 ⟨rfl, rfl⟩
  go_wp2
  go_ret2
  exact ⟨2, rfl, which2, ((Upd.refl _ _).alloc _).alloc _⟩

set_option maxRecDepth 100000 in
set_option maxHeartbeats 4000000 in
theorem does_nilA (k mm a b c : Int) (cf : Nat → Int) (w : World) (hk : k = 7 ∨ k = 8 ∨ k = 9 ∨ k = 10) :
    Calls Try.prog 52 #[.agg (prC none), .agg (opC k mm a b c cf)] w fun e w' => ∃ q, e = .returned (.tuple #[.bool true, .int .i64 q]) ∧ WhichOk q ∧ Upd no w w' := by
  have HA : Hid (∀ w', Calls Try.prog 81 #[.agg (prC none), .agg (opC k mm a b c cf)] w' fun e w'' => ∃ q, e = .returned (.tuple #[.bool true, .int .i64 q]) ∧ WhichOk q ∧ Upd no w' w'') := fun w' => asks_nil k mm a b c cf w'
  unfold prC opC at *
  dsimp only at *
  rcases hk with rfl | rfl | rfl | rfl
  · go_enter Try.func52, Try.ntmps52
    go_wp2_with fail
    refine (HA.out _).mono ?_
    rintro e w1 ⟨q, rfl, hq, hu⟩
    have HQ : Hid (WhichOk q) := hq
    have HU := (show Hid _ from (((Upd.refl no w).alloc _).alloc _).trans hu)
    clear hq hu
    go_wp2
    go_ret2
    exact ⟨q, rfl, HQ.out, HU.out⟩
  · go_enter Try.func52, Try.ntmps52
    go_wp2_with fail
    refine (HA.out _).mono ?_
    rintro e w1 ⟨q, rfl, hq, hu⟩
    have HQ : Hid (WhichOk q) := hq
    have HU := (show Hid _ from (((Upd.refl no w).alloc _).alloc _).trans hu)
    clear hq hu
    go_wp2
    go_ret2
    exact ⟨q, rfl, HQ.out, HU.out⟩
  · go_enter Try.func52, Try.ntmps52
    go_wp2_with fail
    refine (HA.out _).mono ?_
    rintro e w1 ⟨q, rfl, hq, hu⟩
    have HQ : Hid (WhichOk q) := hq
    have HU := (show Hid _ from (((Upd.refl no w).alloc _).alloc _).trans hu)
    clear hq hu
    go_wp2
    go_ret2
    exact ⟨q, rfl, HQ.out, HU.out⟩
  · go_enter Try.func52, Try.ntmps52
    go_wp2_with fail
    refine (HA.out _).mono ?_
    rintro e w1 ⟨q, rfl, hq, hu⟩
    have HQ : Hid (WhichOk q) := hq
    have HU := (show Hid _ from (((Upd.refl no w).alloc _).alloc _).trans hu)
    clear hq hu
    go_wp2
    go_ret2
    exact ⟨q, rfl, HQ.out, HU.out⟩

theorem kinds (k : Int) : k = 3 ∨ k = 4 ∨ k = 5 ∨ k = 6 ∨ (k = 7 ∨ k = 8 ∨ k = 9 ∨ k = 10) ∨ (k ≠ 3 ∧ k ≠ 4 ∧ k ≠ 5 ∧ k ≠ 6 ∧ k ≠ 7 ∧ k ≠ 8 ∧ k ≠ 9 ∧ k ≠ 10) := by omega

set_option maxRecDepth 100000 in
set_option maxHeartbeats 4000000 in
theorem does_nilO (k mm a b c : Int) (cf : Nat → Int) (w : World) (hk : k ≠ 3 ∧ k ≠ 4 ∧ k ≠ 5 ∧ k ≠ 6 ∧ k ≠ 7 ∧ k ≠ 8 ∧ k ≠ 9 ∧ k ≠ 10) :
    Calls Try.prog 52 #[.agg (prC none), .agg (opC k mm a b c cf)] w fun e w' => e = .returned (.tuple #[.bool true, .int .i64 0]) ∧ Upd no w w' := by
  have b3 : (k == 3) = false := by simpa using hk.1
  have b4 : (k == 4) = false := by simpa using hk.2.1
  have b5 : (k == 5) = false := by simpa using hk.2.2.1
  have b6 : (k == 6) = false := by simpa using hk.2.2.2.1
  have b7 : (k == 7) = false := by simpa using hk.2.2.2.2.1
  have b8 : (k == 8) = false := by simpa using hk.2.2.2.2.2.1
  have b9 : (k == 9) = false := by simpa using hk.2.2.2.2.2.2.1
  have b10 : (k == 10) = false := by simpa using hk.2.2.2.2.2.2.2
  clear hk
  unfold prC opC
  dsimp only
  go_enter Try.func52, Try.ntmps52
  go_wp2
  go_ret2
  exact ⟨rfl, ((Upd.refl _ _).alloc _).alloc _⟩

set_option maxRecDepth 100000 in
set_option maxHeartbeats 4000000 in
theorem does_anyO (x : PD) (k mm a b c : Int) (cf : Nat → Int) (w : World) (hk : k ≠ 3 ∧ k ≠ 4 ∧ k ≠ 5 ∧ k ≠ 6 ∧ k ≠ 7 ∧ k ≠ 8 ∧ k ≠ 9 ∧ k ≠ 10) :
    Calls Try.prog 52 #[.agg (prC (some x)), .agg (opC k mm a b c cf)] w fun e w' => e = .returned (.tuple #[.bool true, .int .i64 0]) ∧ Upd no w w' := by
  have b3 : (k == 3) = false := by simpa using hk.1
  have b4 : (k == 4) = false := by simpa using hk.2.1
  have b5 : (k == 5) = false := by simpa using hk.2.2.1
  have b6 : (k == 6) = false := by simpa using hk.2.2.2.1
  have b7 : (k == 7) = false := by simpa using hk.2.2.2.2.1
  have b8 : (k == 8) = false := by simpa using hk.2.2.2.2.2.1
  have b9 : (k == 9) = false := by simpa using hk.2.2.2.2.2.2.1
  have b10 : (k == 10) = false := by simpa using hk.2.2.2.2.2.2.2
  clear hk
  unfold prC opC
  dsimp only
  go_enter Try.func52, Try.ntmps52
  go_wp2
  go_ret2
  exact ⟨rfl, ((Upd.refl _ _).alloc _).alloc _⟩

theorem does_nil (k mm a b c : Int) (cf : Nat → Int) (w : World) :
    Calls Try.prog 52 #[.agg (prC none), .agg (opC k mm a b c cf)] w fun e w' => ∃ q, e = .returned (.tuple #[.bool true, .int .i64 q]) ∧ WhichOk q ∧ Upd no w w' := by
  rcases kinds k with rfl | rfl | rfl | rfl | h | h
  · exact does_nil3 mm a b c cf w
  · exact does_nil4 mm a b c cf w
  · exact does_nil5 mm a b c cf w
  · exact does_nil6 mm a b c cf w
  · exact does_nilA k mm a b c cf w h
  · refine (does_nilO k mm a b c cf w h).mono ?_
    rintro e w' ⟨rfl, hu⟩
    exact ⟨0, rfl, which0, hu⟩

/-- what a step of a pair comes to -/
def Stepped (x : PD) (B : Int) (w : World) (e : Ending) (w' : World) : Prop :=
  ∃ ok q x', e = .returned (.tuple #[.bool ok, .int .i64 q]) ∧ WhichOk q ∧ PairAt w' x' (B + 128) ∧ Goes w w' x x' ∧ (x.r1 = x.r2 → ok = true ∧ x'.r1 = x'.r2)

set_option maxRecDepth 100000 in
set_option maxHeartbeats 4000000 in
theorem does_any3 (x : PD) (mm a b c B : Int) (cf : Nat → Int) (w : World) (hB : B ≤ 576460752303423488) (H : PairAt w x B) :
    Calls Try.prog 52 #[.agg (prC (some x)), .agg (opC 3 mm a b c cf)] w (Stepped x B w) := by
  have hbl := H.p.blt
  have HH : Hid (PairAt ((w.alloc (.cells #[.pointer (some ⟨x.b, 0, none⟩), .pointer (some ⟨x.y.blk 0, 0, none⟩)] 102)).alloc (.cells #[.int .i64 3, .int .i64 mm, .int .i64 a, .int .i64 b, .int .i64 c, .int .i64 (cf 0), .int .i64 (cf 1), .int .i64 (cf 2), .int .i64 (cf 3), .int .i64 (cf 4), .int .i64 (cf 5), .int .i64 (cf 6)] 97)) x B) := H.boxes _ _
  have HL : Hid (∀ p, p < 4 + 2 * x.r2.cores → x.y.blk p < w.heap.size) := fun p hp => H.r.lt p hp
  clear H
  unfold prC opC
  dsimp only
  have HEE : Hid (refE x.r1.cores a b = refE x.r2.cores a b) := by show _ = _; rw [HH.out.c]
  obtain ⟨E, hE⟩ : ∃ E, refE x.r2.cores a b = E := ⟨_, rfl⟩
  have HE2 : Hid (refE x.r2.cores a b = E) := hE
  obtain ⟨v1, hv1⟩ : ∃ v, x.r1.lV a b = v := ⟨_, rfl⟩
  obtain ⟨v2, hv2⟩ : ∃ v, x.r2.lV a b = v := ⟨_, rfl⟩
  obtain ⟨p1, hp1⟩ : ∃ v, x.r1.lW a b = v := ⟨_, rfl⟩
  obtain ⟨p2, hp2⟩ : ∃ v, x.r2.lW a b = v := ⟨_, rfl⟩
  have HV : Hid (x.r1 = x.r2 → v1 = v2 ∧ p1 = p2) := fun e => ⟨by rw [← hv1, ← hv2, e], by rw [← hp1, ← hp2, e]⟩
  have HV1 : Hid (x.r1.lV a b = v1 ∧ x.r1.lW a b = p1) := ⟨hv1, hp1⟩
  have HV2 : Hid (x.r2.lV a b = v2 ∧ x.r2.lW a b = p2) := ⟨hv2, hp2⟩
  clear hv1 hv2 hp1 hp2 hE
  go_enter Try.func52, Try.ntmps52
  go_wp2_with fail
  refine (pLoad_all x.b x.r1 a b B _ HH.out.i1 (by omega) HH.out.p).mono ?_
  rintro e w1 ⟨rfl, g1, u1⟩
  rw [HV1.out.1, HV1.out.2, HEE.out, HE2.out]
  have hi1 := HH.out.i1.lS a b
  have HQ1 : Hid (PairAt w1 { x with r1 := x.r1.lS a b } (B + 8)) := (HH.out.mono (by omega)).step1 g1 hi1.1 (HH.out.c1.lS HH.out.i1 a b) hi1.2 u1
  obtain ⟨k1, k2, k3⟩ := boxed u1 (fun o h => by have : w.heap.size = x.b := h; omega) (fun o h => by have : w.heap.size + 1 = x.b := h; omega)
  have HU1 := (show Hid _ from u1)
  have d1 : w1.cell? ⟨w.heap.size, 1, none⟩ = some (.pointer (some ⟨x.y.blk 0, 0, none⟩)) := by simp [World.cell?, k1]
  have d2 : w1.cell? ⟨w.heap.size + 1, 2, none⟩ = some (.int .i64 a) := by simp [World.cell?, k2]
  have d3 : w1.cell? ⟨w.heap.size + 1, 3, none⟩ = some (.int .i64 b) := by simp [World.cell?, k2]
  clear g1 u1 hi1 k1 k2
  go_wp2_with fail
  refine (refLoad_all x.y x.r2 a b (B + 8) _ HQ1.out.i2 (by omega) HQ1.out.r).mono ?_
  rintro e w2 ⟨rfl, g2, u2⟩
  rw [HV2.out.1, HV2.out.2, HE2.out]
  have hi2 := HQ1.out.i2.lS a b
  have HQ2 : Hid (PairAt w2 { x with r1 := x.r1.lS a b, r2 := x.r2.lS a b } (B + 128)) := ((HQ1.out.mono (B' := B + 8 + 8) (by omega)).step2 g2 hi2.1 hi2.2 u2).mono (by omega)
  have HG : Hid (Goes w w2 x { x with r1 := x.r1.lS a b, r2 := x.r2.lS a b }) := Goes.of_boxes ((HU1.out.mono (fun _ _ h => blk_own h)).trans (u2.mono (fun _ _ h => rm_own h))) hi2.2
  have HEQ : Hid (x.r1 = x.r2 → x.r1.lS a b = x.r2.lS a b) := fun e => by rw [e]
  clear g2 u2 hi2 d1 d2 d3
  by_cases hv : v1 = v2
  · by_cases hp : p1 = p2
    · subst hv
      subst hp
      go_wp2
      go_ret2
      exact ⟨true, 2, _, rfl, which2, HQ2.out, HG.out, fun e => ⟨rfl, HEQ.out e⟩⟩
    · subst hv
      have hpb : (p1 == p2) = false := by simpa using hp
      have HNE : Hid (¬ p1 = p2) := hp
      clear hp
      go_wp2
      go_ret2
      exact ⟨false, 2, _, rfl, which2, HQ2.out, HG.out, fun e => absurd (HV.out e).2 HNE.out⟩
  · have hvb : (v1 == v2) = false := by simpa using hv
    have HNE : Hid (¬ v1 = v2) := hv
    clear hv
    go_wp2
    go_ret2
    exact ⟨false, 2, _, rfl, which2, HQ2.out, HG.out, fun e => absurd (HV.out e).1 HNE.out⟩

set_option maxRecDepth 100000 in
set_option maxHeartbeats 4000000 in
theorem does_any4 (x : PD) (mm a b c B : Int) (cf : Nat → Int) (w : World) (hB : B ≤ 576460752303423488) (H : PairAt w x B) :
    Calls Try.prog 52 #[.agg (prC (some x)), .agg (opC 4 mm a b c cf)] w (Stepped x B w) := by
  have hbl := H.p.blt
  have HH : Hid (PairAt ((w.alloc (.cells #[.pointer (some ⟨x.b, 0, none⟩), .pointer (some ⟨x.y.blk 0, 0, none⟩)] 102)).alloc (.cells #[.int .i64 4, .int .i64 mm, .int .i64 a, .int .i64 b, .int .i64 c, .int .i64 (cf 0), .int .i64 (cf 1), .int .i64 (cf 2), .int .i64 (cf 3), .int .i64 (cf 4), .int .i64 (cf 5), .int .i64 (cf 6)] 97)) x B) := H.boxes _ _
  have HL : Hid (∀ p, p < 4 + 2 * x.r2.cores → x.y.blk p < w.heap.size) := fun p hp => H.r.lt p hp
  clear H
  unfold prC opC
  dsimp only
  have HEE : Hid (refE x.r1.cores a b = refE x.r2.cores a b) := by show _ = _; rw [HH.out.c]
  obtain ⟨E, hE⟩ : ∃ E, refE x.r2.cores a b = E := ⟨_, rfl⟩
  have HE2 : Hid (refE x.r2.cores a b = E) := hE
  obtain ⟨p1, hp1⟩ : ∃ v, x.r1.sW a b = v := ⟨_, rfl⟩
  obtain ⟨p2, hp2⟩ : ∃ v, x.r2.sW a b = v := ⟨_, rfl⟩
  have HV : Hid (x.r1 = x.r2 → p1 = p2) := fun e => by rw [← hp1, ← hp2, e]
  have HV1 : Hid (x.r1.sW a b = p1) := hp1
  have HV2 : Hid (x.r2.sW a b = p2) := hp2
  clear hp1 hp2 hE
  go_enter Try.func52, Try.ntmps52
  go_wp2_with fail
  refine (pStore_all x.b x.r1 a b c B _ HH.out.i1 HH.out.c1 (by omega) HH.out.p).mono ?_
  rintro e w1 ⟨rfl, g1, u1⟩
  rw [HV1.out, HEE.out, HE2.out]
  have hi1 := HH.out.i1.sS a b c
  have HQ1 : Hid (PairAt w1 { x with r1 := x.r1.sS a b c } (B + 12)) := (HH.out.mono (by omega)).step1 g1 hi1.1 (HH.out.c1.sS HH.out.i1 a b c) hi1.2 u1
  obtain ⟨k1, k2, k3⟩ := boxed u1 (fun o h => by have : w.heap.size = x.b := h; omega) (fun o h => by have : w.heap.size + 1 = x.b := h; omega)
  have HU1 := (show Hid _ from u1)
  have d1 : w1.cell? ⟨w.heap.size, 1, none⟩ = some (.pointer (some ⟨x.y.blk 0, 0, none⟩)) := by simp [World.cell?, k1]
  have d2 : w1.cell? ⟨w.heap.size + 1, 2, none⟩ = some (.int .i64 a) := by simp [World.cell?, k2]
  have d3 : w1.cell? ⟨w.heap.size + 1, 3, none⟩ = some (.int .i64 b) := by simp [World.cell?, k2]
  have d4 : w1.cell? ⟨w.heap.size + 1, 4, none⟩ = some (.int .i64 c) := by simp [World.cell?, k2]
  clear g1 u1 hi1 k1 k2
  go_wp2_with fail
  refine (refStore_all x.y x.r2 a b c (B + 12) _ HQ1.out.i2 (by omega) HQ1.out.r).mono ?_
  rintro e w2 ⟨rfl, g2, u2⟩
  rw [HV2.out, HE2.out]
  have hi2 := HQ1.out.i2.sS a b c
  have HQ2 : Hid (PairAt w2 { x with r1 := x.r1.sS a b c, r2 := x.r2.sS a b c } (B + 128)) := ((HQ1.out.mono (B' := B + 12 + 12) (by omega)).step2 g2 hi2.1 hi2.2 u2).mono (by omega)
  have HG : Hid (Goes w w2 x { x with r1 := x.r1.sS a b c, r2 := x.r2.sS a b c }) := Goes.of_boxes ((HU1.out.mono (fun _ _ h => blk_own h)).trans (u2.mono (fun _ _ h => rm_own h))) hi2.2
  have HEQ : Hid (x.r1 = x.r2 → x.r1.sS a b c = x.r2.sS a b c) := fun e => by rw [e]
  clear g2 u2 hi2 d1 d2 d3 d4
  by_cases hp : p1 = p2
  · subst hp
    go_wp2
    go_ret2
    exact ⟨true, 2, _, rfl, which2, HQ2.out, HG.out, fun e => ⟨rfl, HEQ.out e⟩⟩
  · have hpb : (p1 == p2) = false := by simpa using hp
    have HNE : Hid (¬ p1 = p2) := hp
    clear hp
    go_wp2
    go_ret2
    exact ⟨false, 2, _, rfl, which2, HQ2.out, HG.out, fun e => absurd (HV.out e) HNE.out⟩

set_option maxRecDepth 100000 in
set_option maxHeartbeats 4000000 in
theorem does_any5 (x : PD) (mm a b c B : Int) (cf : Nat → Int) (w : World) (H : PairAt w x B) :
    Calls Try.prog 52 #[.agg (prC (some x)), .agg (opC 5 mm a b c cf)] w (Stepped x B w) := by
  have hbl := H.p.blt
  have HH : Hid (PairAt ((w.alloc (.cells #[.pointer (some ⟨x.b, 0, none⟩), .pointer (some ⟨x.y.blk 0, 0, none⟩)] 102)).alloc (.cells #[.int .i64 5, .int .i64 mm, .int .i64 a, .int .i64 b, .int .i64 c, .int .i64 (cf 0), .int .i64 (cf 1), .int .i64 (cf 2), .int .i64 (cf 3), .int .i64 (cf 4), .int .i64 (cf 5), .int .i64 (cf 6)] 97)) x B) := H.boxes _ _
  clear H
  unfold prC opC
  dsimp only
  have HEE : Hid (stateE x.r1.cores a b = stateE x.r2.cores a b) := by show _ = _; rw [HH.out.c]
  obtain ⟨E, hE⟩ : ∃ E, stateE x.r2.cores a b = E := ⟨_, rfl⟩
  have HE2 : Hid (stateE x.r2.cores a b = E) := hE
  clear hE
  go_enter Try.func52, Try.ntmps52
  go_wp2_with fail
  refine (pEvict_all x.b x.r1 a b B _ HH.out.i1 HH.out.p).mono ?_
  rintro e w1 ⟨rfl, g1, u1⟩
  rw [HEE.out, HE2.out]
  have HQ1 : Hid (PairAt w1 { x with r1 := x.r1.evictS a b } B) := HH.out.step1 g1 (HH.out.i1.evict a b) (HH.out.c1.evict HH.out.i1 a b) (evictS_cores _ _ _) u1
  obtain ⟨k1, k2, k3⟩ := boxed u1 (fun o h => by have : w.heap.size = x.b := h; omega) (fun o h => by have : w.heap.size + 1 = x.b := h; omega)
  have HU1 := (show Hid _ from u1)
  have d1 : w1.cell? ⟨w.heap.size, 1, none⟩ = some (.pointer (some ⟨x.y.blk 0, 0, none⟩)) := by simp [World.cell?, k1]
  have d2 : w1.cell? ⟨w.heap.size + 1, 2, none⟩ = some (.int .i64 a) := by simp [World.cell?, k2]
  have d3 : w1.cell? ⟨w.heap.size + 1, 3, none⟩ = some (.int .i64 b) := by simp [World.cell?, k2]
  clear g1 u1 k1 k2
  go_wp2_with fail
  refine (refEvict_all x.y x.r2 a b B _ HQ1.out.i2 HQ1.out.r).mono ?_
  rintro e w2 ⟨rfl, g2, u2⟩
  rw [HE2.out]
  have HQ2 : Hid (PairAt w2 { x with r1 := x.r1.evictS a b, r2 := x.r2.evictS a b } (B + 128)) := (HQ1.out.step2 g2 (HQ1.out.i2.evict a b) (evictS_cores _ _ _) u2).mono (by omega)
  have HG : Hid (Goes w w2 x { x with r1 := x.r1.evictS a b, r2 := x.r2.evictS a b }) := Goes.of_boxes ((HU1.out.mono (fun _ _ h => blk_own h)).trans (u2.mono (fun _ _ h => rm_own h))) (evictS_cores _ _ _)
  have HEQ : Hid (x.r1 = x.r2 → x.r1.evictS a b = x.r2.evictS a b) := fun e => by rw [e]
  clear g2 u2 d1 d2 d3
  go_wp2
  go_ret2
  exact ⟨true, 2, _, rfl, which2, HQ2.out, HG.out, fun e => ⟨rfl, HEQ.out e⟩⟩

set_option maxRecDepth 100000 in
set_option maxHeartbeats 4000000 in
theorem does_any6 (x : PD) (mm a b c B : Int) (cf : Nat → Int) (w : World) (hB : B ≤ 576460752303423488) (H : PairAt w x B) :
    Calls Try.prog 52 #[.agg (prC (some x)), .agg (opC 6 mm a b c cf)] w (Stepped x B w) := by
  have hbl := H.p.blt
  have HH : Hid (PairAt ((w.alloc (.cells #[.pointer (some ⟨x.b, 0, none⟩), .pointer (some ⟨x.y.blk 0, 0, none⟩)] 102)).alloc (.cells #[.int .i64 6, .int .i64 mm, .int .i64 a, .int .i64 b, .int .i64 c, .int .i64 (cf 0), .int .i64 (cf 1), .int .i64 (cf 2), .int .i64 (cf 3), .int .i64 (cf 4), .int .i64 (cf 5), .int .i64 (cf 6)] 97)) x B) := H.boxes _ _
  clear H
  unfold prC opC
  dsimp only
  go_enter Try.func52, Try.ntmps52
  go_wp2_with fail
  refine (pDrain_any x.b x.r1 B _ HH.out.i1 (by omega) HH.out.p).mono ?_
  rintro e w1 ⟨rfl, g1, u1⟩
  have HQ1 : Hid (PairAt w1 { x with r1 := x.r1.drainS } (B + 64)) := (HH.out.mono (by omega)).step1 g1 HH.out.i1.drain (HH.out.c1.drain HH.out.i1).1 (drainS_cores _) u1
  obtain ⟨k1, k2, k3⟩ := boxed u1 (fun o h => by have : w.heap.size = x.b := h; omega) (fun o h => by have : w.heap.size + 1 = x.b := h; omega)
  have HU1 := (show Hid _ from u1)
  have d1 : w1.cell? ⟨w.heap.size, 1, none⟩ = some (.pointer (some ⟨x.y.blk 0, 0, none⟩)) := by simp [World.cell?, k1]
  clear g1 u1 k1 k2
  go_wp2_with fail
  refine (refDrain_any x.y x.r2 (B + 64) _ HQ1.out.i2 (by omega) HQ1.out.r).mono ?_
  rintro e w2 ⟨rfl, ⟨y', hy, g2, hlo⟩, u2⟩
  have hbne : ∀ p, p < 4 + 2 * x.r2.drainS.cores → x.b ≠ y'.blk p := fun p hp => by
    rw [drainS_cores] at hp
    by_cases h0 : p = 0
    · subst h0; rw [hy]; exact HQ1.out.ne 0 (by show 0 < 4 + 2 * x.r2.cores; omega)
    · have := hlo p (by omega) hp; omega
  have HQ2 : Hid (PairAt w2 ⟨x.b, y', x.r1.drainS, x.r2.drainS⟩ (B + 128)) := by
    have hp := HQ1.out.p.of_upd u2 (fun o e => by obtain ⟨p, hp, e⟩ := e; exact HQ1.out.ne p hp e)
    exact ⟨hp, g2, HQ1.out.i1.mono (by omega), HQ1.out.i2.drain.mono (by omega), (HH.out.c1.drain HH.out.i1).1, by show x.r1.drainS.cores = x.r2.drainS.cores; rw [drainS_cores, drainS_cores]; exact HH.out.c, hbne⟩
  have HG : Hid (Goes w w2 x ⟨x.b, y', x.r1.drainS, x.r2.drainS⟩) := by
    refine ⟨rfl, hy, fun k hk => ?_, ((((Upd.refl (ownS x) w).alloc _).alloc _).trans (HU1.out.mono (fun _ _ h => blk_own h))).trans (u2.mono (fun _ _ h => rm_own h))⟩
    rcases hk with e | ⟨p, hp, e⟩
    · exact .inl (.inl e)
    · have hp' : p < 4 + 2 * x.r2.cores := by have : p < 4 + 2 * x.r2.drainS.cores := hp; rw [drainS_cores] at this; exact this
      have e' : k = y'.blk p := e
      by_cases h0 : p = 0
      · subst h0
        exact .inl (.inr ⟨0, by omega, by rw [e', hy]⟩)
      · refine .inr ⟨?_, ?_⟩
        · have := hlo p (by omega) hp'; omega
        · rw [e']; exact g2.lt p (by rw [drainS_cores]; exact hp')
  have HEQ : Hid (x.r1 = x.r2 → x.r1.drainS = x.r2.drainS) := fun e => by rw [e]
  clear g2 u2 d1 hlo hy hbne
  go_wp2
  go_ret2
  exact ⟨true, 2, _, rfl, which2, HQ2.out, HG.out, fun e => ⟨rfl, HEQ.out e⟩⟩

set_option maxRecDepth 100000 in
set_option maxHeartbeats 4000000 in
theorem does_anyA (x : PD) (k mm a b c B : Int) (cf : Nat → Int) (w : World) (hk : k = 7 ∨ k = 8 ∨ k = 9 ∨ k = 10) (H : PairAt w x B) :
    Calls Try.prog 52 #[.agg (prC (some x)), .agg (opC k mm a b c cf)] w (Stepped x B w) := by
  have HA : Hid (∀ w', Upd no w w' → Calls Try.prog 81 #[.agg (prC (some x)), .agg (opC k mm a b c cf)] w' fun e w'' => ∃ ok q, e = .returned (.tuple #[.bool ok, .int .i64 q]) ∧ WhichOk q ∧ (x.r1 = x.r2 → ok = true) ∧ Upd no w' w'') := fun w' u => asks_any x k mm a b c cf B w' (H.of_upd u (fun _ _ _ h => h))
  have HH : Hid (∀ w', Upd no w w' → PairAt w' x (B + 128)) := fun w' u => (H.of_upd u (fun _ _ _ h => h)).mono (by omega)
  clear H
  unfold prC opC at *
  dsimp only at *
  rcases hk with rfl | rfl | rfl | rfl
  · go_enter Try.func52, Try.ntmps52
    go_wp2_with fail
    refine (HA.out _ (by (repeat (first | exact Upd.refl _ _ | apply Upd.drew | apply Upd.alloc)))).mono ?_
    rintro e w1 ⟨ok, q, rfl, hq, ho, hu⟩
    have HQ : Hid (WhichOk q) := hq
    have HO : Hid (x.r1 = x.r2 → ok = true) := ho
    have HU := (show Hid _ from (((Upd.refl no w).alloc _).alloc _).trans hu)
    clear hq hu ho
    go_wp2
    go_ret2
    exact ⟨ok, q, x, rfl, HQ.out, HH.out _ HU.out, Goes.refl w x HU.out, fun e => ⟨HO.out e, e⟩⟩
  · go_enter Try.func52, Try.ntmps52
    go_wp2_with fail
    refine (HA.out _ (by (repeat (first | exact Upd.refl _ _ | apply Upd.drew | apply Upd.alloc)))).mono ?_
    rintro e w1 ⟨ok, q, rfl, hq, ho, hu⟩
    have HQ : Hid (WhichOk q) := hq
    have HO : Hid (x.r1 = x.r2 → ok = true) := ho
    have HU := (show Hid _ from (((Upd.refl no w).alloc _).alloc _).trans hu)
    clear hq hu ho
    go_wp2
    go_ret2
    exact ⟨ok, q, x, rfl, HQ.out, HH.out _ HU.out, Goes.refl w x HU.out, fun e => ⟨HO.out e, e⟩⟩
  · go_enter Try.func52, Try.ntmps52
    go_wp2_with fail
    refine (HA.out _ (by (repeat (first | exact Upd.refl _ _ | apply Upd.drew | apply Upd.alloc)))).mono ?_
    rintro e w1 ⟨ok, q, rfl, hq, ho, hu⟩
    have HQ : Hid (WhichOk q) := hq
    have HO : Hid (x.r1 = x.r2 → ok = true) := ho
    have HU := (show Hid _ from (((Upd.refl no w).alloc _).alloc _).trans hu)
    clear hq hu ho
    go_wp2
    go_ret2
    exact ⟨ok, q, x, rfl, HQ.out, HH.out _ HU.out, Goes.refl w x HU.out, fun e => ⟨HO.out e, e⟩⟩
  · go_enter Try.func52, Try.ntmps52
    go_wp2_with fail
    refine (HA.out _ (by (repeat (first | exact Upd.refl _ _ | apply Upd.drew | apply Upd.alloc)))).mono ?_
    rintro e w1 ⟨ok, q, rfl, hq, ho, hu⟩
    have HQ : Hid (WhichOk q) := hq
    have HO : Hid (x.r1 = x.r2 → ok = true) := ho
    have HU := (show Hid _ from (((Upd.refl no w).alloc _).alloc _).trans hu)
    clear hq hu ho
    go_wp2
    go_ret2
    exact ⟨ok, q, x, rfl, HQ.out, HH.out _ HU.out, Goes.refl w x HU.out, fun e => ⟨HO.out e, e⟩⟩

theorem does_any (x : PD) (k mm a b c B : Int) (cf : Nat → Int) (w : World) (hB : B ≤ 576460752303423488) (H : PairAt w x B) :
    Calls Try.prog 52 #[.agg (prC (some x)), .agg (opC k mm a b c cf)] w (Stepped x B w) := by
  rcases kinds k with rfl | rfl | rfl | rfl | h | h
  · exact does_any3 x mm a b c B cf w hB H
  · exact does_any4 x mm a b c B cf w hB H
  · exact does_any5 x mm a b c B cf w H
  · exact does_any6 x mm a b c B cf w hB H
  · exact does_anyA x k mm a b c B cf w h H
  · refine (does_anyO x k mm a b c cf w h).mono ?_
    rintro e w' ⟨rfl, hu⟩
    exact ⟨true, 0, x, rfl, which0, (H.of_upd hu (fun _ _ _ h => h)).mono (by omega), Goes.refl w x hu, fun e => ⟨rfl, e⟩⟩

end Go.Proofs.Ytobniidkkmlilaa
