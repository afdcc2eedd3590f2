/- The walks over package coherentkeep: follows. -/
import Derived.Test.YtobniidkkmlilaaKb
namespace Go.Proofs.Ytobniidkkmlilaa
open Go.RowKit Go.Coh

/-- the lowest place from t on at which P holds, or -1 -/
def LowR (P : Nat → Prop) (n t : Nat) (r : Int) : Prop := (r = -1 ∧ ∀ j, t ≤ j → j < n → ¬ P j) ∨ ∃ a : Nat, r = a ∧ t ≤ a ∧ a < n ∧ P a ∧ ∀ j, t ≤ j → j < a → ¬ P j

theorem LowR.yes {P : Nat → Prop} {n t : Nat} (h : P t) (ht : t < n) : LowR P n t (t : Int) := .inr ⟨t, rfl, Nat.le_refl _, ht, h, fun j h1 h2 => by omega⟩
theorem LowR.not {P : Nat → Prop} {n t : Nat} {r : Int} (h : LowR P n (t + 1) r) (hp : ¬ P t) : LowR P n t r := by
  have key : ∀ j, t ≤ j → j = t ∨ t + 1 ≤ j := fun j hj => by omega
  rcases h with ⟨h1, h2⟩ | ⟨a, h1, h2, h3, h4, h5⟩
  · refine .inl ⟨h1, fun j j1 j2 => ?_⟩
    rcases key j j1 with rfl | hj
    · exact hp
    · exact h2 j hj j2
  · refine .inr ⟨a, h1, by omega, h3, h4, fun j j1 j2 => ?_⟩
    rcases key j j1 with rfl | hj
    · exact hp
    · exact h5 j hj j2
theorem LowR.top {P : Nat → Prop} (n : Nat) : LowR P n n (-1) := .inl ⟨rfl, fun j h1 h2 => by omega⟩

theorem LowR.find {L : Nat → Int} {x : Int} {n : Nat} {r : Int} (h : LowR (fun j => L j = x) n 0 r) : r = oi (findN L x n) := by
  rcases h with ⟨h1, h2⟩ | ⟨a, h1, _, h3, h4, h5⟩
  · rw [findN_none.2 (fun j hj => h2 j (Nat.zero_le _) hj)]; exact h1
  · rw [findN_some.2 ⟨h3, h4, fun j hj => h5 j (Nat.zero_le _) hj⟩]; exact h1

theorem LowR.congr {P Q : Nat → Prop} {n t : Nat} {r : Int} (h : LowR P n t r) (e : ∀ j, j < n → (P j ↔ Q j)) : LowR Q n t r := by
  rcases h with ⟨h1, h2⟩ | ⟨a, h1, h2, h3, h4, h5⟩
  · exact .inl ⟨h1, fun j j1 j2 hq => h2 j j1 j2 ((e j j2).2 hq)⟩
  · exact .inr ⟨a, h1, h2, h3, (e a h3).1 h4, fun j j1 j2 hq => h5 j j1 j2 ((e j (by omega)).2 hq)⟩

theorem holds_set0 {w : World} {g n i : Nat} {f : Nat → Int} (h : HoldsF w g 0 n f) (hi : i < n) (v : Int) : HoldsF (w.setCell ⟨g, i, none⟩ (.int .i64 v)) g 0 n (upd f i v) := by
  have h := h.set hi v
  rwa [Nat.zero_add] at h

set_option maxRecDepth 100000 in
set_option maxHeartbeats 1000000 in
theorem follows_walk (b g cap n : Nat) (x : Int) (t : Tch) (L : Nat → Int) (w : World) (hn : Size n) (hL : ∀ j, j < n → -1 ≤ L j) (hx : 0 ≤ x)
    (hs : w.cell? ⟨b, 0, none⟩ = some (.slice (some ⟨g, 0, none⟩) n cap)) (H : HoldsF w g 0 n L) (hw : t.way < n)
    (h1 : ∀ k, findN L x n = some k → t = ⟨true, k, -1⟩)
    (h2 : findN L x n = none → t.hit = false ∧ t.out = L t.way ∧ ∀ k, findN L (-1) n = some k → t.way = k) :
    Calls Try.prog 26 #[.pointer (some ⟨b, 0, none⟩), .agg (tv t), .int .i64 x] w fun e w' => e = .returned (.bool true) ∧
      HoldsF w' g 0 n (if t.hit then L else upd L t.way x) ∧ Upd (rowS g 0 n) w w' := by
  have hn8 : n ≤ 8 ∧ 0 < n := by rcases hn with h | h | h | h <;> omega
  have HL : Hid (∀ j, j < n → -1 ≤ L j) := hL
  have HH : Hid (HoldsF w g 0 n L) := H
  have H1 : Hid (∀ k, findN L x n = some k → t = ⟨true, k, -1⟩) := h1
  have H2 : Hid (findN L x n = none → t.hit = false ∧ t.out = L t.way ∧ ∀ k, findN L (-1) n = some k → t.way = k) := h2
  have hbl := World.block_lt_of_cell? w _ hs
  have hgl := H.lt hn8.2
  clear hn hL H h1 h2
  unfold tv
  go_enter Try.func26, Try.ntmps26
  go_wp2
  go_loop [7, 8, 9] (fun at_ em k => ∃ (d : Nat) (r1 r2 : Int), d ≤ n ∧ at_ = .int .i64 r1 ∧ em = .int .i64 r2 ∧ k = .int .i64 ((n : Int) - 1 - d) ∧ LowR (fun j => L j = x) n (n - d) r1 ∧ LowR (fun j => L j < 0) n (n - d) r2) (fun _ _ k => (intOf k + 1).toNat)
  case atStart => exact ⟨0, -1, -1, Nat.zero_le _, rfl, rfl, by simp, LowR.top n, LowR.top n⟩
  case round =>
    obtain ⟨d, r1, r2, hd, rfl, rfl, rfl, hr1, hr2⟩ := hrel
    by_cases hlt : d < n
    · obtain ⟨k, hk⟩ : ∃ k, n = k + 1 + d := ⟨n - d - 1, by omega⟩
      have hkk : ((n : Int) - 1 - d) = (k : Int) := by omega
      have hid : n - d = k + 1 := by omega
      rw [hid] at hr1 hr2
      rw [hkk]
      have HR1 : Hid (LowR (fun j => L j = x) n (k + 1) r1) := hr1
      have HR2 : Hid (LowR (fun j => L j < 0) n (k + 1) r2) := hr2
      have HK : Hid (n = k + 1 + d) := hk
      have hkn : k < n := by omega
      clear hk hkk hid hr1 hr2
      have hck := HH.out.c k hkn
      rw [Nat.zero_add] at hck
      by_cases e1 : L k = x
      · have hb1 : (L k == x) = true := by simpa using e1
        have hge : ¬ L k < 0 := by omega
        have HE : Hid (L k = x) := e1
        clear e1
        go_wp2
        go_round
        case rel =>
          have hK := HK.out
          exact ⟨d + 1, k, r2, by omega, rfl, rfl, by congr 1; omega, by rw [show n - (d + 1) = k by omega]; exact LowR.yes HE.out hkn, by rw [show n - (d + 1) = k by omega]; exact HR2.out.not hge⟩
        case measure => simp [intOf]
      · have hb1 : (L k == x) = false := by simpa using e1
        have HE : Hid (L k ≠ x) := e1
        clear e1
        by_cases e2 : L k < 0
        · go_wp2
          go_round
          case rel =>
            have hK := HK.out
            exact ⟨d + 1, r1, k, by omega, rfl, rfl, by congr 1; omega, by rw [show n - (d + 1) = k by omega]; exact HR1.out.not HE.out, by rw [show n - (d + 1) = k by omega]; exact LowR.yes e2 hkn⟩
          case measure => simp [intOf]
        · go_wp2
          go_round
          case rel =>
            have hK := HK.out
            exact ⟨d + 1, r1, r2, by omega, rfl, rfl, by congr 1; omega, by rw [show n - (d + 1) = k by omega]; exact HR1.out.not HE.out, by rw [show n - (d + 1) = k by omega]; exact HR2.out.not e2⟩
          case measure => simp [intOf]
    · have hdn : d = n := by omega
      subst hdn
      rw [Nat.sub_self] at hr1 hr2
      have er1 := hr1.find
      have er2 : r2 = oi (findN L (-1) d) := (hr2.congr (Q := fun j => L j = -1) (fun j hj => by have := HL.out j hj; constructor <;> intro h <;> omega)).find
      subst er1; subst er2
      clear hr1 hr2
      have hneg : ((d : Int) - 1 - d) = -1 := by omega
      rw [hneg]
      clear hneg
      cases hf : findN L x d with
      | some k =>
        have ht := H1.out k hf
        subst ht
        have hkd := (findN_some.1 hf).1
        clear hf H1 H2
        generalize oi (findN L (-1) d) = em at *
        simp only [oi]
        have hk0 : ¬ ((k : Int) < 0) := by omega
        have hd0 : decide ((k : Int) < 0) = false := by simp
        have hd1 : decide ((d : Int) ≤ (k : Int)) = false := by simp; omega
        go_wp2
        go_quiet (fail)
        go_wp2
        go_ret
        exact ⟨rfl, (HH.out.of_upd (S := no) ((Upd.refl no w).alloc _) (fun _ _ h => h)).drewN _, ((Upd.refl _ _).alloc _).drewN _⟩
      | none =>
        obtain ⟨hh, ho, he⟩ := H2.out hf
        obtain ⟨hit, way, out⟩ := t
        simp only at hh ho he hw
        subst hh
        subst ho
        clear hf H1 H2
        have HA : Hid (HoldsF (w.alloc (.cells #[.bool false, .int .i64 way, .int .i64 (L way)] 41)) g 0 d L) := HH.out.of_upd ((Upd.refl no _).alloc _) (fun _ _ h => h)
        have hcw := HH.out.c way hw
        have hfw := HH.out.f way hw
        rw [Nat.zero_add] at hcw hfw
        have hk0 : ¬ ((way : Int) < 0) := by omega
        have hd0 : decide ((way : Int) < 0) = false := by simp
        have hd1 : decide ((d : Int) ≤ (way : Int)) = false := by simp; omega
        cases hem : findN L (-1) d with
        | some k =>
          have := he k hem
          subst this
          clear he hem
          simp only [oi]
          go_wp2
          go_quiet (fail)
          go_wp2
          go_quiet (fail)
          go_wp2
          go_region
          go_wp2
          go_ret
          refine ⟨rfl, ?_, ?_⟩
          · exact holds_set0 (HA.out.drewN _) hw x
          · exact (((Upd.refl _ _).alloc _).drewN _).setCell (fun _ => ⟨rfl, Nat.zero_le _, by show way < 0 + d; omega⟩) _
        | none =>
          clear he hem
          simp only [oi]
          go_wp2
          go_quiet (fail)
          go_wp2
          go_quiet (fail)
          go_wp2
          go_region
          go_wp2
          go_ret
          refine ⟨rfl, ?_, ?_⟩
          · exact holds_set0 (HA.out.drewN _) hw x
          · exact (((Upd.refl _ _).alloc _).drewN _).setCell (fun _ => ⟨rfl, Nat.zero_le _, by show way < 0 + d; omega⟩) _

/-- what follows asks, of a touch as the set does it -/
theorem follows_any (b g cap n p : Nat) (x : Int) (s : St) (w : World) (hn : Size n) (hL : ∀ j, j < n → -1 ≤ s.L j) (hx : 0 ≤ x)
    (hs : w.cell? ⟨b, 0, none⟩ = some (.slice (some ⟨g, 0, none⟩) n cap)) (H : HoldsF w g 0 n s.L) :
    Calls Try.prog 26 #[.pointer (some ⟨b, 0, none⟩), .agg (tv (tchT p n x s)), .int .i64 x] w fun e w' => e = .returned (.bool true) ∧
      HoldsF w' g 0 n (tchS p n x s).L ∧ Upd (rowS g 0 n) w w' := by
  refine (follows_walk b g cap n x (tchT p n x s) s.L w hn hL hx hs H (tchT_way hn) (fun k hk => ?_) (fun hk => ?_)).mono ?_
  · unfold tchT; rw [hk]
  · have e : tchT p n x s = ⟨false, putW p n s.L s.A s.R, s.L (putW p n s.L s.A s.R)⟩ := by unfold tchT; rw [hk]
    rw [e]
    exact ⟨rfl, rfl, fun k he => by show putW p n s.L s.A s.R = k; unfold putW; rw [he]⟩
  · rintro e w' ⟨h1, h2, h3⟩
    refine ⟨h1, ?_, h3⟩
    have e : (if (tchT p n x s).hit then s.L else upd s.L (tchT p n x s).way x) = (tchS p n x s).L := by
      unfold tchT tchS
      cases findN s.L x n <;> rfl
    rw [e] at h2
    exact h2

theorem low_step {p n : Nat} {x : Int} {s : St} (hL : ∀ j, -1 ≤ s.L j) (hx : 0 ≤ x) (j : Nat) : -1 ≤ (tchS p n x s).L j := by
  unfold tchS
  cases findN s.L x n with
  | some k => exact hL j
  | none =>
    show -1 ≤ upd s.L _ x j
    unfold upd; split
    · omega
    · exact hL j

theorem low_run {p n : Nat} {xs : Nat → Int} (hx : ∀ i, 0 ≤ xs i) : ∀ k j, -1 ≤ (tchRun p n xs k).L j
  | 0, j => by show -1 ≤ newL n j; unfold newL; split <;> omega
  | k + 1, j => low_step (low_run hx k) (hx k) j

end Go.Proofs.Ytobniidkkmlilaa
