import Derived.Test.YtobniidkkmlilaaPk25

/- The walks over package cache: which set, which policy, the duel; a line is removed. -/
namespace Go.Proofs.Ytobniidkkmlilaa
open Go.RowKit Go.Coh

set_option maxHeartbeats 1000000 in
theorem setOf_any (b off : Nat) (x : Int) (s : RC) (w : World) (hx : 0 ≤ x) (hx2 : x < 64) (H : CacheAt w b off s) :
    Calls Try.prog 110 #[.pointer (some ⟨b, off, none⟩), .int .i64 x] w fun e w' => e = .returned (.int .i64 (s.num x : Nat)) ∧ w' = w := by
  have h1 := H.c1
  have hs := H.size.1.pos
  have HN : Hid (((s.num x : Nat) : Int) = x % s.S) := by
    show _ = _
    unfold RC.num
    have := Int.emod_nonneg x (show (s.S : Int) ≠ 0 by omega)
    omega
  clear H
  generalize s.num x = k at *
  generalize s.S = S at *
  go_enter Try.func110, Try.ntmps110
  go_wp2
  go_ret
  exact ⟨ret_int (by rw [HN.out]), rfl⟩

theorem mod4_t (k : Nat) : (k : Int).tmod 4 = ((k % 4 : Nat) : Int) := by
  rw [Int.tmod_eq_emod_of_nonneg (by omega)]; omega
theorem mod4_zero {k : Nat} (h : k % 4 = 0) : ((k : Int).tmod 4 == 0) = true ∧ ((k : Int) % 4 == 0) = true ∧ ((k : Int).tmod 4 == 1) = false ∧ ((k : Int) % 4 == 1) = false := by
  rw [mod4_t, h]; refine ⟨rfl, ?_, rfl, ?_⟩ <;> simp <;> omega
theorem mod4_one {k : Nat} (h : k % 4 = 1) : ((k : Int).tmod 4 == 0) = false ∧ ((k : Int) % 4 == 0) = false ∧ ((k : Int).tmod 4 == 1) = true ∧ ((k : Int) % 4 == 1) = true := by
  rw [mod4_t, h]; refine ⟨rfl, ?_, rfl, ?_⟩ <;> simp <;> omega
theorem mod4_more {k : Nat} (h : k % 4 ≠ 0) (h1 : k % 4 ≠ 1) : ((k : Int).tmod 4 == 0) = false ∧ ((k : Int) % 4 == 0) = false ∧ ((k : Int).tmod 4 == 1) = false ∧ ((k : Int) % 4 == 1) = false := by
  rw [mod4_t]; refine ⟨?_, ?_, ?_, ?_⟩ <;> simp <;> omega

set_option maxHeartbeats 1000000 in
theorem policyOf_any (b off k : Nat) (s : RC) (w : World) (hk : k < 8) (H : CacheAt w b off s) :
    Calls Try.prog 111 #[.pointer (some ⟨b, off, none⟩), .int .i64 k] w fun e w' => e = .returned (.int .i64 (asP s.P k s.psel : Nat)) ∧ w' = w := by
  have h0 := H.c0
  have h3 := H.ps.c 0 (by omega)
  rw [Nat.add_zero] at h3
  clear H
  by_cases hp : s.P = 4
  · have hpb : ((s.P : Int) != 4) = false := by simp; omega
    have HPP : Hid (s.P = 4) := hp
    have HF : Hid (asP s.P k s.psel = if k % 4 = 0 then 2 else if k % 4 = 1 then 3 else if s.psel ≤ 7 then 2 else 3) := by show _ = _; unfold asP; rw [if_neg (by omega)]
    clear hp
    generalize s.P = P at *
    generalize s.psel = ps at *
    by_cases k0 : k % 4 = 0
    · obtain ⟨b1, b2, b3, b4⟩ := mod4_zero k0
      go_enter Try.func111, Try.ntmps111
      go_wp2
      go_ret
      exact ⟨ret_int (by rw [HF.out, if_pos k0]; rfl), rfl⟩
    · by_cases k1 : k % 4 = 1
      · obtain ⟨b1, b2, b3, b4⟩ := mod4_one k1
        go_enter Try.func111, Try.ntmps111
        go_wp2
        go_ret
        exact ⟨ret_int (by rw [HF.out, if_neg k0, if_pos k1]; rfl), rfl⟩
      · obtain ⟨b1, b2, b3, b4⟩ := mod4_more k0 k1
        by_cases h7 : ps ≤ 7
        · go_enter Try.func111, Try.ntmps111
          go_wp2
          go_ret
          exact ⟨ret_int (by rw [HF.out, if_neg k0, if_neg k1, if_pos h7]; rfl), rfl⟩
        · go_enter Try.func111, Try.ntmps111
          go_wp2
          go_ret
          exact ⟨ret_int (by rw [HF.out, if_neg k0, if_neg k1, if_neg (by omega)]; rfl), rfl⟩
  · have hpb : ((s.P : Int) != 4) = true := by simp; omega
    have HF : Hid (asP s.P k s.psel = s.P) := by unfold asP; rw [if_pos hp]; rfl
    clear hp
    generalize s.P = P at *
    generalize s.psel = ps at *
    go_enter Try.func111, Try.ntmps111
    go_wp2
    go_ret
    exact ⟨ret_int (by rw [HF.out]), rfl⟩

theorem CacheAt.setPsel {w : World} {b off : Nat} {s : RC} (h : CacheAt w b off s) (v : Int) (hf : ∀ o, w.frozen? ⟨b, o, none⟩ = false) : CacheAt (w.setCell ⟨b, off + 203, none⟩ (.int .i64 v)) b off { s with psel := v } := by
  obtain ⟨D, hD, hS⟩ := h.sets
  have fz : ∀ a, (w.setCell ⟨b, off + 203, none⟩ (.int .i64 v)).frozen? a = w.frozen? a := fun a => World.frozen?_setCell _ _ _ _
  refine ⟨⟨D, ⟨hD.set, hD.c, hD.bd, hD.f, hD.k, hD.sz, hD.wz⟩, fun i hi => SetAt.move (hS i hi) (fun j hj => ⟨cell_set_ne (.inr ?_), by rw [fz]; exact hf _⟩)⟩, ?_, ?_, HoldsF.move h.rk (fun j hj => ⟨cell_set_ne (.inr (by omega)), by rw [fz]; exact hf _⟩), fun j hj => ⟨?_, by rw [fz]; exact hf _⟩⟩
  · have := hD.sz.pos
    have hi' : i < s.S := hi
    omega
  · rw [cell_set_ne (.inr (by omega))]; exact h.c0
  · rw [cell_set_ne (.inr (by omega))]; exact h.c1
  · rw [show j = 0 by omega, Nat.add_zero]
    have := h.ps.c 0 (by omega)
    rw [Nat.add_zero] at this
    exact World.cell?_setCell_same _ _ _ this

set_option maxRecDepth 100000 in
set_option maxHeartbeats 1000000 in
theorem cMissed_any (b off k : Nat) (s : RC) (w : World) (hk : k < 8) (hps : 0 ≤ s.psel ∧ s.psel ≤ 15) (hf : ∀ o, w.frozen? ⟨b, o, none⟩ = false) (H : CacheAt w b off s) :
    Calls Try.prog 112 #[.pointer (some ⟨b, off, none⟩), .int .i64 k] w fun e w' => e = .returned (.tuple #[]) ∧ CacheAt w' b off { s with psel := pselN s.P k s.psel } ∧ Upd (rowS b off 204) w w' := by
  have h0 := H.c0
  have h3 := H.ps.c 0 (by omega)
  have h3f := H.ps.f 0 (by omega)
  rw [Nat.add_zero] at h3 h3f
  have HH : Hid (CacheAt w b off s) := H
  have HFR : Hid (∀ o, w.frozen? ⟨b, o, none⟩ = false) := hf
  have HU : ∀ v, Hid (Upd (rowS b off 204) w (w.setCell ⟨b, off + 203, none⟩ v)) := fun v => (Upd.refl _ _).setCell (fun _ => ⟨rfl, by simp, by simp⟩) _
  clear H hf
  by_cases hp : s.P = 4
  · have hpb : ((s.P : Int) != 4) = false := by simp; omega
    by_cases k0 : k % 4 = 0
    · obtain ⟨b1, b2, b3, b4⟩ := mod4_zero k0
      by_cases h15 : s.psel < 15
      · have HF : Hid (pselN s.P k s.psel = s.psel + 1) := by show _ = _; unfold pselN; rw [if_neg (by omega), if_pos (by omega), if_pos h15]
        clear hp k0
        go_enter Try.func112, Try.ntmps112
        go_wp2
        go_end0
        exact ⟨rfl, by rw [HF.out]; exact HH.out.setPsel _ HFR.out, (HU _).out⟩
      · have HF : Hid (pselN s.P k s.psel = s.psel) := by show _ = _; unfold pselN; rw [if_neg (by omega), if_pos (by omega), if_neg (by omega)]
        clear hp k0
        go_enter Try.func112, Try.ntmps112
        go_wp2
        go_end0
        exact ⟨rfl, by rw [HF.out]; exact HH.out, Upd.refl _ _⟩
    · by_cases k1 : k % 4 = 1
      · obtain ⟨b1, b2, b3, b4⟩ := mod4_one k1
        by_cases h00 : s.psel > 0
        · have HF : Hid (pselN s.P k s.psel = s.psel - 1) := by show _ = _; unfold pselN; rw [if_neg (by omega), if_neg (by omega), if_pos (by omega), if_pos (by omega)]
          clear hp k0 k1
          go_enter Try.func112, Try.ntmps112
          go_wp2
          go_end0
          exact ⟨rfl, by rw [HF.out]; exact HH.out.setPsel _ HFR.out, (HU _).out⟩
        · have HF : Hid (pselN s.P k s.psel = s.psel) := by show _ = _; unfold pselN; rw [if_neg (by omega), if_neg (by omega), if_pos (by omega), if_neg (by omega)]
          clear hp k0 k1
          go_enter Try.func112, Try.ntmps112
          go_wp2
          go_end0
          exact ⟨rfl, by rw [HF.out]; exact HH.out, Upd.refl _ _⟩
      · obtain ⟨b1, b2, b3, b4⟩ := mod4_more k0 k1
        have HF : Hid (pselN s.P k s.psel = s.psel) := by show _ = _; unfold pselN; rw [if_neg (by omega), if_neg (by omega), if_neg (by omega)]
        clear hp k0 k1
        go_enter Try.func112, Try.ntmps112
        go_wp2
        go_end0
        exact ⟨rfl, by rw [HF.out]; exact HH.out, Upd.refl _ _⟩
  · have hpb : ((s.P : Int) != 4) = true := by simp; omega
    have HF : Hid (pselN s.P k s.psel = s.psel) := by show _ = _; unfold pselN; rw [if_pos hp]
    clear hp
    go_enter Try.func112, Try.ntmps112
    go_wp2
    (try simp only [Exit.inBlock, Exit.then]); refine bodyPost_ret (results_none rfl _ _ _) rfl ?_
    exact ⟨rfl, by rw [HF.out]; exact HH.out, Upd.refl _ _⟩

/-- 'Remove' of one set -/
def remL (n : Nat) (L : Nat → Int) (x : Int) : Nat → Int := match findN L x n with
  | some k => upd L k (-1)
  | none => L

set_option maxHeartbeats 1000000 in
theorem setRemove_any (b off n : Nat) (x : Int) (L A R : Nat → Int) (w : World) (hn8 : n ≤ 8) (H : SetAt w b off n L A R) :
    Calls Try.prog 118 #[.pointer (some ⟨b, off, none⟩), .int .i64 x] w fun e w' => e = .returned (.tuple #[]) ∧ SetAt w' b off n (remL n L x) A R ∧ Upd (rowS b off 25) w w' := by
  have HS : Hid (SetAt w b off n L A R) := H
  clear H
  cases hf : findN L x n with
  | some k =>
    have HF : Hid (findN L x n = some k) := hf
    have hk : k < n := (findN_some.1 hf).1
    have HR : Hid (remL n L x = upd L k (-1)) := by show _ = _; unfold remL; rw [hf]
    rw [HR.out]
    have hc := HS.out.ln.c k (by omega)
    have hcf := HS.out.ln.f k (by omega)
    have hne : ((k : Int) == -1) = false := by simp
    clear hf HR
    go_enter Try.func118, Try.ntmps118
    go_wp2_with fail
    refine (Find_any b off n _ _ _ _ _ hn8 HS.out).mono ?_
    rintro e w1 ⟨rfl, rfl⟩
    rw [HF.out]
    simp only [oi]
    go_wp2
    go_end0
    exact ⟨rfl, HS.out.setL (i := k) (by omega) (-1), upd_at (Upd.refl _ _) (o := off + 1 + k) (by omega) _⟩
  | none =>
    have HF : Hid (findN L x n = none) := hf
    have HR : Hid (remL n L x = L) := by show _ = _; unfold remL; rw [hf]
    rw [HR.out]
    clear hf HR
    go_enter Try.func118, Try.ntmps118
    go_wp2_with fail
    refine (Find_any b off n _ _ _ _ _ hn8 HS.out).mono ?_
    rintro e w1 ⟨rfl, rfl⟩
    rw [HF.out]
    simp only [oi]
    go_wp2
    (try simp only [Exit.inBlock, Exit.then]); refine bodyPost_ret (results_none rfl _ _ _) rfl ?_
    exact ⟨rfl, HS.out, Upd.refl _ _⟩

end Go.Proofs.Ytobniidkkmlilaa

/- The walks over package cache: a line is touched, removed. -/
namespace Go.Proofs.Ytobniidkkmlilaa
open Go.RowKit Go.Coh

/-- one set of a cache has done something -/
theorem CacheAt.turn {w w' : World} {b off i0 : Nat} {s s' : RC} {D : Nat → St} {st : St} (h : CacheAt w b off s) (hs : ∀ i, i < s.S → SetAt w b (off + 2 + i * 25) s.W (D i).L (D i).A (D i).R) (hi : i0 < s.S)
    (u : Upd (twoS b (off + 2 + i0 * 25) b (off + 202)) w w') (h1 : SetAt w' b (off + 2 + i0 * 25) s.W st.L st.A st.R) (h2 : HoldsF w' b (off + 202) 1 (fun _ => s'.fills % 8))
    (hC : CRel (tchD D i0 st) s') (e1 : s'.S = s.S) (e2 : s'.W = s.W) (e3 : s'.P = s.P) (e4 : s'.psel = s.psel) : CacheAt w' b off s' := by
  have hb := h.blt
  have hz := h.size.1.pos
  have hno : ∀ o, (∀ j, j < 25 → o ≠ off + 2 + i0 * 25 + j) → o ≠ off + 202 → ¬ twoS b (off + 2 + i0 * 25) b (off + 202) b o := fun o n1 n2 hh => by
    rcases hh with hh | hh
    · have := hh.2; exact n1 (o - (off + 2 + i0 * 25)) (by omega) (by omega)
    · have := hh.2; omega
  refine ⟨⟨_, hC, fun i hi' => ?_⟩, ?_, ?_, h2, ?_⟩
  · rw [e1] at hi'
    rw [e2]
    unfold tchD
    by_cases e : i = i0
    · subst e; rw [if_pos rfl]; exact h1
    · rw [if_neg e]
      exact (hs i hi').of_upd u (fun j hj => hno _ (fun j' hj' => by omega) (by omega))
  · rw [e3, u.cell hb (hno _ (fun j hj => by omega) (by omega))]; exact h.c0
  · rw [e1, u.cell hb (hno _ (fun j hj => by omega) (by omega))]; exact h.c1
  · rw [e4]; exact h.ps.of_upd u (fun j hj => hno _ (fun j' hj' => by omega) (by omega))

theorem twoS_row {b off i0 S : Nat} (hi : i0 < S) (hS : S ≤ 8) (k o : Nat) (h : twoS b (off + 2 + i0 * 25) b (off + 202) k o) : rowS b off 204 k o := by
  rcases h with h | h
  · have := h.2; exact ⟨h.1, by omega, by omega⟩
  · have := h.2; exact ⟨h.1, by omega, by omega⟩

theorem LoRel.clear {lo n : Nat} {s : St} {r : RC} (h : LoRel lo n s r) {j : Nat} (hj : j < n) : LoRel lo n ⟨upd s.L j (-1), s.A, s.R, s.c⟩ (RC.clear r (lo + j)) ∧ Within lo n r (RC.clear r (lo + j)) := by
  refine ⟨⟨h.W, ⟨updLo _ _ _ _ _ _ h.set.l, h.set.r, h.set.perm, h.set.ord, h.set.dist, h.set.tb, fun i hi hne => h.set.pos i hi ?_⟩, h.c, h.f, h.k⟩, ⟨rfl, rfl, rfl, rfl, fun i hi => upd_out _ _ _ _ _ _ hj hi, fun _ _ => rfl, fun _ _ => rfl, Int.le_refl _, by show r.clock ≤ r.clock + 1; omega, Int.le_refl _, by show r.fills ≤ r.fills + 1; omega⟩⟩
  intro e
  apply hne
  show upd s.L j (-1) i = -1
  unfold upd
  split
  · rfl
  · exact e

/-- 'Remove' of a cache -/
def remC (s : RC) (x : Int) : RC := match s.find x with
  | some j => RC.clear s (s.lo x + j)
  | none => s

set_option maxHeartbeats 1000000 in
theorem cRemove_any (b off : Nat) (x : Int) (s : RC) (w : World) (hx : 0 ≤ x) (hx2 : x < 64) (H : CacheAt w b off s) :
    Calls Try.prog 108 #[.pointer (some ⟨b, off, none⟩), .int .i64 x] w fun e w' => e = .returned (.tuple #[]) ∧ CacheAt w' b off (remC s x) ∧ Upd (rowS b off 204) w w' := by
  obtain ⟨D, hD, hS⟩ := H.sets
  have hz := hD.sz.pos
  have hi := RC.num_lt s x hz.1
  have HH : Hid (CacheAt w b off s) := H
  have HD : Hid (CRel D s) := hD
  have HSS : Hid (∀ i, i < s.S → SetAt w b (off + 2 + i * 25) s.W (D i).L (D i).A (D i).R) := hS
  have HEND : Hid (∀ w' : World, SetAt w' b (off + 2 + s.num x * 25) s.W (remL s.W (D (s.num x)).L x) (D (s.num x)).A (D (s.num x)).R → Upd (rowS b (off + 2 + s.num x * 25) 25) w w' → CacheAt w' b off (remC s x) ∧ Upd (rowS b off 204) w w') := by
    intro w' h1 u
    have u2 : Upd (twoS b (off + 2 + s.num x * 25) b (off + 202)) w w' := u.mono (fun _ _ h => .inl h)
    refine ⟨?_, u2.mono (twoS_row hi hz.2)⟩
    have hl := hD.at hi
    have hf : s.find x = findN (D (s.num x)).L x s.W := hl.find (x := x) rfl
    have hb := hD.bd (s.num x)
    unfold remC
    rw [hf]
    unfold remL at h1
    have hk := H.rk.of_upd u (fun j hj hh => by have := hh.2; omega)
    cases e : findN (D (s.num x)).L x s.W with
    | some j =>
      rw [e] at h1
      obtain ⟨l1, w1⟩ := LoRel.clear hl (findN_some.1 e).1
      exact H.turn hS hi u2 (st := ⟨upd (D (s.num x)).L j (-1), (D (s.num x)).A, (D (s.num x)).R, (D (s.num x)).c⟩) h1 hk (hD.turn l1 w1 ⟨hb.a, hb.r, hb.c⟩) rfl rfl rfl rfl
    | none =>
      rw [e] at h1
      exact H.turn hS hi u2 (st := D (s.num x)) h1 hk (hD.turn hl (Within.refl _ _ _) hb) rfl rfl rfl rfl
  have hSi := hS _ hi
  have hW := hD.wz.pos
  have HSI : Hid (SetAt w b (off + 2 + s.num x * 25) s.W (D (s.num x)).L (D (s.num x)).A (D (s.num x)).R) := hSi
  clear H hD hS hSi
  go_enter Try.func108, Try.ntmps108
  go_wp2_with fail
  refine (setOf_any b off x s _ hx hx2 HH.out).mono ?_
  rintro e w1 ⟨rfl, rfl⟩
  generalize s.num x = i0 at *
  go_wp2_with fail
  refine (setRemove_any b (off + 2 + i0 * 25) s.W x _ _ _ _ hW.2 HSI.out).mono ?_
  rintro e w2 ⟨rfl, h1, h2⟩
  have h3 := HEND.out w2 h1 h2
  go_wp2
  go_end0
  exact ⟨rfl, h3⟩

end Go.Proofs.Ytobniidkkmlilaa
