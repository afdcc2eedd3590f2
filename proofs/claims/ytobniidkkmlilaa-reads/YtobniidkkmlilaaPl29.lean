import Derived.Test.YtobniidkkmlilaaPl28

/- The walks over the program's machine: what is refused; what is told. -/
namespace Go.Proofs.Ytobniidkkmlilaa
open Go.RowKit Go.Coh

def coreE (n : Nat) (c : Int) : Int := if c < 0 ∨ c ≥ n then 6 else 0
set_option maxHeartbeats 1000000 in
theorem checkCore_nil (a : Int) (w : World) :
    Calls Try.prog 84 #[.pointer none, .int .i64 a] w fun e w' => e = .returned (.int .i64 1) ∧ w' = w := by
  go_enter Try.func84, Try.ntmps84
  go_wp2
  go_ret
  exact ⟨rfl, rfl⟩

set_option maxHeartbeats 1000000 in
theorem checkCore_any (b : Nat) (m : RM) (c : Int) (w : World) (H : PmAt w b m) :
    Calls Try.prog 84 #[.pointer (some ⟨b, 0, none⟩), .int .i64 c] w fun e w' => e = .returned (.int .i64 (coreE m.cores c)) ∧ w' = w := by
  have h0 := H.conf.c 0 (by omega)
  rw [H.c0] at h0
  clear H
  generalize m.cores = n at *
  by_cases h1 : c < 0
  · have HF : Hid (coreE n c = 6) := by show _ = _; unfold coreE; rw [if_pos (.inl h1)]
    go_enter Try.func84, Try.ntmps84
    go_wp2
    go_ret
    exact ⟨ret_int HF.out.symm, rfl⟩
  · by_cases h2 : c ≥ n
    · have HF : Hid (coreE n c = 6) := by show _ = _; unfold coreE; rw [if_pos (.inr h2)]
      go_enter Try.func84, Try.ntmps84
      go_wp2
      go_ret
      exact ⟨ret_int HF.out.symm, rfl⟩
    · have HF : Hid (coreE n c = 0) := by show _ = _; unfold coreE; rw [if_neg (by omega)]
      go_enter Try.func84, Try.ntmps84
      go_wp2
      go_ret
      exact ⟨ret_int HF.out.symm, rfl⟩

set_option maxHeartbeats 1000000 in
theorem checkLine_nil (a : Int) (w : World) :
    Calls Try.prog 90 #[.pointer none, .int .i64 a] w fun e w' => e = .returned (.int .i64 1) ∧ w' = w := by
  go_enter Try.func90, Try.ntmps90
  go_wp2
  go_ret
  exact ⟨rfl, rfl⟩

set_option maxHeartbeats 1000000 in
theorem checkLine_any (b : Nat) (a : Int) (w : World) :
    Calls Try.prog 90 #[.pointer (some ⟨b, 0, none⟩), .int .i64 a] w fun e w' => e = .returned (.int .i64 (RM.lastE a)) ∧ w' = w := by
  by_cases h1 : a < 0
  · have HF : Hid (RM.lastE a = 7) := by show _ = _; unfold RM.lastE; rw [if_pos (.inl h1)]
    go_enter Try.func90, Try.ntmps90
    go_wp2
    go_ret
    exact ⟨ret_int HF.out.symm, rfl⟩
  · by_cases h2 : a ≥ 64
    · have HF : Hid (RM.lastE a = 7) := by show _ = _; unfold RM.lastE; rw [if_pos (.inr h2)]
      go_enter Try.func90, Try.ntmps90
      go_wp2
      go_ret
      exact ⟨ret_int HF.out.symm, rfl⟩
    · have HF : Hid (RM.lastE a = 0) := by show _ = _; unfold RM.lastE; rw [if_neg (by omega)]
      go_enter Try.func90, Try.ntmps90
      go_wp2
      go_ret
      exact ⟨ret_int HF.out.symm, rfl⟩

set_option maxHeartbeats 1000000 in
theorem checkAddr_nil (a : Int) (w : World) :
    Calls Try.prog 59 #[.pointer none, .int .i64 a] w fun e w' => e = .returned (.int .i64 1) ∧ w' = w := by
  go_enter Try.func59, Try.ntmps59
  go_wp2
  go_ret
  exact ⟨rfl, rfl⟩

set_option maxHeartbeats 1000000 in
theorem checkAddr_any (b : Nat) (a : Int) (w : World) :
    Calls Try.prog 59 #[.pointer (some ⟨b, 0, none⟩), .int .i64 a] w fun e w' => e = .returned (.int .i64 (memE a)) ∧ w' = w := by
  by_cases h1 : a < 0
  · have HF : Hid (memE a = 8) := by show _ = _; unfold memE; rw [if_pos (.inl h1)]
    go_enter Try.func59, Try.ntmps59
    go_wp2
    go_ret
    exact ⟨ret_int HF.out.symm, rfl⟩
  · by_cases h2 : a ≥ 256
    · have HF : Hid (memE a = 8) := by show _ = _; unfold memE; rw [if_pos (.inr h2)]
      go_enter Try.func59, Try.ntmps59
      go_wp2
      go_ret
      exact ⟨ret_int HF.out.symm, rfl⟩
    · have HF : Hid (memE a = 0) := by show _ = _; unfold memE; rw [if_neg (by omega)]
      go_enter Try.func59, Try.ntmps59
      go_wp2
      go_ret
      exact ⟨ret_int HF.out.symm, rfl⟩

set_option maxHeartbeats 1000000 in
theorem checkCoreLine_nil (c a : Int) (w : World) :
    Calls Try.prog 67 #[.pointer none, .int .i64 c, .int .i64 a] w fun e w' => e = .returned (.int .i64 1) ∧ w' = w := by
  go_enter Try.func67, Try.ntmps67
  go_wp2_with fail
  refine (checkCore_nil c _).mono ?_
  rintro e w1 ⟨rfl, rfl⟩
  go_wp2
  go_ret
  exact ⟨rfl, rfl⟩

set_option maxHeartbeats 1000000 in
theorem checkCoreLine_any (b : Nat) (m : RM) (c a : Int) (w : World) (H : PmAt w b m) :
    Calls Try.prog 67 #[.pointer (some ⟨b, 0, none⟩), .int .i64 c, .int .i64 a] w fun e w' => e = .returned (.int .i64 (stateE m.cores c a)) ∧ w' = w := by
  have HH : Hid (PmAt w b m) := H
  clear H
  by_cases h1 : c < 0 ∨ c ≥ m.cores
  · have HF : Hid (stateE m.cores c a = 6) := by show _ = _; unfold stateE; rw [if_pos h1]
    have HC : Hid (coreE m.cores c = 6) := by show _ = _; unfold coreE; rw [if_pos h1]
    clear h1
    rw [HF.out]
    go_enter Try.func67, Try.ntmps67
    go_wp2_with fail
    refine (checkCore_any b m c _ HH.out).mono ?_
    rintro e w1 ⟨rfl, rfl⟩
    rw [HC.out]
    go_wp2
    go_ret
    exact ⟨rfl, rfl⟩
  · have HF : Hid (stateE m.cores c a = RM.lastE a) := by show _ = _; unfold stateE RM.lastE; rw [if_neg h1]
    have HC : Hid (coreE m.cores c = 0) := by show _ = _; unfold coreE; rw [if_neg h1]
    clear h1
    rw [HF.out]
    go_enter Try.func67, Try.ntmps67
    go_wp2_with fail
    refine (checkCore_any b m c _ HH.out).mono ?_
    rintro e w1 ⟨rfl, rfl⟩
    rw [HC.out]
    go_wp2_with fail
    refine (checkLine_any b a _).mono ?_
    rintro e w1 ⟨rfl, rfl⟩
    go_wp2
    go_ret
    exact ⟨rfl, rfl⟩

set_option maxHeartbeats 1000000 in
theorem checkCoreAddr_nil (c a : Int) (w : World) :
    Calls Try.prog 60 #[.pointer none, .int .i64 c, .int .i64 a] w fun e w' => e = .returned (.int .i64 1) ∧ w' = w := by
  go_enter Try.func60, Try.ntmps60
  go_wp2_with fail
  refine (checkCore_nil c _).mono ?_
  rintro e w1 ⟨rfl, rfl⟩
  go_wp2
  go_ret
  exact ⟨rfl, rfl⟩

set_option maxHeartbeats 1000000 in
theorem checkCoreAddr_any (b : Nat) (m : RM) (c a : Int) (w : World) (H : PmAt w b m) :
    Calls Try.prog 60 #[.pointer (some ⟨b, 0, none⟩), .int .i64 c, .int .i64 a] w fun e w' => e = .returned (.int .i64 (refE m.cores c a)) ∧ w' = w := by
  have HH : Hid (PmAt w b m) := H
  clear H
  by_cases h1 : c < 0 ∨ c ≥ m.cores
  · have HF : Hid (refE m.cores c a = 6) := by show _ = _; unfold refE; rw [if_pos h1]
    have HC : Hid (coreE m.cores c = 6) := by show _ = _; unfold coreE; rw [if_pos h1]
    clear h1
    rw [HF.out]
    go_enter Try.func60, Try.ntmps60
    go_wp2_with fail
    refine (checkCore_any b m c _ HH.out).mono ?_
    rintro e w1 ⟨rfl, rfl⟩
    rw [HC.out]
    go_wp2
    go_ret
    exact ⟨rfl, rfl⟩
  · have HF : Hid (refE m.cores c a = memE a) := by show _ = _; unfold refE memE; rw [if_neg h1]
    have HC : Hid (coreE m.cores c = 0) := by show _ = _; unfold coreE; rw [if_neg h1]
    clear h1
    rw [HF.out]
    go_enter Try.func60, Try.ntmps60
    go_wp2_with fail
    refine (checkCore_any b m c _ HH.out).mono ?_
    rintro e w1 ⟨rfl, rfl⟩
    rw [HC.out]
    go_wp2_with fail
    refine (checkAddr_any b a _).mono ?_
    rintro e w1 ⟨rfl, rfl⟩
    go_wp2
    go_ret
    exact ⟨rfl, rfl⟩

set_option maxHeartbeats 1000000 in
theorem pState_nil (c l : Int) (w : World) :
    Calls Try.prog 39 #[.pointer none, .int .i64 c, .int .i64 l] w fun e w' => e = .returned (.tuple #[.int .i64 0, .int .i64 1]) ∧ w' = w := by
  go_enter Try.func39, Try.ntmps39
  go_wp2_with fail
  refine (checkCoreLine_nil c l _).mono ?_
  rintro e w1 ⟨rfl, rfl⟩
  go_wp2
  go_ret2
  exact ⟨rfl, rfl⟩

set_option maxHeartbeats 1000000 in
theorem pState_any (b : Nat) (m : RM) (c l : Int) (w : World) (hc4 : m.cores ≤ 4) (H : PmAt w b m) :
    Calls Try.prog 39 #[.pointer (some ⟨b, 0, none⟩), .int .i64 c, .int .i64 l] w fun e w' => e = .returned (.tuple #[.int .i64 (m.stateV c l), .int .i64 (stateE m.cores c l)]) ∧ w' = w := by
  have HH : Hid (PmAt w b m) := H
  clear H
  by_cases h0 : stateE m.cores c l = 0
  · have hb : c ≥ 0 ∧ c < m.cores ∧ l ≥ 0 ∧ l < 64 := by unfold stateE at h0; split at h0; omega; split at h0; omega; omega
    obtain ⟨i, rfl⟩ : ∃ i : Nat, c = i := ⟨c.toNat, by omega⟩
    obtain ⟨k, rfl⟩ : ∃ k : Nat, l = k := ⟨l.toNat, by omega⟩
    have hh := HH.out.has i k (by omega) (by omega)
    have hi : i < 4 := by omega
    have hk : k < 64 := by omega
    have HE : Hid (stateE m.cores i k = 0) := h0
    have HV : Hid (m.stateV i k = m.has i k) := by show _ = _; unfold RM.stateV; rw [h0, if_pos rfl]; rfl
    rw [HE.out, HV.out]
    clear h0 HV hb
    go_enter Try.func39, Try.ntmps39
    go_wp2_with fail
    refine (checkCoreLine_any b m i k _ HH.out).mono ?_
    rintro e w1 ⟨rfl, rfl⟩
    rw [HE.out]
    go_wp2
    go_ret2
    exact ⟨rfl, rfl⟩
  · have HV : Hid (m.stateV c l = 0) := by show _ = _; unfold RM.stateV; rw [if_neg h0]
    rw [HV.out]
    have hb : (stateE m.cores c l != 0) = true := by simpa using h0
    obtain ⟨E, hE⟩ : ∃ E, stateE m.cores c l = E := ⟨_, rfl⟩
    have HEE : Hid (stateE m.cores c l = E) := hE
    rw [hE] at hb ⊢
    clear h0 HV hE
    go_enter Try.func39, Try.ntmps39
    go_wp2_with fail
    refine (checkCoreLine_any b m c l _ HH.out).mono ?_
    rintro e w1 ⟨rfl, rfl⟩
    rw [HEE.out]
    go_wp2
    go_ret2
    exact ⟨rfl, rfl⟩

set_option maxHeartbeats 1000000 in
theorem pLast_nil (a : Int) (w : World) :
    Calls Try.prog 66 #[.pointer none, .int .i64 a] w fun e w' => e = .returned (.tuple #[.int .i64 0, .int .i64 1]) ∧ w' = w := by
  go_enter Try.func66, Try.ntmps66
  go_wp2_with fail
  refine (checkLine_nil a _).mono ?_
  rintro e w1 ⟨rfl, rfl⟩
  go_wp2
  go_ret2
  exact ⟨rfl, rfl⟩

set_option maxHeartbeats 1000000 in
theorem pLast_any (b : Nat) (m : RM) (a : Int) (w : World) (H : PmAt w b m) :
    Calls Try.prog 66 #[.pointer (some ⟨b, 0, none⟩), .int .i64 a] w fun e w' => e = .returned (.tuple #[.int .i64 (m.lastV a), .int .i64 (RM.lastE a)]) ∧ w' = w := by
  by_cases h0 : a < 0 ∨ a ≥ 64
  · have HV : Hid (m.lastV a = 0) := by show _ = _; unfold RM.lastV; rw [if_pos h0]
    have HE : Hid (RM.lastE a ≠ 0) := by show _ ≠ _; unfold RM.lastE; rw [if_pos h0]; omega
    have hb : (RM.lastE a != 0) = true := by simpa using HE.out
    rw [HV.out]
    obtain ⟨E, hE⟩ : ∃ E, RM.lastE a = E := ⟨_, rfl⟩
    have HEE : Hid (RM.lastE a = E) := hE
    rw [hE] at hb ⊢
    clear h0 HV HE H hE
    go_enter Try.func66, Try.ntmps66
    go_wp2_with fail
    refine (checkLine_any b a _).mono ?_
    rintro e w1 ⟨rfl, rfl⟩
    rw [HEE.out]
    go_wp2
    go_ret2
    exact ⟨rfl, rfl⟩
  · obtain ⟨k, rfl⟩ : ∃ k : Nat, a = k := ⟨a.toNat, by omega⟩
    have hk : k < 64 := by omega
    have hh := H.lasts.c k hk
    have HE : Hid (RM.lastE k = 0) := by show _ = _; unfold RM.lastE; rw [if_neg h0]
    have HV : Hid (m.lastV k = m.lasts k) := by show _ = _; unfold RM.lastV; rw [if_neg h0]; rfl
    rw [HE.out, HV.out]
    clear h0 HV H
    go_enter Try.func66, Try.ntmps66
    go_wp2_with fail
    refine (checkLine_any b k _).mono ?_
    rintro e w1 ⟨rfl, rfl⟩
    rw [HE.out]
    go_wp2
    go_ret2
    exact ⟨rfl, rfl⟩

set_option maxHeartbeats 1000000 in
theorem pMemory_nil (a : Int) (w : World) :
    Calls Try.prog 33 #[.pointer none, .int .i64 a] w fun e w' => e = .returned (.tuple #[.int .i64 0, .int .i64 1]) ∧ w' = w := by
  go_enter Try.func33, Try.ntmps33
  go_wp2_with fail
  refine (checkAddr_nil a _).mono ?_
  rintro e w1 ⟨rfl, rfl⟩
  go_wp2
  go_ret2
  exact ⟨rfl, rfl⟩

set_option maxHeartbeats 1000000 in
theorem pMemory_any (b : Nat) (m : RM) (a : Int) (w : World) (H : PmAt w b m) :
    Calls Try.prog 33 #[.pointer (some ⟨b, 0, none⟩), .int .i64 a] w fun e w' => e = .returned (.tuple #[.int .i64 (m.memV a), .int .i64 (memE a)]) ∧ w' = w := by
  by_cases h0 : a < 0 ∨ a ≥ 256
  · have HV : Hid (m.memV a = 0) := by show _ = _; unfold RM.memV; rw [if_pos h0]
    have HE : Hid (memE a ≠ 0) := by show _ ≠ _; unfold memE; rw [if_pos h0]; omega
    have hb : (memE a != 0) = true := by simpa using HE.out
    rw [HV.out]
    obtain ⟨E, hE⟩ : ∃ E, memE a = E := ⟨_, rfl⟩
    have HEE : Hid (memE a = E) := hE
    rw [hE] at hb ⊢
    clear h0 HV HE H hE
    go_enter Try.func33, Try.ntmps33
    go_wp2_with fail
    refine (checkAddr_any b a _).mono ?_
    rintro e w1 ⟨rfl, rfl⟩
    rw [HEE.out]
    go_wp2
    go_ret2
    exact ⟨rfl, rfl⟩
  · obtain ⟨k, rfl⟩ : ∃ k : Nat, a = k := ⟨a.toNat, by omega⟩
    have hk : k < 256 := by omega
    have hh := H.mem.c k hk
    have HE : Hid (memE k = 0) := by show _ = _; unfold memE; rw [if_neg h0]
    have HV : Hid (m.memV k = m.mem k) := by show _ = _; unfold RM.memV; rw [if_neg h0]; rfl
    rw [HE.out, HV.out]
    clear h0 HV H
    go_enter Try.func33, Try.ntmps33
    go_wp2_with fail
    refine (checkAddr_any b k _).mono ?_
    rintro e w1 ⟨rfl, rfl⟩
    rw [HE.out]
    go_wp2
    go_ret2
    exact ⟨rfl, rfl⟩

end Go.Proofs.Ytobniidkkmlilaa
