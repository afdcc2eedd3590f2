/- The walks over package coherentkeep: small numbers out of raw ones. -/
import Derived.Test.YtobniidkkmlilaaWi
namespace Go.Proofs.Ytobniidkkmlilaa
open Go.RowKit Go.Coh

def pickN (c : Int) (n : Nat) : Nat := ((if c < 0 then -(c + 1) else c) % n).toNat
theorem pickN_lt (c : Int) (n : Nat) (hn : 0 < n) : pickN c n < n := by
  unfold pickN
  have h1 := Int.emod_lt_of_pos (if c < 0 then -(c + 1) else c) (show (0 : Int) < n by omega)
  have h2 := Int.emod_nonneg (if c < 0 then -(c + 1) else c) (show (n : Int) ≠ 0 by omega)
  omega
theorem pickN_neg (c : Int) (n : Nat) (hn : 0 < n) (h : c < 0) : (-(c + 1)) % n = (pickN c n : Int) := by
  unfold pickN
  have h2 := Int.emod_nonneg (-(c + 1)) (show (n : Int) ≠ 0 by omega)
  rw [if_pos h]; omega
theorem pickN_pos (c : Int) (n : Nat) (hn : 0 < n) (h : ¬ c < 0) : c % n = (pickN c n : Int) := by
  unfold pickN
  have h2 := Int.emod_nonneg c (show (n : Int) ≠ 0 by omega)
  rw [if_neg h]; omega

set_option maxHeartbeats 400000 in
theorem pick_any (c : Int) (n : Nat) (w : World) (hn : 0 < n) (hn2 : n ≤ 1000) (h1 : -9223372036854775808 ≤ c) (h2 : c ≤ 9223372036854775807) :
    Calls Try.prog 25 #[.int .i64 c, .int .i64 n] w fun e w' => e = .returned (.int .i64 (pickN c n : Nat)) ∧ w' = w := by
  by_cases h : c < 0
  · have HP : Hid ((-(c + 1)) % (n : Int) = (pickN c n : Int)) := pickN_neg c n hn h
    go_enter Try.func25, Try.ntmps25
    go_wp2
    go_ret
    exact ⟨ret_int (by rw [← HP.out, ← Int.neg_tmod, Int.tmod_eq_emod_of_nonneg (by omega)]), rfl⟩
  · have HP : Hid (c % (n : Int) = (pickN c n : Int)) := pickN_pos c n hn h
    go_enter Try.func25, Try.ntmps25
    go_wp2
    go_ret
    exact ⟨ret_int (by rw [← HP.out]), rfl⟩

theorem pick_int (c : Int) (n : Nat) (k : Int) (w : World) (ek : k = n) (hn : 0 < n) (hn2 : n ≤ 1000) (h1 : -9223372036854775808 ≤ c) (h2 : c ≤ 9223372036854775807) :
    Calls Try.prog 25 #[.int .i64 c, .int .i64 k] w fun e w' => e = .returned (.int .i64 (pickN c n : Nat)) ∧ w' = w := by
  subst ek; exact pick_any c n w hn hn2 h1 h2

def powerN (c : Int) : Nat := 2 ^ pickN c 4
theorem powerN_size (c : Int) : Size (powerN c) := by
  have := pickN_lt c 4 (by omega)
  unfold powerN
  generalize pickN c 4 = k at *
  match k, this with
  | 0, _ => exact .inl rfl
  | 1, _ => exact .inr (.inl rfl)
  | 2, _ => exact .inr (.inr (.inl rfl))
  | 3, _ => exact .inr (.inr (.inr rfl))

set_option maxHeartbeats 400000 in
theorem power_any (c : Int) (w : World) (h1 : -9223372036854775808 ≤ c) (h2 : c ≤ 9223372036854775807) :
    Calls Try.prog 22 #[.int .i64 c] w fun e w' => e = .returned (.int .i64 (powerN c : Nat)) ∧ w' = w := by
  have hk := pickN_lt c 4 (by omega)
  have HP : Hid (powerN c = 2 ^ pickN c 4) := rfl
  go_enter Try.func22, Try.ntmps22
  go_wp2_with fail
  refine (pick_int c 4 _ _ rfl (by omega) (by omega) h1 h2).mono ?_
  rintro e w1 ⟨rfl, rfl⟩
  generalize pickN c 4 = k at *
  have hcase : k = 0 ∨ k = 1 ∨ k = 2 ∨ k = 3 := by omega
  clear hk
  go_wp2
  go_loop [3, 4] (fun n i => ∃ a b : Nat, n = .int .i64 a ∧ i = .int .i64 b ∧ (b = 0 ∨ b = 1 ∨ b = 2 ∨ b = 3) ∧ a * 2 ^ b = 2 ^ k ∧ a ≤ 8) (fun _ i => (intOf i).toNat)
  case atStart => exact ⟨1, k, rfl, rfl, hcase, by omega, by omega⟩
  case round =>
    obtain ⟨a, b, rfl, rfl, hb, he, ha⟩ := hrel
    have HE : Hid (a * 2 ^ b = 2 ^ k) := he
    have HCs : Hid (k = 0 ∨ k = 1 ∨ k = 2 ∨ k = 3) := hcase
    clear he hcase
    have ha8 : 0 < b → a ≤ 4 := by
      intro hb0
      have h8 : 2 ^ k ≤ 8 := by rcases HCs.out with h | h | h | h <;> subst h <;> decide
      have h2 : 2 ≤ 2 ^ b := by rcases hb with h | h | h | h <;> subst h <;> first | omega | decide
      have h3 : a * 2 ≤ a * 2 ^ b := Nat.mul_le_mul_left a h2
      have := HE.out
      omega
    by_cases hz : b = 0
    · subst hz
      go_wp2
      go_ret
      exact ⟨ret_int (by rw [HP.out, ← HE.out]; simp), rfl⟩
    · have ha4 := ha8 (by omega)
      clear ha8
      have hb1 : 0 < b := by omega
      go_wp2
      go_round
      case rel =>
        refine ⟨2 * a, b - 1, by go_num, by first | go_num | (congr 1; omega), by omega, ?_, by omega⟩
        have := HE.out
        rw [show b = (b - 1) + 1 by omega, Nat.pow_succ] at this
        rw [← this, Nat.mul_comm 2 a, Nat.mul_assoc, Nat.mul_comm 2]
      case measure => simp [intOf]; omega

end Go.Proofs.Ytobniidkkmlilaa
