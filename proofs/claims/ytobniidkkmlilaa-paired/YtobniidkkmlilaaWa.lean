/- The walks over package set: methods that only read. -/
import Derived.Test.YtobniidkkmlilaaRows
import Derived.Test.YtobniidkkmlilaaBase
import Derived.Test.YtobniidkkmlilaaPure
import Derived.WalkKit
import Derived.WalkSpells
import Derived.WalkLawsBesides
import Derived.Deep.QuietTactic
import Derived.BigQuiet
namespace Go.Proofs.Ytobniidkkmlilaa
open Go.RowKit Go.Coh

theorem ret_int {k : IntKind} {a b : Int} (h : a = b) : Ending.returned (.int k a) = .returned (.int k b) := by rw [h]

/-- A set lies at ⟨b, off⟩: how many ways, their lines, ages and ranks. -/
structure SetAt (w : World) (b off n : Nat) (L A R : Nat → Int) : Prop where
  cnt : w.cell? ⟨b, off, none⟩ = some (.int .i64 n)
  ln : HoldsF w b (off + 1) 8 L
  ag : HoldsF w b (off + 9) 8 A
  rk : HoldsF w b (off + 17) 8 R

set_option maxHeartbeats 400000 in
theorem possible_any (n : Int) (w : World) (h1 : 1 ≤ n) (h2 : n ≤ 8) :
    Calls Try.prog 91 #[.int .i64 n] w fun e w' => e = .returned (.int .i64 n) ∧ w' = w := by
  go_enter Try.func91, Try.ntmps91
  go_wp2
  go_ret
  exact ⟨rfl, rfl⟩

set_option maxHeartbeats 400000 in
theorem Find_any (b off n : Nat) (x : Int) (L A R : Nat → Int) (w : World) (hn : n ≤ 8) (H : SetAt w b off n L A R) :
    Calls Try.prog 92 #[.pointer (some ⟨b, off, none⟩), .int .i64 x] w fun e w' => e = .returned (.int .i64 (oi (findN L x n))) ∧ w' = w := by
  have hc := H.cnt
  have hl := H.ln
  clear H
  go_enter Try.func92, Try.ntmps92
  go_wp2
  go_loop [5] (fun i => ∃ k : Nat, k ≤ n ∧ i = .int .i64 k ∧ ∀ j, j < k → L j ≠ x) (fun i => n - (intOf i).toNat)
  case atStart => exact ⟨0, Nat.zero_le _, rfl, fun j hj => absurd hj (Nat.not_lt_zero _)⟩
  case round =>
    obtain ⟨k, hk, rfl, hno⟩ := hrel
    have HN : Hid (∀ j, j < k → L j ≠ x) := hno
    clear hno
    by_cases hlt : k < n
    · have hlk := hl.c k (by omega)
      by_cases e : L k = x
      · have HF : Hid (findN L x n = some k) := findN_some.2 ⟨hlt, e, HN.out⟩
        have he : (L k == x) = true := by simpa using e
        clear e
        go_wp2
        go_ret
        exact ⟨ret_int (by rw [HF.out]; rfl), rfl⟩
      · have he : (L k == x) = false := by simpa using e
        have HE : Hid (L k ≠ x) := e
        clear e
        go_wp2
        go_round
        case rel =>
          refine ⟨k + 1, by omega, by go_num, fun j hj => ?_⟩
          by_cases hjk : j = k
          · subst hjk; exact HE.out
          · exact HN.out j (by omega)
        case measure => simp [intOf]; omega
    · have HF : Hid (findN L x n = none) := findN_none.2 fun j hj => HN.out j (by omega)
      go_wp2
      go_ret
      exact ⟨ret_int (by rw [HF.out]; rfl), rfl⟩

set_option maxHeartbeats 400000 in
theorem oldest_any (b off n : Nat) (L A R : Nat → Int) (w : World) (hn : n ≤ 8) (hn0 : 0 < n) (H : SetAt w b off n L A R) :
    Calls Try.prog 119 #[.pointer (some ⟨b, off, none⟩)] w fun e w' => e = .returned (.int .i64 (oldestW n A)) ∧ ∃ q, w' = w.drewN q := by
  have hc := H.cnt
  have hl := H.ag
  clear H
  go_enter Try.func119, Try.ntmps119
  go_wp2
  go_loopw [3, 4] (fun r i wr => ∃ k q : Nat, k ≤ n ∧ r = .int .i64 (argm (fun i j => decide (A j < A i)) 0 k : Nat) ∧ i = .int .i64 k ∧ wr = w.drewN q) (fun _ i _ => n - (intOf i).toNat)
  case atStart => exact ⟨0, 0, Nat.zero_le _, rfl, rfl, rfl⟩
  case round =>
    obtain ⟨k, q, hk, rfl, rfl, rfl⟩ := hrel
    have hlr := argm_lt (fun i j => decide (A j < A i)) 0 k n (by omega) hn0
    have HS : Hid (argm (fun i j => decide (A j < A i)) 0 (k + 1) = if decide (A (argm (fun i j => decide (A j < A i)) 0 k) < A k) then k else argm (fun i j => decide (A j < A i)) 0 k) := by
      show (if _ then _ else _) = _
      simp only [Nat.zero_add]
    by_cases hlt : k < n
    · have hlk := hl.c k (by omega)
      have hla := hl.c (argm (fun i j => decide (A j < A i)) 0 k) (by omega)
      generalize argm (fun i j => decide (A j < A i)) 0 k = r at *
      go_wp2
      go_quiet (fail)
      go_wp2
      all_goals
        go_roundw
        case rel => exact ⟨k + 1, _, by omega, by rw [HS.out]; first | rw [if_pos (decide_eq_true ‹_›)] | rw [if_neg (by simp only [decide_eq_true_eq]; omega)], by go_num, rfl⟩
        case measure => simp [intOf]; omega
    · go_wp2
      go_ret
      exact ⟨ret_int (by rw [show k = n from by omega]; rfl), q, rfl⟩

set_option maxHeartbeats 400000 in
theorem youngest_any (b off n lo hi : Nat) (L A R : Nat → Int) (w : World) (hh : hi ≤ 8) (hl8 : lo < hi) (H : SetAt w b off n L A R) :
    Calls Try.prog 122 #[.pointer (some ⟨b, off, none⟩), .int .i64 lo, .int .i64 hi] w fun e w' => e = .returned (.int .i64 (argm (fun i j => decide (A i < A j)) lo (hi - lo) : Nat)) ∧ ∃ q, w' = w.drewN q := by
  have hl := H.ag
  clear H
  go_enter Try.func122, Try.ntmps122
  go_wp2
  go_loopw [7, 8] (fun r i wr => ∃ k q : Nat, lo + k ≤ hi ∧ r = .int .i64 (argm (fun i j => decide (A i < A j)) lo k : Nat) ∧ i = .int .i64 (lo + k : Nat) ∧ wr = w.drewN q) (fun _ i _ => hi - (intOf i).toNat)
  case atStart => exact ⟨0, 0, by omega, rfl, rfl, rfl⟩
  case round =>
    obtain ⟨k, q, hk, rfl, rfl, rfl⟩ := hrel
    have hlr := argm_lt (fun i j => decide (A i < A j)) lo k hi (by omega) hl8
    have HS : Hid (argm (fun i j => decide (A i < A j)) lo (k + 1) = if decide (A (lo + k) < A (argm (fun i j => decide (A i < A j)) lo k)) then lo + k else argm (fun i j => decide (A i < A j)) lo k) := rfl
    by_cases hlt : lo + k < hi
    · have hlk := hl.c (lo + k) (by omega)
      have hla := hl.c (argm (fun i j => decide (A i < A j)) lo k) (by omega)
      generalize argm (fun i j => decide (A i < A j)) lo k = r at *
      generalize hm : lo + k = m at *
      have HM : Hid (lo + k = m) := hm
      clear hm
      go_wp2
      go_quiet (fail)
      go_wp2
      all_goals
        go_roundw
        case rel => exact ⟨k + 1, _, by have := HM.out; omega, by rw [HS.out]; first | rw [if_pos (decide_eq_true ‹_›)] | rw [if_neg (by simp only [decide_eq_true_eq]; omega)], by have := HM.out; subst this; go_num, rfl⟩
        case measure => simp [intOf]; omega
    · go_wp2
      go_ret
      exact ⟨ret_int (by rw [show k = hi - lo from by omega]), q, rfl⟩

end Go.Proofs.Ytobniidkkmlilaa
