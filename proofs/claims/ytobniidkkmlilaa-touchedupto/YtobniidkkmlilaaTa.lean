/- The walks: Touches, the program's and the reference's, whatever is handed in. -/
import Derived.Test.YtobniidkkmlilaaRg
namespace Go.Proofs.Ytobniidkkmlilaa
open Go.RowKit Go.Coh

/-- m integers in a slice, wherever it lies -/
def IntsF (w : World) (v : Value) (m : Nat) (xs : Nat → Int) : Prop :=
  ∃ o cap, v = .slice o m cap ∧ (0 < m → ∃ a off, o = some ⟨a, off, none⟩ ∧ a < w.heap.size ∧ ∀ i, i < m → w.cell? ⟨a, off + i, none⟩ = some (.int .i64 (xs i)))

def isSz (n : Int) : Prop := n = 1 ∨ n = 2 ∨ n = 4 ∨ n = 8

theorem isSz_size {n : Int} (h : isSz n) : ∃ k : Nat, n = k ∧ Size k := by
  rcases h with rfl | rfl | rfl | rfl
  · exact ⟨1, rfl, .inl rfl⟩
  · exact ⟨2, rfl, .inr (.inl rfl)⟩
  · exact ⟨4, rfl, .inr (.inr (.inl rfl))⟩
  · exact ⟨8, rfl, .inr (.inr (.inr rfl))⟩

set_option maxHeartbeats 1000000 in
theorem isSize_no (n : Int) (w : World) (h : ¬ isSz n) : Calls Try.prog 68 #[.int .i64 n] w fun e w' => e = .returned (.bool false) ∧ w' = w := by
  unfold isSz at h
  have h1 : (n == 1) = false := by simp; omega
  have h2 : (n == 2) = false := by simp; omega
  have h4 : (n == 4) = false := by simp; omega
  have h8 : (n == 8) = false := by simp; omega
  clear h
  go_enter Try.func68, Try.ntmps68
  go_wp2
  go_ret
  exact ⟨rfl, rfl⟩

set_option maxHeartbeats 1000000 in
theorem refPower_no (n : Int) (w : World) (h : ¬ isSz n) : Calls Try.prog 42 #[.int .i64 n] w fun e w' => e = .returned (.bool false) ∧ w' = w := by
  unfold isSz at h
  have h1 : (n == 1) = false := by simp; omega
  have h2 : (n == 2) = false := by simp; omega
  have h4 : (n == 4) = false := by simp; omega
  have h8 : (n == 8) = false := by simp; omega
  clear h
  go_enter Try.func42, Try.ntmps42
  go_wp2
  go_ret
  exact ⟨rfl, rfl⟩

/-- the first that is wrong, or 0 -/
def errT (p n : Int) (m : Nat) (xs : Nat → Int) (e : Int) : Prop :=
  (p < 0 ∨ 3 < p) ∧ e = 5 ∨ (0 ≤ p ∧ p ≤ 3) ∧ ¬ isSz n ∧ e = 4 ∨ (0 ≤ p ∧ p ≤ 3) ∧ isSz n ∧ 200 < m ∧ e = 9 ∨ (0 ≤ p ∧ p ≤ 3) ∧ isSz n ∧ m ≤ 200 ∧ (∃ i, i < m ∧ xs i < 0) ∧ e = 7

theorem err_or (p n : Int) (m : Nat) (xs : Nat → Int) : (∃ e, errT p n m xs e) ∨ ((0 ≤ p ∧ p ≤ 3) ∧ isSz n ∧ m ≤ 200 ∧ ∀ i, i < m → 0 ≤ xs i) := by
  by_cases h1 : p < 0 ∨ 3 < p
  · exact .inl ⟨5, .inl ⟨h1, rfl⟩⟩
  · have h1' : 0 ≤ p ∧ p ≤ 3 := by omega
    by_cases h2 : isSz n
    · by_cases h3 : 200 < m
      · exact .inl ⟨9, .inr (.inr (.inl ⟨h1', h2, h3, rfl⟩))⟩
      · by_cases h4 : ∃ i, i < m ∧ xs i < 0
        · exact .inl ⟨7, .inr (.inr (.inr ⟨h1', h2, by omega, h4, rfl⟩))⟩
        · exact .inr ⟨h1', h2, by omega, fun i hi => by
            by_cases h5 : 0 ≤ xs i
            · exact h5
            · exact absurd ⟨i, hi, by omega⟩ h4⟩
    · exact .inl ⟨4, .inr (.inl ⟨h1', h2, rfl⟩)⟩

set_option maxRecDepth 100000 in
set_option maxHeartbeats 1000000 in
theorem check_err (p n : Int) (m : Nat) (o : Option Addr) (cap : Nat) (xs : Nat → Int) (w : World) (e : Int) (he : errT p n m xs e) (hm : m ≤ 9223372036854775807)
    (hv : 0 < m → ∃ a off, o = some ⟨a, off, none⟩ ∧ a < w.heap.size ∧ ∀ i, i < m → w.cell? ⟨a, off + i, none⟩ = some (.int .i64 (xs i))) :
    Calls Try.prog 40 #[.int .i64 p, .int .i64 n, .slice o m cap] w fun e' w' => e' = .returned (.int .i64 e) ∧ w' = w := by
  have HV : Hid (0 < m → ∃ a off, o = some ⟨a, off, none⟩ ∧ a < w.heap.size ∧ ∀ i, i < m → w.cell? ⟨a, off + i, none⟩ = some (.int .i64 (xs i))) := hv
  clear hv
  rcases he with ⟨h1, rfl⟩ | ⟨h1, h2, rfl⟩ | ⟨h1, h2, h3, rfl⟩ | ⟨h1, h2, h3, h4, rfl⟩
  · by_cases h0 : p < 0
    · clear h1
      go_enter Try.func40, Try.ntmps40
      go_wp2
      go_ret
      exact ⟨rfl, rfl⟩
    · have h3 : 3 < p := by omega
      have hd : decide (p < 0) = false := by simp; omega
      clear h1
      go_enter Try.func40, Try.ntmps40
      go_wp2
      go_ret
      exact ⟨rfl, rfl⟩
  · have HS : Hid (¬ isSz n) := h2
    have hd : decide (p < 0) = false := by simp; omega
    have hd3 : decide (3 < p) = false := by simp; omega
    clear h2
    go_enter Try.func40, Try.ntmps40
    go_wp2_with fail
    refine (isSize_no n _ HS.out).mono ?_
    rintro e w1 ⟨rfl, rfl⟩
    go_wp2
    go_ret
    exact ⟨rfl, rfl⟩
  · obtain ⟨k, rfl, hk⟩ := isSz_size h2
    have HS : Hid (Size k) := hk
    have hd : decide (p < 0) = false := by simp; omega
    have hd3 : decide (3 < p) = false := by simp; omega
    clear h2 hk
    go_enter Try.func40, Try.ntmps40
    go_wp2_with fail
    refine (isSize_yes k _ HS.out).mono ?_
    rintro e w1 ⟨rfl, rfl⟩
    go_wp2
    go_ret
    exact ⟨rfl, rfl⟩
  · obtain ⟨k, rfl, hk⟩ := isSz_size h2
    obtain ⟨i, hi, hneg⟩ := h4
    obtain ⟨a, off, rfl, ha, hx⟩ := HV.out (by omega)
    have HS : Hid (Size k) := hk
    have hd : decide (p < 0) = false := by simp; omega
    have hd3 : decide (3 < p) = false := by simp; omega
    have HX : Hid (∀ i, i < m → w.cell? ⟨a, off + i, none⟩ = some (.int .i64 (xs i))) := hx
    have HNEG : Hid (xs i < 0) := hneg
    clear h2 hk hx hneg HV
    go_enter Try.func40, Try.ntmps40
    go_wp2_with fail
    refine (isSize_yes k _ HS.out).mono ?_
    rintro e w1 ⟨rfl, rfl⟩
    go_wp2
    go_loop [23] (fun v => ∃ j : Nat, j ≤ i ∧ v = .int .i64 j) (fun v => m - (intOf v).toNat)
    case atStart => exact ⟨0, Nat.zero_le _, rfl⟩
    case round =>
      obtain ⟨j, hj, rfl⟩ := hrel
      have hxj := HX.out j (by omega)
      have hjm : j < m := by omega
      by_cases hn0 : xs j < 0
      · go_wp2
        go_ret
        exact ⟨rfl, rfl⟩
      · have hji : j < i := by
          by_cases e : j = i
          · subst e; exact absurd HNEG.out hn0
          · omega
        go_wp2
        go_round
        case rel => exact ⟨j + 1, by omega, by go_num⟩
        case measure => simp [intOf]; omega

set_option maxHeartbeats 1000000 in
theorem Touches_err (p n : Int) (m : Nat) (o : Option Addr) (cap : Nat) (xs : Nat → Int) (w : World) (e : Int) (he : errT p n m xs e) (hm : m ≤ 9223372036854775807)
    (hv : 0 < m → ∃ a off, o = some ⟨a, off, none⟩ ∧ a < w.heap.size ∧ ∀ i, i < m → w.cell? ⟨a, off + i, none⟩ = some (.int .i64 (xs i))) :
    Calls Try.prog 16 #[.int .i64 p, .int .i64 n, .slice o m cap] w fun e' w' => e' = .returned (.tuple #[.slice none 0 0, .int .i64 e]) ∧ w' = w := by
  have HV : Hid (0 < m → ∃ a off, o = some ⟨a, off, none⟩ ∧ a < w.heap.size ∧ ∀ i, i < m → w.cell? ⟨a, off + i, none⟩ = some (.int .i64 (xs i))) := hv
  have HE : Hid (errT p n m xs e) := he
  have hne : (e != 0) = true := by
    rcases he with ⟨_, rfl⟩ | ⟨_, _, rfl⟩ | ⟨_, _, _, rfl⟩ | ⟨_, _, _, _, rfl⟩ <;> decide
  clear hv he
  go_enter Try.func16, Try.ntmps16
  go_wp2_with fail
  refine (check_err p n m o cap xs _ e HE.out hm HV.out).mono ?_
  rintro e' w1 ⟨rfl, rfl⟩
  go_wp2
  go_ret2
  exact ⟨rfl, rfl⟩

end Go.Proofs.Ytobniidkkmlilaa
