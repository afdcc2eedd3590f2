/- The walks: the reference's Touches, whatever is handed in. -/
import Derived.Test.YtobniidkkmlilaaTa
namespace Go.Proofs.Ytobniidkkmlilaa
open Go.RowKit Go.Coh

set_option maxRecDepth 100000 in
set_option maxHeartbeats 1000000 in
theorem refTouches_err (p n : Int) (m : Nat) (o : Option Addr) (cap : Nat) (xs : Nat → Int) (w : World) (e : Int) (he : errT p n m xs e) (hm : m ≤ 9223372036854775807)
    (hv : 0 < m → ∃ a off, o = some ⟨a, off, none⟩ ∧ a < w.heap.size ∧ ∀ i, i < m → w.cell? ⟨a, off + i, none⟩ = some (.int .i64 (xs i))) :
    Calls Try.prog 17 #[.int .i64 p, .int .i64 n, .slice o m cap] w fun e' w' => e' = .returned (.tuple #[.slice none 0 0, .int .i64 e]) ∧ w' = w := by
  have HV : Hid (0 < m → ∃ a off, o = some ⟨a, off, none⟩ ∧ a < w.heap.size ∧ ∀ i, i < m → w.cell? ⟨a, off + i, none⟩ = some (.int .i64 (xs i))) := hv
  clear hv
  rcases he with ⟨h1, rfl⟩ | ⟨h1, h2, rfl⟩ | ⟨h1, h2, h3, rfl⟩ | ⟨h1, h2, h3, h4, rfl⟩
  · by_cases h0 : p < 0
    · clear h1
      go_enter Try.func17, Try.ntmps17
      go_wp2
      go_ret2
      exact ⟨rfl, rfl⟩
    · have h3 : 3 < p := by omega
      have hd : decide (p < 0) = false := by simp; omega
      clear h1
      go_enter Try.func17, Try.ntmps17
      go_wp2
      go_ret2
      exact ⟨rfl, rfl⟩
  · have HS : Hid (¬ isSz n) := h2
    have hd : decide (p < 0) = false := by simp; omega
    have hd3 : decide (3 < p) = false := by simp; omega
    clear h2
    go_enter Try.func17, Try.ntmps17
    go_wp2_with fail
    refine (refPower_no n _ HS.out).mono ?_
    rintro e w1 ⟨rfl, rfl⟩
    go_wp2
    go_ret2
    exact ⟨rfl, rfl⟩
  · obtain ⟨k, rfl, hk⟩ := isSz_size h2
    have HS : Hid (Size k) := hk
    have hd : decide (p < 0) = false := by simp; omega
    have hd3 : decide (3 < p) = false := by simp; omega
    clear h2 hk
    go_enter Try.func17, Try.ntmps17
    go_wp2_with fail
    refine (refPower_yes k _ HS.out).mono ?_
    rintro e w1 ⟨rfl, rfl⟩
    go_wp2
    go_ret2
    exact ⟨rfl, rfl⟩
  · obtain ⟨k, rfl, hk⟩ := isSz_size h2
    obtain ⟨i, hi, hneg⟩ := h4
    obtain ⟨a, off, rfl, ha, hx⟩ := HV.out (by omega)
    have HS : Hid (Size k) := hk
    have hd : decide (p < 0) = false := by simp; omega
    have hd3 : decide (3 < p) = false := by simp; omega
    have HX : Hid (∀ i, i < m → w.cell? ⟨a, off + i, none⟩ = some (.int .i64 (xs i))) := hx
    have HNEG : Hid (xs i < 0) := hneg
    clear h2 hk hx hneg HV
    go_enter Try.func17, Try.ntmps17
    go_wp2_with fail
    refine (refPower_yes k _ HS.out).mono ?_
    rintro e w1 ⟨rfl, rfl⟩
    go_wp2_with fail
    go_loop [9] (fun v => ∃ j : Nat, j ≤ i ∧ v = .int .i64 j) (fun v => m - (intOf v).toNat)
    case atStart => exact ⟨0, Nat.zero_le _, rfl⟩
    case round =>
      obtain ⟨j, hj, rfl⟩ := hrel
      have hxj := HX.out j (by omega)
      have hjm : j < m := by omega
      by_cases hn0 : xs j < 0
      · go_wp2
        go_ret2
        exact ⟨rfl, rfl⟩
      · have hji : j < i := by
          by_cases e : j = i
          · subst e; exact absurd HNEG.out hn0
          · omega
        go_wp2
        go_round
        case rel => exact ⟨j + 1, by omega, by go_num⟩
        case measure => simp [intOf]; omega

set_option maxRecDepth 100000 in
set_option maxHeartbeats 2000000 in
theorem refTouches_zero (p n : Nat) (o : Option Addr) (cap : Nat) (w : World) (hp : p ≤ 3) (hn : Size n) :
    Calls Try.prog 17 #[.int .i64 p, .int .i64 n, .slice o 0 cap] w fun e w' => e = .returned (.tuple #[.slice none 0 0, .int .i64 0]) ∧ Upd no w w' := by
  have HN : Hid (Size n) := hn
  clear hn
  go_enter Try.func17, Try.ntmps17
  go_wp2_with fail
  refine (refPower_yes n _ HN.out).mono ?_
  rintro e w1 ⟨rfl, rfl⟩
  go_wp2_with fail
  go_loop [9] (fun i => i = .int .i64 0) (fun _ => 0)
  case atStart => exact rfl
  case round =>
    obtain rfl := hrel
    go_wp2_with fail
    refine (refEmpty_any 1 n p _ _ rfl (.inl rfl) HN.out).mono ?_
    rintro e w2 ⟨⟨b, g, capr, rfl, hb1, hg1, hb2, hg2, hR⟩, hu2⟩
    have HU2 : Hid (Upd no w1 w2) := hu2
    clear hR hu2
    go_wp2_with fail
    go_loop [11, 12] (fun l i => i = .int .i64 0 ∧ l = .slice none 0 0) (fun _ _ => 0)
    case atStart => exact ⟨rfl, rfl⟩
    case round =>
      obtain ⟨rfl, rfl⟩ := hrel
      go_wp2
      go_ret2
      exact ⟨rfl, HU2.out⟩

/-- lists that are right, made right everywhere -/
def cutX (m : Nat) (xs : Nat → Int) : Nat → Int := fun i => if i < m then xs i else 0

/-- Touches, where nothing is wrong: both give the same touches -/
theorem refTouches_ok (p n m : Nat) (o : Option Addr) (cap : Nat) (xs : Nat → Int) (w : World) (hp : p ≤ 3) (hn : Size n) (hm : m ≤ 200) (hx0 : ∀ i, i < m → 0 ≤ xs i) (hx9 : ∀ i, i < m → xs i ≤ 9223372036854775807)
    (hv : 0 < m → ∃ a off, o = some ⟨a, off, none⟩ ∧ a < w.heap.size ∧ ∀ i, i < m → w.cell? ⟨a, off + i, none⟩ = some (.int .i64 (xs i))) :
    Calls Try.prog 17 #[.int .i64 p, .int .i64 n, .slice o m cap] w fun e w' =>
      (∃ v, e = .returned (.tuple #[v, .int .i64 0]) ∧ w'.ownsRow w.heap.size 41 3 v m (tcs (tchRunT p n (cutX m xs)) m)) ∧ Upd no w w' := by
  by_cases h0 : m = 0
  · subst h0
    refine (refTouches_zero p n o cap w hp hn).mono ?_
    rintro e w' ⟨rfl, hu⟩
    exact ⟨⟨_, rfl, World.ownsRow_nil _ _ _ _⟩, hu⟩
  · obtain ⟨a, off, rfl, ha, hx⟩ := hv (by omega)
    refine refTouches_some p n m a off cap (cutX m xs) w hp hn hm (fun i => ?_) (fun i => ?_) ha (fun i hi => ?_)
    · unfold cutX; split
      · exact hx0 i ‹_›
      · omega
    · unfold cutX; split
      · exact hx9 i ‹_›
      · omega
    · rw [hx i hi]; unfold cutX; rw [if_pos hi]

end Go.Proofs.Ytobniidkkmlilaa
