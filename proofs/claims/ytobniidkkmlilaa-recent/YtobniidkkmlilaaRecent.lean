/- Recent: the walk. -/
import Derived.Test.YtobniidkkmlilaaKc
import Derived.Test.YtobniidkkmlilaaPt
import Derived.Test.YtobniidkkmlilaaRaw
namespace Go.Proofs.Ytobniidkkmlilaa
open Go.RowKit Go.Coh

theorem tch_cells {w : World} {g k : Nat} {T : Nat → Tch} (h : TchAt w g k T) {i : Nat} (hi : i < k) :
    w.cell? ⟨g, i * 3, none⟩ = some (.bool (T i).hit) ∧ w.cell? ⟨g, i * 3 + 1, none⟩ = some (.int .i64 (T i).way) ∧ w.cell? ⟨g, i * 3 + 2, none⟩ = some (.int .i64 (T i).out) :=
  ⟨h i hi 0 _ rfl, h i hi 1 _ rfl, h i hi 2 _ rfl⟩

set_option maxRecDepth 100000 in
set_option maxHeartbeats 1000000 in
theorem recent_any (c : Int) (v : Value) (m : Nat) (zs : Nat → Int) (w : World) (h1 : -9223372036854775808 ≤ c) (h2 : c ≤ 9223372036854775807) (hv : RawAt w v m zs) :
    Calls Try.prog 4 #[.int .i64 c, v] w fun e w' => e = .returned (.bool true) ∧ Upd no w w' := by
  have HV : Hid (RawAt w v m zs) := hv
  have HN : Hid (Size (powerN c)) := powerN_size c
  have hn8 : 0 < powerN c ∧ powerN c ≤ 8 := by rcases HN.out with h | h | h | h <;> omega
  clear hv
  go_enter Try.func4, Try.ntmps4
  go_wp2_with fail
  refine (power_any c _ h1 h2).mono ?_
  rintro e w1 ⟨rfl, rfl⟩
  generalize powerN c = n at *
  go_wp2_with fail
  refine (some_any m 12 v _ zs _ rfl (by omega) (by omega) HV.out).mono ?_
  rintro e w2 ⟨⟨l, rfl, hown⟩, hu⟩
  have hk := someN_le m
  generalize someN m = k at *
  have hxp : ∀ i, 0 ≤ ((fun i => ((pickN (zs i) 12 : Nat) : Int)) i) := fun i => Int.natCast_nonneg _
  generalize (fun i => ((pickN (zs i) 12 : Nat) : Int)) = xs at *
  obtain ⟨hints, hbase⟩ := ints_of_own hown
  have HI : Hid (IntsAt w2 l k xs) := hints
  have HU : Hid (Upd no w1 w2) := hu
  have HXP : Hid (∀ i, 0 ≤ xs i) := hxp
  clear hints hbase hu hxp hown
  go_wp2_with fail
  refine (Touches_ok 0 n k l xs _ (by omega) HN.out hk HI.out (fun i _ => HXP.out i)).mono ?_
  rintro e w3 ⟨⟨g, rfl, hg1, hg2, hT⟩, hu3⟩
  have HT : Hid (TchAt w3 g k (tchRunT 0 n xs)) := hT
  have HU3 : Hid (Upd no w1 w3) := HU.out.trans hu3
  have HI3 : Hid (IntsAt w3 l k xs) := by
    rcases HI.out with h | ⟨a, off, cap, e1, e2, e3⟩
    · exact .inl h
    · exact .inr ⟨a, off, cap, e1, Nat.lt_of_lt_of_le e2 hu3.size, fun i hi => by rw [hu3.cell e2 (fun h => h)]; exact e3 i hi⟩
  clear hT hu3 HI HU
  rcases HI3.out with ⟨rfl, rfl⟩ | ⟨a, off, cap, rfl, ha, hx⟩
  · go_wp2
    go_loop [9] (fun i => i = .int .i64 0) (fun _ => 0)
    case atStart => exact rfl
    case round =>
      obtain rfl := hrel
      go_wp2
      go_ret
      exact ⟨rfl, HU3.out⟩
  · have HX : Hid (∀ i, i < k → w3.cell? ⟨a, off + i, none⟩ = some (.int .i64 (xs i))) := hx
    clear hx
    go_wp2_with fail
    go_loopw [9] (fun i wr => ∃ j q : Nat, j ≤ k ∧ i = .int .i64 j ∧ wr = w3.drewN q) (fun i _ => k - (intOf i).toNat)
    case atStart => exact ⟨0, 0, Nat.zero_le _, rfl, rfl⟩
    case round =>
      obtain ⟨j, q, hj, rfl, rfl⟩ := hrel
      by_cases hlt : j < k
      · go_wp2_with fail
        refine (since_any a off k cap j xs (w3.drewN q) hlt hk (fun i hi => HX.out i hi)).mono ?_
        rintro e w4 ⟨⟨r, rfl, hr⟩, q2, rfl⟩
        have HR : Hid ((tchRunT 0 n xs j).hit = (decide (0 ≤ r) && decide (r < n))) := recent_pure hn8.1 j r (fun i _ => HXP.out i) hr
        have hc := (tch_cells HT.out hlt).1
        rw [HR.out] at hc
        clear hr
        by_cases hr0 : 0 ≤ r
        · by_cases hrn : r < n
          · have e0 : (decide (0 ≤ r) && decide (r < (n : Int))) = true := by simp [hr0, hrn]
            rw [e0] at hc
            go_wp2
            go_roundw
            case rel => exact ⟨j + 1, _, by omega, by go_num, by first | rfl | rw [World.drewN_drewN]⟩
            case measure => simp [intOf]; omega
          · have e0 : (decide (0 ≤ r) && decide (r < (n : Int))) = false := by simp [hrn]
            rw [e0] at hc
            go_wp2
            go_roundw
            case rel => exact ⟨j + 1, _, by omega, by go_num, by first | rfl | rw [World.drewN_drewN]⟩
            case measure => simp [intOf]; omega
        · have e0 : (decide (0 ≤ r) && decide (r < (n : Int))) = false := by simp [hr0]
          have hd : decide (0 ≤ r) = false := by simp [hr0]
          rw [e0] at hc
          go_wp2
          go_roundw
          case rel => exact ⟨j + 1, _, by omega, by go_num, by first | rfl | rw [World.drewN_drewN]⟩
          case measure => simp [intOf]; omega
      · go_wp2
        go_ret
        exact ⟨rfl, HU3.out.drewN q⟩

theorem recent_hole (a0 : Int) (a1 : Option Addr) (len1 cap1 : Nat) (z1 : List Int) (w : World) (w0 : (Lit.int .i64 a0).wf = true)
    (w1 : (a1 = none ∧ len1 = 0 ∧ cap1 = 0 ∧ z1 = []) ∨ ∃ x, a1 = some x ∧ len1 ≤ cap1 ∧ cap1 ≤ maxLen ∧ z1.length = cap1 ∧ (∀ i, i < z1.length → w.cell? (x.add i) = some (.int .i64 (z1.getD i 0))) ∧ ∀ n ∈ z1, (Lit.int .i64 n).wf = true) :
    Calls Try.prog 4 #[.int .i64 a0, .slice a1 len1 cap1] w fun e w' => e = .returned (.bool true) ∧ Below w.heap.size w w' := by
  obtain ⟨h1, h2⟩ := bounds_i64 w0
  refine (recent_any a0 _ len1 _ w h1 h2 (raw_of_row w1)).mono ?_
  rintro e w' ⟨he, hu⟩
  exact ⟨he, upd_below hu⟩

end Go.Proofs.Ytobniidkkmlilaa
