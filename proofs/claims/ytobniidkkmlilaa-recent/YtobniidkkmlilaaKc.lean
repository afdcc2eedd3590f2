/- The walks over package coherentkeep: since. -/
import Derived.Test.YtobniidkkmlilaaKb
import Derived.Test.YtobniidkkmlilaaPr
namespace Go.Proofs.Ytobniidkkmlilaa
open Go.RowKit Go.Coh

set_option maxRecDepth 100000 in
set_option maxHeartbeats 1000000 in
theorem since_any (a off m cap i : Nat) (xs : Nat → Int) (w : World) (hi : i < m) (hm : m ≤ 200) (hx : ∀ i, i < m → w.cell? ⟨a, off + i, none⟩ = some (.int .i64 (xs i))) :
    Calls Try.prog 24 #[.slice (some ⟨a, off, none⟩) m cap, .int .i64 i] w fun e w' => (∃ r : Int, e = .returned (.int .i64 r) ∧ SinceR xs i r) ∧ ∃ q, w' = w.drewN q := by
  have HX : Hid (∀ i, i < m → w.cell? ⟨a, off + i, none⟩ = some (.int .i64 (xs i))) := hx
  clear hx
  go_enter Try.func24, Try.ntmps24
  go_wp2
  go_loopw [5, 6] (fun n k wr => ∃ d q : Nat, d ≤ i ∧ n = .int .i64 (cnt xs i (i - d) : Nat) ∧ k = .int .i64 ((i : Int) - 1 - d) ∧ (∀ j, i - d ≤ j → j < i → xs j ≠ xs i) ∧ wr = w.drewN q) (fun _ k _ => (intOf k + 1).toNat)
  case atStart => exact ⟨0, 0, Nat.zero_le _, by rw [Nat.sub_zero, cnt_top]; rfl, by simp, fun j h1 h2 => by omega, rfl⟩
  case round =>
    obtain ⟨d, q, hd, rfl, rfl, hno, rfl⟩ := hrel
    have HNO : Hid (∀ j, i - d ≤ j → j < i → xs j ≠ xs i) := hno
    clear hno
    by_cases hlt : d < i
    · obtain ⟨k, hk⟩ : ∃ k, i = k + 1 + d := ⟨i - d - 1, by omega⟩
      have hkk : ((i : Int) - 1 - d) = (k : Int) := by omega
      have hid : i - d = k + 1 := by omega
      rw [hkk]
      rw [hid] at HNO ⊢
      have HK : Hid (i = k + 1 + d) := hk
      clear hk hkk hid
      have hki : k < i := by have := HK.out; omega
      have hck := HX.out k (by omega)
      have hci := HX.out i (by omega)
      have hcle := cnt_le xs i (k + 1)
      by_cases he : xs k = xs i
      · have heb : (xs k == xs i) = true := by simpa using he
        have HR : Hid (SinceR xs i (cnt xs i (k + 1) : Nat)) := .inr ⟨k, hki, he, fun j h1 h2 => HNO.out j (by omega) h2, rfl⟩
        clear he
        generalize cnt xs i (k + 1) = c at *
        go_wp2
        go_quiet (fail)
        go_wp2
        go_ret
        exact ⟨⟨_, rfl, HR.out⟩, q + nq, by rw [World.drewN_drewN]⟩
      · have heb : (xs k == xs i) = false := by simpa using he
        have HE : Hid (xs k ≠ xs i) := he
        clear he
        have HS := cnt_succ xs i k hki
        have HSS : Hid (cnt xs i k = cnt xs i (k + 1) + if fresh xs k i = true then 1 else 0) := HS
        clear HS
        generalize cnt xs i (k + 1) = c at *
        go_wp2
        go_quiet (fail)
        go_wp2
        go_loopw [7, 8] (fun f j wr => ∃ jj q : Nat, k + 1 ≤ jj ∧ jj ≤ i ∧ f = .bool (fresh xs k jj) ∧ j = .int .i64 jj ∧ wr = w.drewN q) (fun _ j _ => i - (intOf j).toNat)
        case atStart => exact ⟨k + 1, _, Nat.le_refl _, by omega, by rw [fresh_start], by go_num, rfl⟩
        case round =>
          obtain ⟨jj, q2, hj1, hj2, rfl, rfl, rfl⟩ := hrel
          by_cases hjl : jj < i
          · have hcj := HX.out jj (by omega)
            have HF : Hid (fresh xs k (jj + 1) = (fresh xs k jj && !(decide (k < jj) && decide (xs jj = xs k)))) := rfl
            by_cases hej : xs jj = xs k
            · have hejb : (xs jj == xs k) = true := by simpa using hej
              have HEJ : Hid (xs jj = xs k) := hej
              clear hej
              go_wp2
              go_quiet (fail)
              go_wp2
              go_roundw
              case rel => exact ⟨jj + 1, _, by omega, by omega, by rw [HF.out]; simp [HEJ.out]; omega, by go_num, rfl⟩
              case measure => simp [intOf]; omega
            · have hejb : (xs jj == xs k) = false := by simpa using hej
              have HEJ : Hid (xs jj ≠ xs k) := hej
              clear hej
              generalize fresh xs k jj = fb at *
              go_wp2
              go_quiet (fail)
              go_wp2
              go_roundw
              case rel => exact ⟨jj + 1, _, by omega, by omega, by rw [HF.out]; simp [HEJ.out], by go_num, rfl⟩
              case measure => simp [intOf]; omega
          · have hji : jj = i := by omega
            subst hji
            cases hfr : fresh xs k jj
            all_goals
              have HFR := (show Hid _ from hfr)
              clear hfr
              go_wp2
              go_roundw
              case rel =>
                have hK := HK.out
                refine ⟨d + 1, _, by omega, ?_, ?_, ?_, rfl⟩
                · rw [show jj - (d + 1) = k by omega, HSS.out, HFR.out]
                  first | rfl | go_num
                · first | go_num | (congr 1; omega)
                · intro j h1 h2
                  by_cases e : j = k
                  · subst e; exact HE.out
                  · exact HNO.out j (by omega) h2
              case measure => simp [intOf]
    · have hdi : d = i := by omega
      subst hdi
      have HR : Hid (SinceR xs d (-1)) := .inl ⟨rfl, fun k hk => HNO.out k (by omega) hk⟩
      have hneg : ((d : Int) - 1 - d) = -1 := by omega
      rw [hneg]
      clear hneg
      go_wp2
      go_ret
      exact ⟨⟨_, rfl, HR.out⟩, _, rfl⟩

end Go.Proofs.Ytobniidkkmlilaa
