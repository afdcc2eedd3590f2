import Derived.Test.YtobniidkkmlilaaPa45
import Derived.Test.YtobniidkkmlilaaPa16
import Derived.Test.YtobniidkkmlilaaPa48

/- The walks over package coherentkeep: nested. -/
namespace Go.Proofs.Ytobniidkkmlilaa
open Go.RowKit Go.Coh

theorem tch_cellsN {w : World} {g k : Nat} {T : Nat → Tch} (h : TchAt w g k T) {i : Nat} (hi : i < k) :
    w.cell? ⟨g, i * 3, none⟩ = some (.bool (T i).hit) ∧ w.cell? ⟨g, i * 3 + 1, none⟩ = some (.int .i64 (T i).way) ∧ w.cell? ⟨g, i * 3 + 2, none⟩ = some (.int .i64 (T i).out) :=
  ⟨h i hi 0 _ rfl, h i hi 1 _ rfl, h i hi 2 _ rfl⟩

theorem sel_nonneg (S s : Nat) (xs : Nat → Nat) : ∀ k j, 0 ≤ sel S s xs k j
  | 0, _ => Int.le_refl _
  | k + 1, j => by
    unfold sel
    split
    · unfold upd; split
      · omega
      · exact sel_nonneg S s xs k j
    · exact sel_nonneg S s xs k j
theorem ints_opt {w : World} {v : Value} {m : Nat} {xs : Nat → Int} (h : IntsAt w v m xs) : ∃ o cap, v = .slice o m cap ∧ (0 < m → ∃ a off, o = some ⟨a, off, none⟩ ∧ a < w.heap.size ∧ ∀ i, i < m → w.cell? ⟨a, off + i, none⟩ = some (.int .i64 (xs i))) := by
  rcases h with ⟨rfl, rfl⟩ | ⟨a, off, cap, rfl, ha, hx⟩
  · exact ⟨none, 0, rfl, fun h => absurd h (Nat.lt_irrefl _)⟩
  · exact ⟨_, cap, rfl, fun _ => ⟨a, off, rfl, ha, hx⟩⟩
theorem IntsAt.of_upd {w w' : World} {v : Value} {m : Nat} {xs : Nat → Int} (h : IntsAt w v m xs) (u : Upd no w w') : IntsAt w' v m xs := by
  rcases h with h | ⟨a, off, cap, e, ha, hx⟩
  · exact .inl h
  · exact .inr ⟨a, off, cap, e, Nat.lt_of_lt_of_le ha u.size, fun i hi => by rw [u.cell ha (fun h => h)]; exact hx i hi⟩

set_option maxRecDepth 100000 in
set_option maxHeartbeats 4000000 in
theorem nested_any (xb K S W P s : Nat) (m : RM) (cf : Nat → Int) (xs : Nat → Nat) (pl : Nat → Int) (vl vp : Value) (w : World)
    (hK : K ≤ 200) (hS : Size S) (hW : Size W) (hP : P ≤ 1) (hs : s < S) (e1 : cf 1 = S) (e2 : cf 2 = W) (e3 : cf 3 = P) (hc1 : m.cores = 1) (hx : ∀ i, xs i < 64)
    (hpl : ∀ i, i < K → xs i % S = s → pl i = if (tchRunT P W (sel S s xs K) (cS S s xs i)).hit then 0 else if bef (fun i => (xs i : Int)) (xs i) i then 1 else 2)
    (hin : ∀ n, n < 64 → n % S = s → (m.has 0 n ≠ 0 ↔ inR (sel S s xs K) (tchRunT P W (sel S s xs K)) n (cS S s xs K) = true))
    (HP : PmAt w xb m) (hl : IntsAt w vl K (fun i => (xs i : Int))) (hp : IntsAt w vp K pl) :
    Calls Try.prog 36 #[.pointer (some ⟨xb, 0, none⟩), .agg (celC cf), .int .i64 s, vl, vp] w fun e w' => e = .returned (.bool true) ∧ Upd no w w' := by
  obtain ⟨i0, hi, hz0, hz1, hz2⟩ := info_parts info3
  obtain ⟨oL, capL, rfl, hL⟩ := ints_opt hl
  obtain ⟨oP, capP, rfl, hPl⟩ := ints_opt hp
  have HS := (show Hid _ from hS)
  have HW := (show Hid _ from hW)
  have HL := (show Hid _ from hL)
  have HPL := (show Hid _ from hPl)
  have HLA := (show Hid _ from hl)
  have HPA := (show Hid _ from hp)
  have HIN := (show Hid _ from hin)
  have HPP := (show Hid _ from hpl)
  have HM := (show Hid _ from HP)
  have hSp := hS.pos
  have hbl := HP.blt
  have HBX : Hid (∀ wr, Upd no (w.alloc (.cells (celC cf) 53)) wr → wr.cell? ⟨w.heap.size, 1, none⟩ = some (.int .i64 S) ∧ wr.cell? ⟨w.heap.size, 2, none⟩ = some (.int .i64 W) ∧ wr.cell? ⟨w.heap.size, 3, none⟩ = some (.int .i64 P)) := fun wr u => by
    have h := conf_cells (heap_alloc_new w (.cells (celC cf) 53))
    refine ⟨?_, ?_, ?_⟩
    · rw [u.cell (by simp) (fun h => h), h 1 (by omega), e1]
    · rw [u.cell (by simp) (fun h => h), h 2 (by omega), e2]
    · rw [u.cell (by simp) (fun h => h), h 3 (by omega), e3]
  clear hS hW hL hPl hl hp hin hpl HP e1 e2 e3
  unfold celC at *
  go_enter Try.func36, Try.ntmps36
  go_wp2
  generalize hw0 : (w.alloc (.cells #[.int .i64 (cf 0), .int .i64 (cf 1), .int .i64 (cf 2), .int .i64 (cf 3), .int .i64 (cf 4), .int .i64 (cf 5), .int .i64 (cf 6)] 53)) = w0 at *
  have HU0 : Hid (Upd no w w0) := by rw [← hw0]; exact (Upd.refl no w).alloc _
  have hz0w : w0.heap.size = w.heap.size + 1 := by rw [← hw0]; simp
  clear hw0
  go_loopw [11, 12] (fun l i wr => ∃ k : Nat, k ≤ K ∧ i = .int .i64 k ∧ wr.ownsRow w0.heap.size 3 1 l (cS S s xs k) (iv (sel S s xs K) (cS S s xs k)) ∧ Upd no w0 wr) (fun _ i _ => K - (intOf i).toNat)
  case atStart => exact ⟨0, Nat.zero_le _, rfl, World.ownsRow_nil _ _ _ _, Upd.refl _ _⟩
  case round =>
    obtain ⟨k, hk, rfl, hown, hu⟩ := hrel
    have HU := (show Hid _ from hu)
    have HO : Hid (wr.ownsRow w0.heap.size 3 1 u11 (cS S s xs k) (iv (sel S s xs K) (cS S s xs k))) := hown
    have hck := cS_le (S := S) (s := s) (xs := xs) k
    obtain ⟨b1, b2, b3⟩ := HBX.out _ hu
    by_cases hlt : k < K
    · obtain ⟨a, off, rfl, ha, hcells⟩ := HL.out (by omega)
      have ck : wr.cell? ⟨a, off + k, none⟩ = some (.int .i64 (xs k : Nat)) := by rw [(HU0.out.trans hu).cell ha (fun h => h)]; exact hcells k hlt
      have hS0 : (S : Int) ≠ 0 := by omega
      have hsz := hu.size
      clear hcells hown hu
      by_cases hq : xs k % S = s
      · have hqb : ((((xs k : Nat) : Int) % (S : Int)) == (s : Int)) = true := by
          simp only [beq_iff_eq]; rw [← Int.natCast_emod]; omega
        have HSL : Hid (sel S s xs K (cS S s xs k) = (xs k : Int)) := sel_at hq hlt
        have HCI : Hid (cS S s xs (k + 1) = cS S s xs k + 1) := cS_in hq
        have hx64 := hx k
        clear hq
        go_wp2
        go_quiet (fail)
        go_wp2_with (at_builtin; refine wpList_append_own _ rfl _ _ 24 rfl w0.heap.size 3 i0 (.int .i64 0) 1 8 Try.underlying24 hi hz0 hz1 hz2 rfl (by decide) _ _ _ rfl ((own_keep HO.out ((Upd.refl no wr).drewN nq) (fun _ _ _ h => h)).alloc _) ⟨wr.heap.size, 0, none⟩ 1 1 [.int .i64 (xs k : Nat)] rfl rfl (cell_one_new _ _ _) (ints_oneCell .i64 [((xs k : Nat) : Int)]) (by unfold maxLen; omega) (by omega) (by simp; omega) ?_; intro v' w2 hown' hgrow hnil)
        go_roundw
        case rel =>
          refine ⟨k + 1, by omega, by go_num, ?_, upd_grown ((HU.out.drewN _).alloc _) hgrow (fun g hg => (HO.out.lt g hg).1)⟩
          have := hown'
          rw [← HSL.out, iv_succ (sel S s xs K) (cS S s xs k)] at this
          rw [HCI.out]; exact this
        case measure => simp [intOf]; omega
      · have hqb : ((((xs k : Nat) : Int) % (S : Int)) == (s : Int)) = false := by
          simp only [beq_eq_false_iff_ne]; rw [← Int.natCast_emod]; omega
        have HCI : Hid (cS S s xs (k + 1) = cS S s xs k) := cS_out hq
        clear hq
        go_wp2
        go_quiet (fail)
        go_wp2
        go_roundw
        case rel =>
          refine ⟨k + 1, by omega, by go_num, ?_, HU.out.drewN _⟩
          rw [HCI.out]; exact own_keep HO.out ((Upd.refl no wr).drewN _) (fun _ _ _ h => h)
        case measure => simp [intOf]; omega
    · have hkK : k = K := by omega
      subst hkK
      obtain ⟨hints, hbase⟩ := ints_of_own hown
      obtain ⟨oT, capT, rfl, hT⟩ := ints_opt hints
      have HI := (show Hid _ from hints)
      have HTC := (show Hid _ from hT)
      have HUW : Hid (Upd no w wr) := HU0.out.trans hu
      have hsz := hu.size
      have hmul : ∀ j, j < cS S s xs k → 0 ≤ sel S s xs k j := fun j hj => sel_nonneg _ _ _ _ _
      have HMU := (show Hid _ from hmul)
      clear hown hu hints hbase hT HO HU hmul
      go_wp2_with fail
      refine (Touches_ok P W (cS S s xs k) (.slice oT (cS S s xs k) capT) (sel S s xs k) _ (by omega) HW.out (by omega) HI.out HMU.out).mono ?_
      rintro e w3 ⟨⟨g, rfl, hg1, hg2, hTA⟩, u3⟩
      have HTA : Hid (TchAt w3 g (cS S s xs k) (tchRunT P W (sel S s xs k))) := hTA
      have HU3 : Hid (Upd no w w3) := HUW.out.trans u3
      have hB3 : w3.cell? ⟨w.heap.size, 1, none⟩ = some (.int .i64 S) := by rw [u3.cell (by omega) (fun h => h)]; exact b1
      have HB3 := (show Hid _ from hB3)
      have hz3 := u3.size
      have HTC3 : Hid (0 < cS S s xs k → ∃ a off, oT = some ⟨a, off, none⟩ ∧ a < w3.heap.size ∧ ∀ i, i < cS S s xs k → w3.cell? ⟨a, off + i, none⟩ = some (.int .i64 (sel S s xs k i))) := fun h => by
        obtain ⟨a, off, e, ha, hx⟩ := HTC.out h
        exact ⟨a, off, e, Nat.lt_of_lt_of_le ha u3.size, fun i hi => by rw [u3.cell ha (fun h => h)]; exact hx i hi⟩
      clear u3 hTA hB3 b1 b2 b3 HI HUW HTC
      go_wp2
      go_loopw [15, 16] (fun q i wr => ∃ j : Nat, j ≤ k ∧ q = .int .i64 (cS S s xs j : Nat) ∧ i = .int .i64 j ∧ Upd no w3 wr) (fun _ i _ => k - (intOf i).toNat)
      case atStart => exact ⟨0, Nat.zero_le _, rfl, rfl, Upd.refl _ _⟩
      case round =>
        obtain ⟨j, hj, rfl, rfl, hu⟩ := hrel
        have HU := (show Hid _ from hu)
        have hcj := cS_le (S := S) (s := s) (xs := xs) j
        have d1 : wr.cell? ⟨w.heap.size, 1, none⟩ = some (.int .i64 S) := by rw [hu.cell (by omega) (fun h => h)]; exact HB3.out
        have hsz4 := hu.size
        have hS0 : (S : Int) ≠ 0 := by omega
        by_cases hlt2 : j < k
        · obtain ⟨a, off, rfl, ha, hcells⟩ := HL.out (by omega)
          obtain ⟨a2, off2, rfl, ha2, hcells2⟩ := HPL.out (by omega)
          have hcw : ∀ i, i < k → wr.cell? ⟨a, off + i, none⟩ = some (.int .i64 (xs i : Nat)) := fun i hi => by rw [(HU3.out.trans hu).cell ha (fun h => h)]; exact hcells i hi
          have cj := hcw j hlt2
          have pj : wr.cell? ⟨a2, off2 + j, none⟩ = some (.int .i64 (pl j)) := by rw [(HU3.out.trans hu).cell ha2 (fun h => h)]; exact hcells2 j hlt2
          have HCW := (show Hid _ from hcw)
          clear hcells hcells2 hcw
          by_cases hq : xs j % S = s
          · have hqb : ((((xs j : Nat) : Int) % (S : Int)) != (s : Int)) = false := by
              simp only [bne_eq_false_iff_eq]; rw [← Int.natCast_emod]; omega
            have HCI : Hid (cS S s xs (j + 1) = cS S s xs j + 1) := cS_in hq
            have hclt : cS S s xs j < cS S s xs k := by have := cS_mono (S := S) (s := s) (xs := xs) (show j + 1 ≤ k by omega); rw [HCI.out] at this; omega
            have th : wr.cell? ⟨g, cS S s xs j * 3, none⟩ = some (.bool (tchRunT P W (sel S s xs k) (cS S s xs j)).hit) := by rw [hu.cell hg2 (fun h => h)]; exact (tch_cellsN HTA.out hclt).1
            have hpj := HPP.out j hlt2 hq
            clear hq hu
            obtain ⟨bb, hbb⟩ : ∃ b, bef (fun i => (xs i : Int)) (xs j) j = b := ⟨_, rfl⟩
            have HBB := (show Hid _ from hbb)
            rw [hbb] at hpj
            clear hbb
            generalize (tchRunT P W (sel S s xs k) (cS S s xs j)).hit = ht at *
            go_wp2
            go_quiet (fail)
            go_wp2_with fail
            refine (before_any a off capL k j (fun i => (xs i : Int)) (wr.drewN nq) hlt2 hK (fun i hi => HCW.out i hi)).mono ?_
            rintro e w5 ⟨rfl, u5⟩
            rw [HBB.out]
            have hg5 : g < wr.heap.size := by omega
            have u5' : Upd no wr w5 := ((Upd.refl no wr).drewN _).trans u5
            have th5 : w5.cell? ⟨g, cS S s xs j * 3, none⟩ = some (.bool ht) := by rw [u5'.cell hg5 (fun h => h)]; exact th
            have pj5 : w5.cell? ⟨a2, off2 + j, none⟩ = some (.int .i64 (pl j)) := by rw [u5'.cell (by have := HU3.out.size; omega) (fun h => h)]; exact pj
            have HU5 : Hid (Upd no w3 w5) := HU.out.trans u5'
            clear u5 u5' th pj cj d1
            rw [hpj] at pj5
            clear hpj
            cases ht
            · cases bb
              · rw [if_neg (by simp), if_neg (by simp)] at pj5
                go_wp2
                go_roundw
                case rel => exact ⟨j + 1, by omega, by rw [HCI.out]; go_num, by go_num, HU5.out⟩
                case measure => simp [intOf]; omega
              · rw [if_neg (by simp), if_pos rfl] at pj5
                go_wp2
                go_roundw
                case rel => exact ⟨j + 1, by omega, by rw [HCI.out]; go_num, by go_num, HU5.out⟩
                case measure => simp [intOf]; omega
            · rw [if_pos rfl] at pj5
              cases bb
              all_goals
                go_wp2
                go_roundw
                case rel => exact ⟨j + 1, by omega, by rw [HCI.out]; go_num, by go_num, HU5.out⟩
                case measure => simp [intOf]; omega
          · have hqb : ((((xs j : Nat) : Int) % (S : Int)) != (s : Int)) = true := by
              simp only [bne_iff_ne]; rw [← Int.natCast_emod]; omega
            have HCI : Hid (cS S s xs (j + 1) = cS S s xs j) := cS_out hq
            clear hq hu pj
            go_wp2
            go_quiet (fail)
            go_wp2
            go_roundw
            case rel => exact ⟨j + 1, by omega, by rw [HCI.out], by go_num, HU.out.drewN _⟩
            case measure => simp [intOf]; omega
        · have HUO : Hid (Upd no w3 wr) := hu
          clear hu d1
          obtain ⟨wo, hwo⟩ : ∃ x, x = wr := ⟨_, rfl⟩
          subst hwo
          have hjk : j = k := by omega
          subst hjk
          go_wp2
          go_loopw [19] (fun i wr => ∃ n : Nat, n ≤ 72 ∧ n % S = s ∧ i = .int .i64 n ∧ Upd no w3 wr) (fun i _ => 80 - (intOf i).toNat)
          case atStart => exact ⟨s, by omega, Nat.mod_eq_of_lt hs, rfl, HUO.out⟩
          case round =>
            obtain ⟨n, hn, hns, rfl, hu⟩ := hrel
            obtain ⟨wn, hwn⟩ : ∃ x, x = wr := ⟨_, rfl⟩
            subst hwn
            have HU2 := (show Hid _ from hu)
            by_cases hn64 : n < 64
            · have hd : decide ((n : Int) < 64) = true := by simp; omega
              have HHI := (show Hid _ from HIN.out n hn64 hns)
              have HNS := (show Hid _ from hns)
              clear hu hns
              go_wp2
              go_loopw [20, 21] (fun b i wr => ∃ q : Nat, q ≤ cS S s xs j ∧ b = .bool (inR (sel S s xs j) (tchRunT P W (sel S s xs j)) n q) ∧ i = .int .i64 q ∧ Upd no w3 wr) (fun _ i _ => cS S s xs j - (intOf i).toNat)
              case atStart => exact ⟨0, Nat.zero_le _, rfl, rfl, HU2.out⟩
              case round =>
                obtain ⟨q, hq, rfl, rfl, hu⟩ := hrel
                have HU5 := (show Hid _ from hu)
                by_cases hql : q < cS S s xs j
                · obtain ⟨aT, offT, rfl, haT, hcT⟩ := HTC3.out (by omega)
                  have lq : wr.cell? ⟨aT, offT + q, none⟩ = some (.int .i64 (sel S s xs j q)) := by rw [hu.cell haT (fun h => h)]; exact hcT q hql
                  have oq : wr.cell? ⟨g, q * 3 + 2, none⟩ = some (.int .i64 (tchRunT P W (sel S s xs j) q).out) := by rw [hu.cell hg2 (fun h => h)]; exact (tch_cellsN HTA.out hql).2.2
                  have HNX : Hid (inR (sel S s xs j) (tchRunT P W (sel S s xs j)) n (q + 1) = ((inR (sel S s xs j) (tchRunT P W (sel S s xs j)) n q || (sel S s xs j q == (n : Int))) && (tchRunT P W (sel S s xs j) q).out != (n : Int))) := rfl
                  clear hu hcT
                  obtain ⟨bi, hbi⟩ : ∃ b, inR (sel S s xs j) (tchRunT P W (sel S s xs j)) n q = b := ⟨_, rfl⟩
                  obtain ⟨be, hbe⟩ : ∃ b, (sel S s xs j q == (n : Int)) = b := ⟨_, rfl⟩
                  obtain ⟨bo, hbo⟩ : ∃ b, ((tchRunT P W (sel S s xs j) q).out != (n : Int)) = b := ⟨_, rfl⟩
                  rw [hbi, hbe, hbo] at HNX
                  rw [hbi]
                  clear hbi
                  generalize sel S s xs j q = yq at *
                  generalize (tchRunT P W (sel S s xs j) q).out = oq2 at *
                  cases bi <;> cases be <;> cases bo
                  all_goals
                    go_wp2
                    go_roundw
                    case rel => exact ⟨q + 1, by omega, by rw [HNX.out]; rfl, by go_num, HU5.out⟩
                    case measure => simp [intOf]; omega
                · have hqe : q = cS S s xs j := by omega
                  subst hqe
                  have d1 : wr.cell? ⟨w.heap.size, 1, none⟩ = some (.int .i64 S) := by rw [hu.cell (by omega) (fun h => h)]; exact HB3.out
                  have HPW := (show Hid _ from HM.out.of_upd (HU3.out.trans hu) (fun _ e => e))
                  have HSE : Hid (stateE m.cores (0 : Int) (n : Int) = 0) := by show _ = _; rw [hc1]; exact stateE_zero (n := 1) (c := 0) (by omega) hn64
                  have HSV : Hid (m.stateV (0 : Int) (n : Int) = m.has 0 n) := by show _ = _; unfold RM.stateV; rw [HSE.out, if_pos rfl]; rfl
                  have HC4 : Hid (m.cores ≤ 4) := by show _ ≤ _; omega
                  clear hu
                  by_cases h0 : m.has 0 n = 0
                  · have hf : inR (sel S s xs j) (tchRunT P W (sel S s xs j)) n (cS S s xs j) = false := by
                      cases e : inR (sel S s xs j) (tchRunT P W (sel S s xs j)) n (cS S s xs j) with
                      | false => rfl
                      | true => exact absurd h0 (HHI.out.2 e)
                    rw [hf]
                    have HV0 := (show Hid _ from HSV.out.trans h0)
                    clear hf h0 HSV
                    go_wp2_with fail
                    refine (pState_any xb m 0 n _ HC4.out HPW.out).mono ?_
                    rintro e w6 ⟨rfl, rfl⟩
                    rw [HSE.out, HV0.out]
                    go_wp2
                    go_roundw
                    case rel => exact ⟨n + S, by omega, by rw [Nat.add_mod_right]; exact HNS.out, by go_num, HU5.out⟩
                    case measure => simp [intOf]; omega
                  · have hf := HHI.out.1 h0
                    rw [hf]
                    have hb0 : (m.has 0 n != 0) = true := by simpa using h0
                    clear hf h0
                    go_wp2_with fail
                    refine (pState_any xb m 0 n _ HC4.out HPW.out).mono ?_
                    rintro e w6 ⟨rfl, rfl⟩
                    rw [HSE.out, HSV.out]
                    clear HSV HHI
                    generalize m.has 0 n = hh at *
                    go_wp2
                    go_roundw
                    case rel => exact ⟨n + S, by omega, by rw [Nat.add_mod_right]; exact HNS.out, by go_num, HU5.out⟩
                    case measure => simp [intOf]; omega
            · clear hu
              go_wp2
              go_ret
              exact ⟨rfl, HU3.out.trans HU2.out⟩

end Go.Proofs.Ytobniidkkmlilaa
