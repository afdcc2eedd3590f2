/- Paired: the walk. -/
import Derived.Test.YtobniidkkmlilaaRaw
import Derived.Test.YtobniidkkmlilaaPu
namespace Go.Proofs.Ytobniidkkmlilaa
open Go.RowKit Go.Coh

theorem Touches_int (p n m : Nat) (p' n' : Int) (v : Value) (xs : Nat → Int) (w : World) (ep : p' = p) (en : n' = n) (hp : p ≤ 3) (hn : Size n) (hm : m ≤ 200) (hv : IntsAt w v m xs) (h0 : ∀ i, i < m → 0 ≤ xs i) :
    Calls Try.prog 16 #[.int .i64 p', .int .i64 n', v] w fun e w' =>
      (∃ g, e = .returned (.tuple #[.slice (some ⟨g, 0, none⟩) m m, .int .i64 0]) ∧ w.heap.size ≤ g ∧ g < w'.heap.size ∧ TchAt w' g m (tchRunT p n xs)) ∧ Upd no w w' := by
  subst ep; subst en
  exact Touches_ok p n m v xs w hp hn hm hv h0

theorem tch_keep {w w' : World} {g k : Nat} {T : Nat → Tch} (h : TchAt w g k T) (hg : g < w.heap.size) (u : Upd no w w') : TchAt w' g k T := fun i hi j v hj => by
  rw [u.cell hg (fun h => h)]; exact h i hi j v hj

theorem ints_keep {w w' : World} {l : Value} {k : Nat} {xs : Nat → Int} (h : IntsAt w l k xs) (u : Upd no w w') : IntsAt w' l k xs := by
  rcases h with h | ⟨a, off, cap, e1, e2, e3⟩
  · exact .inl h
  · exact .inr ⟨a, off, cap, e1, Nat.lt_of_lt_of_le e2 u.size, fun i hi => by rw [u.cell e2 (fun h => h)]; exact e3 i hi⟩

theorem two_shl (q : Nat) (hq : q < 3) : Size (2 * 2 ^ q) ∧ 2 ≤ 2 * 2 ^ q := by
  match q, hq with
  | 0, _ => exact ⟨.inr (.inl rfl), by decide⟩
  | 1, _ => exact ⟨.inr (.inr (.inl rfl)), by decide⟩
  | 2, _ => exact ⟨.inr (.inr (.inr rfl)), by decide⟩

theorem wrap_shl (q : Nat) (hq : q < 3) : wrap64 (2 * 2 ^ q) = ((2 * 2 ^ q : Nat) : Int) := by
  match q, hq with
  | 0, _ => decide +kernel
  | 1, _ => decide +kernel
  | 2, _ => decide +kernel

theorem tch_cells3 {w : World} {g k : Nat} {T : Nat → Tch} (h : TchAt w g k T) {i : Nat} (hi : i < k) :
    w.cell? ⟨g, i * 3, none⟩ = some (.bool (T i).hit) ∧ w.cell? ⟨g, i * 3 + 1, none⟩ = some (.int .i64 (T i).way) ∧ w.cell? ⟨g, i * 3 + 2, none⟩ = some (.int .i64 (T i).out) :=
  ⟨h i hi 0 _ rfl, h i hi 1 _ rfl, h i hi 2 _ rfl⟩

theorem ints_form {w : World} {l : Value} {k : Nat} {xs : Nat → Int} (h : IntsAt w l k xs) :
    ∃ o cap, l = .slice o k cap ∧ (0 < k → ∃ a off, o = some ⟨a, off, none⟩ ∧ a < w.heap.size ∧ ∀ i, i < k → w.cell? ⟨a, off + i, none⟩ = some (.int .i64 (xs i))) := by
  rcases h with ⟨rfl, rfl⟩ | ⟨a, off, cap, rfl, ha, hx⟩
  · exact ⟨none, 0, rfl, fun h => by omega⟩
  · exact ⟨_, cap, rfl, fun _ => ⟨a, off, rfl, ha, hx⟩⟩

set_option maxRecDepth 100000 in
set_option maxHeartbeats 1000000 in
theorem paired_any (c0 c1 : Int) (v : Value) (m : Nat) (zs : Nat → Int) (w : World) (h1 : -9223372036854775808 ≤ c1) (h2 : c1 ≤ 9223372036854775807)
    (h3 : -9223372036854775808 ≤ c0) (h4 : c0 ≤ 9223372036854775807) (hv : RawAt w v m zs) :
    Calls Try.prog 6 #[.int .i64 c0, .int .i64 c1, v] w fun e w' => e = .returned (.bool true) ∧ Upd no w w' := by
  have HV : Hid (RawAt w v m zs) := hv
  have hp4 := pickN_lt c0 4 (by omega)
  have hp2 := pickN_lt c0 2 (by omega)
  have hq3 := pickN_lt c1 3 (by omega)
  clear hv
  go_enter Try.func6, Try.ntmps6
  go_wp2_with fail
  refine (some_any m 9 v _ zs _ rfl (by omega) (by omega) HV.out).mono ?_
  rintro e w2 ⟨⟨l, rfl, hown⟩, hu⟩
  have hk := someN_le m
  generalize someN m = k at *
  have hxp : ∀ i, 0 ≤ ((fun i => ((pickN (zs i) 9 : Nat) : Int)) i) := fun i => Int.natCast_nonneg _
  generalize (fun i => ((pickN (zs i) 9 : Nat) : Int)) = xs at *
  obtain ⟨hints, hbase⟩ := ints_of_own hown
  have HI : Hid (IntsAt w2 l k xs) := hints
  have HU : Hid (Upd no w w2) := hu
  have HXP : Hid (∀ i, 0 ≤ xs i) := hxp
  clear hints hbase hu hxp hown
  go_wp2_with fail
  refine (Touches_int 0 1 k _ _ l xs _ rfl rfl (by omega) (.inl rfl) hk HI.out (fun i _ => HXP.out i)).mono ?_
  rintro e w3 ⟨⟨g1, rfl, _, hg1, hT1⟩, hu3⟩
  have HT1 : Hid (TchAt w3 g1 k (tchRunT 0 1 xs)) := hT1
  have HI3 : Hid (IntsAt w3 l k xs) := ints_keep HI.out hu3
  have HU3 : Hid (Upd no w w3) := HU.out.trans hu3
  clear hT1 hu3 HI HU
  go_wp2_with fail
  refine (pick_int c0 4 _ _ rfl (by omega) (by omega) h3 h4).mono ?_
  rintro e w3' ⟨rfl, rfl⟩
  generalize pickN c0 4 = p at *
  go_wp2_with fail
  refine (Touches_int p 1 k _ _ l xs _ rfl rfl (by omega) (.inl rfl) hk HI3.out (fun i _ => HXP.out i)).mono ?_
  rintro e w4 ⟨⟨g2, rfl, _, hg2, hT2⟩, hu4⟩
  have HT2 : Hid (TchAt w4 g2 k (tchRunT p 1 xs)) := hT2
  have HI4 : Hid (IntsAt w4 l k xs) := ints_keep HI3.out hu4
  have HU4 : Hid (Upd no w w4) := HU3.out.trans hu4
  have HT14 : Hid (TchAt w4 g1 k (tchRunT 0 1 xs)) := tch_keep HT1.out hg1 hu4
  have hg14 : g1 < w4.heap.size := Nat.lt_of_lt_of_le hg1 hu4.size
  clear hT2 hu4 HI3 HU3 HT1 hg1
  go_wp2_with fail
  refine (Touches_int 0 2 k _ _ l xs _ rfl rfl (by omega) (.inr (.inl rfl)) hk HI4.out (fun i _ => HXP.out i)).mono ?_
  rintro e w5 ⟨⟨g3, rfl, _, hg3, hT3⟩, hu5⟩
  have HT3 : Hid (TchAt w5 g3 k (tchRunT 0 2 xs)) := hT3
  have HI5 : Hid (IntsAt w5 l k xs) := ints_keep HI4.out hu5
  have HU5 : Hid (Upd no w w5) := HU4.out.trans hu5
  have HT15 : Hid (TchAt w5 g1 k (tchRunT 0 1 xs)) := tch_keep HT14.out hg14 hu5
  have HT25 : Hid (TchAt w5 g2 k (tchRunT p 1 xs)) := tch_keep HT2.out hg2 hu5
  have hg15 : g1 < w5.heap.size := Nat.lt_of_lt_of_le hg14 hu5.size
  have hg25 : g2 < w5.heap.size := Nat.lt_of_lt_of_le hg2 hu5.size
  clear hT3 hu5 HI4 HU4 HT14 hg14 HT2 hg2
  go_wp2_with fail
  refine (Touches_int 1 2 k _ _ l xs _ rfl rfl (by omega) (.inr (.inl rfl)) hk HI5.out (fun i _ => HXP.out i)).mono ?_
  rintro e w6 ⟨⟨g4, rfl, _, hg4, hT4⟩, hu6⟩
  have HT4 : Hid (TchAt w6 g4 k (tchRunT 1 2 xs)) := hT4
  have HI6 : Hid (IntsAt w6 l k xs) := ints_keep HI5.out hu6
  have HU6 : Hid (Upd no w w6) := HU5.out.trans hu6
  have HT16 : Hid (TchAt w6 g1 k (tchRunT 0 1 xs)) := tch_keep HT15.out hg15 hu6
  have HT26 : Hid (TchAt w6 g2 k (tchRunT p 1 xs)) := tch_keep HT25.out hg25 hu6
  have HT36 : Hid (TchAt w6 g3 k (tchRunT 0 2 xs)) := tch_keep HT3.out hg3 hu6
  have hg16 : g1 < w6.heap.size := Nat.lt_of_lt_of_le hg15 hu6.size
  have hg26 : g2 < w6.heap.size := Nat.lt_of_lt_of_le hg25 hu6.size
  have hg36 : g3 < w6.heap.size := Nat.lt_of_lt_of_le hg3 hu6.size
  clear hT4 hu6 HI5 HU5 HT15 hg15 HT25 hg25 HT3 hg3
  go_wp2_with fail
  refine (pick_int c1 3 _ _ rfl (by omega) (by omega) h1 h2).mono ?_
  rintro e w6' ⟨rfl, rfl⟩
  generalize pickN c1 3 = q at *
  go_wp2_with fail
  refine (pick_int c0 2 _ _ rfl (by omega) (by omega) h3 h4).mono ?_
  rintro e w6'' ⟨rfl, rfl⟩
  generalize pickN c0 2 = p2 at *
  go_wp2_with fail
  have hsz := two_shl q hq3
  have ew := wrap_shl q hq3
  generalize wrap64 (2 * 2 ^ q) = nw at *
  generalize 2 * 2 ^ q = nn at *
  subst ew
  refine (Touches_int p2 nn k _ _ l xs _ rfl rfl (by omega) hsz.1 hk HI6.out (fun i _ => HXP.out i)).mono ?_
  rintro e w7 ⟨⟨g5, rfl, _, hg5, hT5⟩, hu7⟩
  have HST : Hid (∀ i, (tchRunT p2 nn xs (i + 1)).out ≠ xs i) := stays hsz.1 hsz.2 (by omega) HXP.out
  have HT5 : Hid (TchAt w7 g5 k (tchRunT p2 nn xs)) := hT5
  have HI7 : Hid (IntsAt w7 l k xs) := ints_keep HI6.out hu7
  have HU7 : Hid (Upd no w w7) := HU6.out.trans hu7
  have HT17 : Hid (∀ i, i < k → w7.cell? ⟨g1, i * 3, none⟩ = some (.bool (oneT xs i).hit) ∧ w7.cell? ⟨g1, i * 3 + 1, none⟩ = some (.int .i64 (oneT xs i).way) ∧ w7.cell? ⟨g1, i * 3 + 2, none⟩ = some (.int .i64 (oneT xs i).out)) := fun i hi => by
    have := tch_cells3 (tch_keep HT16.out hg16 hu7) hi
    rwa [one_T 0 HXP.out i] at this
  have HT27 : Hid (∀ i, i < k → w7.cell? ⟨g2, i * 3, none⟩ = some (.bool (oneT xs i).hit) ∧ w7.cell? ⟨g2, i * 3 + 1, none⟩ = some (.int .i64 (oneT xs i).way) ∧ w7.cell? ⟨g2, i * 3 + 2, none⟩ = some (.int .i64 (oneT xs i).out)) := fun i hi => by
    have := tch_cells3 (tch_keep HT26.out hg26 hu7) hi
    rwa [one_T p HXP.out i] at this
  have HT37 : Hid (∀ i, i < k → w7.cell? ⟨g3, i * 3, none⟩ = some (.bool (tchRunT 0 2 xs i).hit) ∧ w7.cell? ⟨g3, i * 3 + 1, none⟩ = some (.int .i64 (tchRunT 0 2 xs i).way) ∧ w7.cell? ⟨g3, i * 3 + 2, none⟩ = some (.int .i64 (tchRunT 0 2 xs i).out)) := fun i hi => tch_cells3 (tch_keep HT36.out hg36 hu7) hi
  have HT47 : Hid (∀ i, i < k → w7.cell? ⟨g4, i * 3, none⟩ = some (.bool (tchRunT 0 2 xs i).hit) ∧ w7.cell? ⟨g4, i * 3 + 1, none⟩ = some (.int .i64 (tchRunT 0 2 xs i).way) ∧ w7.cell? ⟨g4, i * 3 + 2, none⟩ = some (.int .i64 (tchRunT 0 2 xs i).out)) := fun i hi => by
    have := tch_cells3 (tch_keep HT4.out hg4 hu7) hi
    rwa [two_T xs i] at this
  clear hT5 hu7 HI6 HU6 HT16 HT26 HT36 HT4 hg16 hg26 hg36 hg4 hsz
  obtain ⟨o, cap, rfl, hx⟩ := ints_form HI7.out
  have HX : Hid (0 < k → ∃ a off, o = some ⟨a, off, none⟩ ∧ a < w7.heap.size ∧ ∀ i, i < k → w7.cell? ⟨a, off + i, none⟩ = some (.int .i64 (xs i))) := hx
  clear hx HI7
  go_wp2_with fail
  go_loopw [19] (fun i wr => ∃ j q : Nat, j ≤ k ∧ i = .int .i64 j ∧ wr = w7.drewN q) (fun i _ => k - (intOf i).toNat)
  case atStart => exact ⟨0, 0, Nat.zero_le _, rfl, rfl⟩
  case round =>
    obtain ⟨j, q0, hj, rfl, rfl⟩ := hrel
    by_cases hlt : j < k
    · obtain ⟨a, off, rfl, ha, hx⟩ := HX.out (by omega)
      have hxj := hx j hlt
      obtain ⟨t10, t11, t12⟩ := HT17.out j hlt
      obtain ⟨t20, t21, t22⟩ := HT27.out j hlt
      obtain ⟨t30, t31, t32⟩ := HT37.out j hlt
      obtain ⟨t40, t41, t42⟩ := HT47.out j hlt
      obtain ⟨t50, t51, t52⟩ := tch_cells3 HT5.out hlt
      have HO : Hid (oneT xs j = if j = 0 then ⟨false, 0, -1⟩ else if xs j = xs (j - 1) then ⟨true, 0, -1⟩ else ⟨false, 0, xs (j - 1)⟩) := rfl
      generalize oneT xs j = a1 at *
      generalize tchRunT 0 2 xs j = a2 at *
      by_cases hj0 : j = 0
      · have e := HO.out
        rw [if_pos hj0] at e
        subst e
        simp only at t10 t11 t12 t20 t21 t22
        have hd : decide (0 < j) = false := by simp; omega
        have HJ0 : Hid (j = 0) := hj0
        clear hj0 HO
        generalize (tchRunT p2 nn xs j) = a5 at *
        go_wp2
        go_quiet (fail)
        go_wp2
        go_quiet (fail)
        go_wp2
        go_quiet (fail)
        go_wp2
        go_roundw
        case rel => exact ⟨j + 1, _, by omega, by go_num, rfl⟩
        case measure => simp [intOf]; omega
      · have hxp := hx (j - 1) (by omega)
        have hd : decide (0 < j) = true := by simp; omega
        have hj1 : 0 < j := by omega
        have hout := HST.out (j - 1)
        rw [show j - 1 + 1 = j by omega] at hout
        generalize (tchRunT p2 nn xs j) = a5 at *
        have hob : (a5.out == xs (j - 1)) = false := by simpa using hout
        have e := HO.out
        rw [if_neg hj0] at e
        clear hout HO hj0 hx
        by_cases he : xs j = xs (j - 1)
        · rw [if_pos he] at e
          subst e
          simp only at t10 t11 t12 t20 t21 t22
          have heb : (xs j == xs (j - 1)) = true := by simpa using he
          clear he
          generalize xs j = xj at *
          generalize xs (j - 1) = xj1 at *
          go_wp2
          go_quiet (fail)
          go_wp2
          go_quiet (fail)
          go_wp2
          go_quiet (fail)
          go_wp2
          go_roundw
          case rel => exact ⟨j + 1, _, by omega, by go_num, rfl⟩
          case measure => simp [intOf]; omega
        · rw [if_neg he] at e
          subst e
          simp only at t10 t11 t12 t20 t21 t22
          have heb : (xs j == xs (j - 1)) = false := by simpa using he
          clear he
          generalize xs j = xj at *
          generalize xs (j - 1) = xj1 at *
          go_wp2
          go_quiet (fail)
          go_wp2
          go_quiet (fail)
          go_wp2
          go_quiet (fail)
          go_wp2
          go_roundw
          case rel => exact ⟨j + 1, _, by omega, by go_num, rfl⟩
          case measure => simp [intOf]; omega
    · go_wp2
      go_ret
      exact ⟨rfl, HU7.out.drewN q0⟩

theorem paired_hole (a0 a1 : Int) (a2 : Option Addr) (len2 cap2 : Nat) (z2 : List Int) (w : World) (w0 : (Lit.int .i64 a0).wf = true) (w1 : (Lit.int .i64 a1).wf = true)
    (w2 : (a2 = none ∧ len2 = 0 ∧ cap2 = 0 ∧ z2 = []) ∨ ∃ x, a2 = some x ∧ len2 ≤ cap2 ∧ cap2 ≤ maxLen ∧ z2.length = cap2 ∧ (∀ i, i < z2.length → w.cell? (x.add i) = some (.int .i64 (z2.getD i 0))) ∧ ∀ n ∈ z2, (Lit.int .i64 n).wf = true) :
    Calls Try.prog 6 #[.int .i64 a0, .int .i64 a1, .slice a2 len2 cap2] w fun e w' => e = .returned (.bool true) ∧ Below w.heap.size w w' := by
  obtain ⟨h1, h2⟩ := bounds_i64 w0
  obtain ⟨h3, h4⟩ := bounds_i64 w1
  refine (paired_any a0 a1 _ len2 _ w h3 h4 h1 h2 (raw_of_row w2)).mono ?_
  rintro e w' ⟨he, hu⟩
  exact ⟨he, upd_below hu⟩

end Go.Proofs.Ytobniidkkmlilaa
