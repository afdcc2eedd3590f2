import Derived.Test.YtobniidkkmlilaaPl12
import Derived.Test.YtobniidkkmlilaaPl16

/- The walks over package coherentref: Touches, where nothing is wrong. -/
namespace Go.Proofs.Ytobniidkkmlilaa
open Go.RowKit Go.Coh

theorem RcOk.found {s : RC} (h : RcOk s) (i : Nat) : RcOk (s.found i) :=
  ⟨h.sz, h.wz, by show 0 ≤ s.clock + 1; have := h.clock; omega, h.fills, h.psel, upd_bd h.rr (by omega), h.ll⟩

theorem RcOk.roomS {s : RC} (h : RcOk s) (x : Int) : RcOk (s.roomS x) := by
  unfold RC.roomS
  split
  · exact h
  · unfold RC.lifted
    split
    · exact h
    · refine ⟨h.sz, h.wz, h.clock, h.fills, h.psel, fun i => ?_, h.ll⟩
      show 0 ≤ liftFrom _ _ _ s.R i ∧ liftFrom _ _ _ s.R i ≤ 3
      unfold liftFrom
      have h1 := h.rr i
      have h2 := h.rr (s.ranked (s.lo x))
      by_cases e : s.lo x ≤ i ∧ i < s.lo x + s.W
      · rw [if_pos e]
        have h3 : s.R i ≤ s.R (s.ranked (s.lo x)) := argm_max s.R (s.lo x) s.W i e.1 e.2
        omega
      · rw [if_neg e]; exact h1

theorem RcOk.put {s : RC} (h : RcOk s) (k : Nat) {x : Int} (hx : 0 ≤ x) : RcOk (s.put k x) := by
  have hl : ∀ i, -1 ≤ upd s.L k x i := fun i => by
    unfold upd; split
    · omega
    · exact h.ll i
  have hc := h.clock
  have hf := h.fills
  unfold RC.put
  split
  · exact ⟨h.sz, h.wz, by show 0 ≤ s.clock + 1; omega, by show 0 ≤ s.fills + 1; omega, h.psel, upd_bd h.rr (by split <;> omega), hl⟩
  · exact ⟨h.sz, h.wz, by show 0 ≤ s.clock + 1; omega, h.fills, h.psel, upd_bd h.rr (by omega), hl⟩

theorem RcOk.step {s : RC} (h : RcOk s) {x : Int} (hx : 0 ≤ x) : RcOk (s.tchS x) := by
  unfold RC.tchS
  split
  · exact h.found _
  · exact (h.roomS x).put _ hx

theorem put_cf (s : RC) (k : Nat) (x : Int) : (s.put k x).clock = s.clock + 1 ∧ (s.put k x).fills ≤ s.fills + 1 := by
  unfold RC.put
  split
  · exact ⟨rfl, Int.le_refl _⟩
  · exact ⟨rfl, by show s.fills ≤ s.fills + 1; omega⟩
theorem roomS_cf (s : RC) (x : Int) : (s.roomS x).clock = s.clock ∧ (s.roomS x).fills = s.fills ∧ (s.roomS x).n = s.n ∧ (s.roomS x).S = s.S ∧ (s.roomS x).W = s.W := by
  unfold RC.roomS
  split
  · exact ⟨rfl, rfl, rfl, rfl, rfl⟩
  · unfold RC.lifted
    split
    · exact ⟨rfl, rfl, rfl, rfl, rfl⟩
    · exact ⟨rfl, rfl, rfl, rfl, rfl⟩
theorem step_cf (s : RC) (x : Int) : (s.tchS x).clock = s.clock + 1 ∧ (s.tchS x).fills ≤ s.fills + 1 := by
  unfold RC.tchS
  split
  · exact ⟨rfl, by show s.fills ≤ s.fills + 1; omega⟩
  · have h1 := put_cf (s.roomS x) (s.roomW x) x
    have h2 := roomS_cf s x
    omega

theorem rcRun_ok {p n : Nat} {xs : Nat → Int} (hn : Size n) (hx : ∀ i, 0 ≤ xs i) : ∀ k, RcOk (rcRun p n xs k) ∧ (rcRun p n xs k).clock = k ∧ (rcRun p n xs k).fills ≤ k
  | 0 => ⟨⟨.inl rfl, hn, by show (0 : Int) ≤ 0; omega, by show (0 : Int) ≤ 0; omega, by show (0 : Int) ≤ 7 ∧ (7 : Int) ≤ 15; omega, fun _ => by show (0 : Int) ≤ 0 ∧ (0 : Int) ≤ 3; omega, fun _ => by show (-1 : Int) ≤ -1; omega⟩, rfl, by show (0 : Int) ≤ 0; omega⟩
  | k + 1 => by
    obtain ⟨h1, h2, h3⟩ := rcRun_ok hn hx k
    have h4 := step_cf (rcRun p n xs k) (xs k)
    refine ⟨h1.step (hx k), ?_, ?_⟩
    · show ((rcRun p n xs k).tchS (xs k)).clock = _
      rw [h4.1, h2]; omega
    · show ((rcRun p n xs k).tchS (xs k)).fills ≤ _
      omega

/-- the cells of the first k touches -/
def tcs (T : Nat → Tch) : Nat → List Value
  | 0 => []
  | k + 1 => tcs T k ++ [.bool (T k).hit, .int .i64 (T k).way, .int .i64 (T k).out]

theorem tcs_len (T : Nat → Tch) : ∀ k, (tcs T k).length = k * 3
  | 0 => rfl
  | k + 1 => by simp [tcs, tcs_len T k]; omega

set_option maxHeartbeats 1000000 in
theorem refPower_yes (n : Nat) (w : World) (hn : Size n) : Calls Try.prog 42 #[.int .i64 n] w fun e w' => e = .returned (.bool true) ∧ w' = w := by
  rcases hn with rfl | rfl | rfl | rfl
  all_goals
    go_enter Try.func42, Try.ntmps42
    go_wp2
    go_ret
    exact ⟨rfl, rfl⟩

theorem find_lt {s : RC} (ok : RcOk s) {x : Int} {j : Nat} (h : s.find x = some j) : s.lo x + j < s.n := by
  have := (findN_some.1 h).1
  have := ok.lo x
  omega
theorem roomW_lt {s : RC} (ok : RcOk s) (x : Int) : s.roomW x < s.n := by
  have hlo := ok.lo x
  unfold RC.roomW
  split
  · rename_i j hj
    have := (findN_some.1 hj).1
    omega
  · have := victim_in ok (s.as x) (s.lo x)
    omega

theorem own_keep {S : Nat → Nat → Prop} {w w' : World} {base e size n : Nat} {v : Value} {xs : List Value} (h : w.ownsRow base e size v n xs) (u : Upd S w w') (hS : ∀ g o, base ≤ g → ¬ S g o) : w'.ownsRow base e size v n xs := by
  refine ⟨h.1, ?_⟩
  rcases h.2 with h2 | ⟨g, cap, cur, hv, hg, hh, r⟩
  · exact .inl h2
  · refine .inr ⟨g, cap, cur, hv, hg, ?_, r⟩
    rw [u.block (Array.getElem?_eq_some_iff.1 hh).1 (fun o => hS g o hg)]
    exact hh

theorem own_mono {w : World} {base base' e size n : Nat} {v : Value} {xs : List Value} (h : w.ownsRow base e size v n xs) (hb : base' ≤ base) : w.ownsRow base' e size v n xs := by
  refine ⟨h.1, ?_⟩
  rcases h.2 with h2 | ⟨g, cap, cur, hv, hg, r⟩
  · exact .inl h2
  · exact .inr ⟨g, cap, cur, hv, Nat.le_trans hb hg, r⟩

theorem RefAt.of_block {w w' : World} {b g cap : Nat} {s : RC} (h : RefAt w b g cap s) (hb : w'.heap[b]? = w.heap[b]?) (hg : w'.heap[g]? = w.heap[g]?) : RefAt w' b g cap s := by
  have kb : ∀ o, w'.cell? ⟨b, o, none⟩ = w.cell? ⟨b, o, none⟩ := fun o => World.cell?_of_block (w := w) (a := ⟨b, o, none⟩) hb
  have kg : ∀ o, w'.cell? ⟨g, o, none⟩ = w.cell? ⟨g, o, none⟩ := fun o => World.cell?_of_block (w := w) (a := ⟨g, o, none⟩) hg
  exact ⟨h.ne, by rw [kb]; exact h.c0, by rw [kb]; exact h.c1, by rw [kb]; exact h.c2, by rw [kb]; exact h.c3, by rw [kb]; exact h.c4, by rw [kb]; exact h.c5, by rw [kb]; exact h.c6,
    fun o => (World.frozen?_of_block (w := w) (a := ⟨b, o, none⟩) hb).trans (h.bf o), fun o => (World.frozen?_of_block (w := w) (a := ⟨g, o, none⟩) hg).trans (h.gf o), fun i hi => by rw [kg]; exact h.ln i hi, fun i hi => by rw [kg]; exact h.st i hi, fun i hi => by rw [kg]; exact h.rk i hi⟩

theorem RefAt.grown {w w'' : World} {o : Obj} {row : Option Nat} {b g cap : Nat} {s : RC} (h : RefAt w b g cap s) (hg : (w.alloc o).grownBy w'' row) (hb1 : b < w.heap.size) (hg1 : g < w.heap.size) (hr : ∀ r, row = some r → r ≠ b ∧ r ≠ g) : RefAt w'' b g cap s := by
  refine h.of_block ?_ ?_
  · rw [hg.block b (by simp; omega) (fun e => (hr b e.symm).1 rfl), Below.heap_alloc _ _ _ hb1]
  · rw [hg.block g (by simp; omega) (fun e => (hr g e.symm).2 rfl), Below.heap_alloc _ _ _ hg1]

theorem one3 (a : Bool) (b c : Int) : ∀ u ∈ [Value.bool a, .int .i64 b, .int .i64 c], u.oneCell' = true := by
  intro u hu
  simp at hu
  rcases hu with rfl | rfl | rfl <;> rfl

set_option maxRecDepth 100000 in
set_option maxHeartbeats 2000000 in
theorem refTouches_some (p n m : Nat) (a off cap : Nat) (xs : Nat → Int) (w : World) (hp : p ≤ 3) (hn : Size n) (hm : m ≤ 200) (hx0 : ∀ i, 0 ≤ xs i) (hx9 : ∀ i, xs i ≤ 9223372036854775807) (ha : a < w.heap.size) (hx : ∀ i, i < m → w.cell? ⟨a, off + i, none⟩ = some (.int .i64 (xs i))) :
    Calls Try.prog 17 #[.int .i64 p, .int .i64 n, .slice (some ⟨a, off, none⟩) m cap] w fun e w' =>
      (∃ v, e = .returned (.tuple #[v, .int .i64 0]) ∧ w'.ownsRow w.heap.size 41 3 v m (tcs (tchRunT p n xs) m)) ∧ Upd no w w' := by
  have HN : Hid (Size n) := hn
  have HX : Hid (∀ i, i < m → w.cell? ⟨a, off + i, none⟩ = some (.int .i64 (xs i))) := hx
  have H0 : Hid (∀ i, 0 ≤ xs i) := hx0
  have H9 : Hid (∀ i, xs i ≤ 9223372036854775807) := hx9
  obtain ⟨i0, hi, hz0, hz1, hz2⟩ := info_parts info41
  clear hn hx hx0 hx9
  go_enter Try.func17, Try.ntmps17
  go_wp2_with fail
  refine (refPower_yes n _ HN.out).mono ?_
  rintro e w1 ⟨rfl, rfl⟩
  go_wp2_with fail
  go_loop [9] (fun i => ∃ k : Nat, k ≤ m ∧ i = .int .i64 k) (fun i => m - (intOf i).toNat)
  case atStart => exact ⟨0, Nat.zero_le _, rfl⟩
  case round =>
    obtain ⟨k, hk, rfl⟩ := hrel
    by_cases hlt : k < m
    · have hx := HX.out k hlt
      have h0 := H0.out k
      go_wp2
      go_round
      case rel => exact ⟨k + 1, by omega, by go_num⟩
      case measure => simp [intOf]; omega
    · clear hk
      go_wp2_with fail
      refine (refEmpty_any 1 n p _ _ rfl (.inl rfl) HN.out).mono ?_
      rintro e w2 ⟨⟨b, g, capr, rfl, hb1, hg1, hb2, hg2, hR⟩, hu2⟩
      have HR0 : Hid (RefAt w2 b g capr (rcRun p n xs 0)) := hR
      have HU2 : Hid (Upd no w1 w2) := hu2
      have HX2 : Hid (∀ i, i < m → w2.cell? ⟨a, off + i, none⟩ = some (.int .i64 (xs i))) := fun i hi => by rw [hu2.cell ha (fun h => h)]; exact HX.out i hi
      have hz12 := hu2.size
      clear hR hu2 HX
      go_wp2_with fail
      go_loopw [11, 12] (fun l i wr => ∃ k : Nat, k ≤ m ∧ i = .int .i64 k ∧ RefAt wr b g capr (rcRun p n xs k) ∧ wr.ownsRow w2.heap.size 41 3 l k (tcs (tchRunT p n xs) k) ∧ Upd (refS b g) w2 wr) (fun _ i _ => m - (intOf i).toNat)
      case atStart => exact ⟨0, Nat.zero_le _, rfl, HR0.out, World.ownsRow_nil _ _ _ _, Upd.refl _ _⟩
      case round =>
        obtain ⟨k, hk, rfl, hRk, hown, hu⟩ := hrel
        have HRk : Hid (RefAt wr b g capr (rcRun p n xs k)) := hRk
        have HO : Hid (wr.ownsRow w2.heap.size 41 3 u11 k (tcs (tchRunT p n xs) k)) := hown
        have HU : Hid (Upd (refS b g) w2 wr) := hu
        have hzr := hu.size
        clear hRk hown hu HR0
        by_cases hlt : k < m
        · have hxk := HX2.out k hlt
          rw [← HU.out.cell (by omega) (fun h => by rcases h with h | h <;> omega)] at hxk
          have h0 := H0.out k
          have h9 := H9.out k
          obtain ⟨okk, hck, hfk⟩ := rcRun_ok (p := p) HN.out H0.out k
          have HT : Hid ((rcRun p n xs k).tchT (xs k) = tchRunT p n xs k) := rcT_eq hp HN.out xs k
          have HS : Hid (rcRun p n xs (k + 1) = (rcRun p n xs k).tchS (xs k)) := rfl
          have HTC : Hid (tcs (tchRunT p n xs) (k + 1) = tcs (tchRunT p n xs) k ++ [.bool (tchRunT p n xs k).hit, .int .i64 (tchRunT p n xs k).way, .int .i64 (tchRunT p n xs k).out]) := rfl
          have HOK : Hid (RcOk (rcRun p n xs k)) := okk
          have hcb : (rcRun p n xs k).clock ≤ 4611686018427387904 := by omega
          have hfb : (rcRun p n xs k).fills ≤ 4611686018427387904 := by omega
          clear okk hck hfk
          generalize rcRun p n xs k = s at *
          go_wp2_with fail
          refine (refFind_any b g capr (xs k) s _ HOK.out h0 h9 HRk.out).mono ?_
          rintro e w3 ⟨rfl, q, rfl⟩
          cases hf : s.find (xs k) with
          | some j =>
            have hlt2 := find_lt HOK.out hf
            have ET : Hid (tchRunT p n xs k = ⟨true, s.lo (xs k) + j, -1⟩) := by show _ = _; rw [← HT.out]; unfold RC.tchT; rw [hf]
            have ES : Hid (rcRun p n xs (k + 1) = s.found (s.lo (xs k) + j)) := by show _ = _; rw [HS.out]; unfold RC.tchS; rw [hf]
            simp only [ofs]
            clear hf HT HS
            generalize s.lo (xs k) + j = kk at *
            go_wp2_with fail
            refine (refFound_any b g capr kk s _ HOK.out.clock hcb hlt2 (HRk.out.drewN q)).mono ?_
            rintro e w4 ⟨rfl, hs4, hu4⟩
            have HS4 : Hid (RefAt w4 b g capr (s.found kk)) := hs4
            have hu4' : Upd (refS b g) wr w4 := ⟨hu4.os, hu4.tape, hu4.output, hu4.size, hu4.cells, hu4.rest⟩
            have HU4 : Hid (Upd (refS b g) w2 w4) := HU.out.trans hu4'
            have HO4 : Hid (w4.ownsRow w2.heap.size 41 3 u11 k (tcs (tchRunT p n xs) k)) := own_keep HO.out hu4' (fun gg o hg h => by rcases h with h | h <;> omega)
            have hz4 := hu4'.size
            clear hs4 hu4 hu4'
            go_wp2_with (at_builtin; refine wpList_append_own _ rfl _ _ 28 rfl w2.heap.size 41 i0 (.agg blankT) 3 24 Try.underlying28 hi hz0 hz1 hz2 rfl (by decide) u11 _ _ rfl (HO4.out.alloc _) ⟨w4.heap.size, 0, none⟩ 1 1 [.bool true, .int .i64 (kk : Nat), .int .i64 (-1)] rfl rfl (news_cells w4 [.bool true, .int .i64 (kk : Nat), .int .i64 (-1)] 41) (one3 _ _ _) (by unfold maxLen; omega) (by omega) (by simp; omega) ?_; intro v' w5 hown' hgrow _hnil; clear _hnil)
            go_roundw
            case rel =>
              have hr5 : ∀ r, Value.ownBlock u11 = some r → w2.heap.size ≤ r := fun r hr => (HO4.out.lt r hr).1
              refine ⟨k + 1, by omega, by go_num, ?_, ?_, upd_grown (HU4.out.alloc _) hgrow hr5⟩
              · rw [ES.out]
                exact HS4.out.grown hgrow (by omega) (by omega) (fun r hr => by have := hr5 r hr; omega)
              · rw [HTC.out, ET.out]
                exact hown'
            case measure => simp [intOf]; omega
          | none =>
            have hlt2 := roomW_lt HOK.out (xs k)
            have ET : Hid (tchRunT p n xs k = ⟨false, s.roomW (xs k), s.roomOut (xs k)⟩) := by show _ = _; rw [← HT.out]; unfold RC.tchT; rw [hf]
            have ES : Hid (rcRun p n xs (k + 1) = (s.roomS (xs k)).put (s.roomW (xs k)) (xs k)) := by show _ = _; rw [HS.out]; unfold RC.tchS; rw [hf]
            have hcf := roomS_cf s (xs k)
            have HOK2 : Hid (RcOk (s.roomS (xs k))) := HOK.out.roomS _
            simp only [ofs]
            clear hf HT HS
            go_wp2_with fail
            refine (refRoom_any b g capr (xs k) s _ HOK.out h0 h9 (HRk.out.drewN q)).mono ?_
            rintro e w4 ⟨rfl, hs4, hu4⟩
            have HS4 : Hid (RefAt w4 b g capr (s.roomS (xs k))) := hs4
            have hu4' : Upd (refS b g) wr w4 := ⟨hu4.os, hu4.tape, hu4.output, hu4.size, hu4.cells, hu4.rest⟩
            have hx4 : w4.cell? ⟨a, off + k, none⟩ = some (.int .i64 (xs k)) := by rw [hu4'.cell (by omega) (fun h => by rcases h with h | h <;> omega)]; exact hxk
            have HU4 : Hid (Upd (refS b g) wr w4) := hu4'
            have hz4 := hu4'.size
            clear hs4 hu4 hu4' hxk
            generalize s.roomW (xs k) = kk at *
            generalize s.roomOut (xs k) = oo at *
            generalize hs2 : s.roomS (xs k) = s2 at *
            clear hs2
            go_wp2_with fail
            refine (refPut_any b g capr kk (xs k) s2 _ HOK2.out (by omega) (by omega) (by omega) h0 h9 HS4.out).mono ?_
            rintro e w5 ⟨rfl, hs5, hu5⟩
            have HS5 : Hid (RefAt w5 b g capr (s2.put kk (xs k))) := hs5
            have HU5 : Hid (Upd (refS b g) w2 w5) := (HU.out.trans HU4.out).trans hu5
            have HO5 : Hid (w5.ownsRow w2.heap.size 41 3 u11 k (tcs (tchRunT p n xs) k)) := own_keep HO.out (HU4.out.trans hu5) (fun gg o hg h => by rcases h with h | h <;> omega)
            have hz5 := hu5.size
            clear hs5 hu5 hx4
            go_wp2_with (at_builtin; refine wpList_append_own _ rfl _ _ 28 rfl w2.heap.size 41 i0 (.agg blankT) 3 24 Try.underlying28 hi hz0 hz1 hz2 rfl (by decide) u11 _ _ rfl (HO5.out.alloc _) ⟨w5.heap.size, 0, none⟩ 1 1 [.bool false, .int .i64 (kk : Nat), .int .i64 oo] rfl rfl (news_cells w5 [.bool false, .int .i64 (kk : Nat), .int .i64 oo] 41) (one3 _ _ _) (by unfold maxLen; omega) (by omega) (by simp; omega) ?_; intro v' w6 hown' hgrow _hnil; clear _hnil)
            go_roundw
            case rel =>
              have hr5 : ∀ r, Value.ownBlock u11 = some r → w2.heap.size ≤ r := fun r hr => (HO5.out.lt r hr).1
              refine ⟨k + 1, by omega, by go_num, ?_, ?_, upd_grown (HU5.out.alloc _) hgrow hr5⟩
              · rw [ES.out]
                exact HS5.out.grown hgrow (by omega) (by omega) (fun r hr => by have := hr5 r hr; omega)
              · rw [HTC.out, ET.out]
                exact hown'
            case measure => simp [intOf]; omega
        · go_wp2
          go_ret2
          have hkm : k = m := by omega
          subst hkm
          refine ⟨⟨_, rfl, ?_⟩, ?_⟩
          · exact own_mono HO.out (by omega)
          · exact ((HU2.out.mono (S' := fun b _ => w1.heap.size ≤ b) (fun _ _ h => h.elim)).trans (HU.out.mono (fun bb _ h => by rcases h with h | h <;> omega))).shrink (fun bb _ hb h => by omega)

end Go.Proofs.Ytobniidkkmlilaa
