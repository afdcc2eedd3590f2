/- Followed: the walk. -/
import Derived.Test.YtobniidkkmlilaaKd
import Derived.Test.YtobniidkkmlilaaRaw
import Derived.Deep.RegionWith
namespace Go.Proofs.Ytobniidkkmlilaa
open Go.RowKit Go.Coh

theorem tch_cells {w : World} {g k : Nat} {T : Nat → Tch} (h : TchAt w g k T) {i : Nat} (hi : i < k) :
    w.cell? ⟨g, i * 3, none⟩ = some (.bool (T i).hit) ∧ w.cell? ⟨g, i * 3 + 1, none⟩ = some (.int .i64 (T i).way) ∧ w.cell? ⟨g, i * 3 + 2, none⟩ = some (.int .i64 (T i).out) :=
  ⟨h i hi 0 _ rfl, h i hi 1 _ rfl, h i hi 2 _ rfl⟩

theorem follows_t (b g cap n p : Nat) (x : Int) (s : St) (t : Tch) (w : World) (ht : t = tchT p n x s) (hn : Size n) (hL : ∀ j, j < n → -1 ≤ s.L j) (hx : 0 ≤ x)
    (hs : w.cell? ⟨b, 0, none⟩ = some (.slice (some ⟨g, 0, none⟩) n cap)) (H : HoldsF w g 0 n s.L) :
    Calls Try.prog 26 #[.pointer (some ⟨b, 0, none⟩), .agg #[.bool t.hit, .int .i64 t.way, .int .i64 t.out], .int .i64 x] w fun e w' => e = .returned (.bool true) ∧
      HoldsF w' g 0 n (tchS p n x s).L ∧ Upd (rowS g 0 n) w w' := by
  subst ht
  exact follows_any b g cap n p x s w hn hL hx hs H

theorem own_slice {w : World} {base e size n : Nat} {v : Value} {xs : List Value} (h : w.ownsRow base e size v n xs) : ∃ o cap, v = .slice o n cap := by
  rcases h.2 with ⟨rfl, rfl⟩ | ⟨g, cap, cur, rfl, _⟩
  · exact ⟨none, 0, rfl⟩
  · exact ⟨_, cap, rfl⟩

theorem own_holds {w : World} {base n : Nat} {v : Value} {f : Nat → Int} (h : w.ownsRow base 3 1 v n (iv f n)) (hn : 0 < n) : ∃ g cap, v = .slice (some ⟨g, 0, none⟩) n cap ∧ base ≤ g ∧ g < w.heap.size ∧ HoldsF w g 0 n f := by
  rcases h.2 with ⟨rfl, rfl⟩ | ⟨g, cap, cur, rfl, hb, hg, _, _, _, ht⟩
  · omega
  · refine ⟨g, cap, rfl, hb, (Array.getElem?_eq_some_iff.1 hg).1, fun i hi => ⟨?_, by simp [World.frozen?, hg]⟩⟩
    rw [Nat.zero_add, cell_of_row w g i cur 3 (0, 0) hg]
    have := iv_get f n i hi
    rw [← ht, List.getElem?_take, if_pos (by omega)] at this
    simpa using this

theorem ints_form {w : World} {l : Value} {k : Nat} {xs : Nat → Int} (h : IntsAt w l k xs) :
    ∃ o cap, l = .slice o k cap ∧ (0 < k → ∃ a off, o = some ⟨a, off, none⟩ ∧ a < w.heap.size ∧ ∀ i, i < k → w.cell? ⟨a, off + i, none⟩ = some (.int .i64 (xs i))) := by
  rcases h with ⟨rfl, rfl⟩ | ⟨a, off, cap, rfl, ha, hx⟩
  · exact ⟨none, 0, rfl, fun h => by omega⟩
  · exact ⟨_, cap, rfl, fun _ => ⟨a, off, rfl, ha, hx⟩⟩

set_option maxRecDepth 100000 in
set_option maxHeartbeats 1000000 in
theorem followed_any (c0 c1 : Int) (v : Value) (m : Nat) (zs : Nat → Int) (w : World) (h1 : -9223372036854775808 ≤ c1) (h2 : c1 ≤ 9223372036854775807)
    (h3 : -9223372036854775808 ≤ c0) (h4 : c0 ≤ 9223372036854775807) (hv : RawAt w v m zs) :
    Calls Try.prog 5 #[.int .i64 c0, .int .i64 c1, v] w fun e w' => e = .returned (.bool true) ∧ Upd no w w' := by
  have HV : Hid (RawAt w v m zs) := hv
  have HN : Hid (Size (powerN c1)) := powerN_size c1
  have hn8 : 0 < powerN c1 ∧ powerN c1 ≤ 8 := by rcases HN.out with h | h | h | h <;> omega
  have hp4 := pickN_lt c0 4 (by omega)
  clear hv
  obtain ⟨i0, hi, hz0, hz1, hz2⟩ := info_parts info3
  go_enter Try.func5, Try.ntmps5
  go_wp2_with fail
  refine (power_any c1 _ h1 h2).mono ?_
  rintro e w1 ⟨rfl, rfl⟩
  generalize powerN c1 = n at *
  go_wp2_with fail
  refine (some_any m 20 v _ zs _ rfl (by omega) (by omega) HV.out).mono ?_
  rintro e w2 ⟨⟨l, rfl, hown⟩, hu⟩
  have hk := someN_le m
  generalize someN m = k at *
  have hxp : ∀ i, 0 ≤ ((fun i => ((pickN (zs i) 20 : Nat) : Int)) i) := fun i => Int.natCast_nonneg _
  generalize (fun i => ((pickN (zs i) 20 : Nat) : Int)) = xs at *
  obtain ⟨hints, hbase⟩ := ints_of_own hown
  have HI : Hid (IntsAt w2 l k xs) := hints
  have HU : Hid (Upd no w1 w2) := hu
  have HXP : Hid (∀ i, 0 ≤ xs i) := hxp
  clear hints hbase hu hxp hown
  go_wp2_with fail
  refine (pick_int c0 4 _ _ rfl (by omega) (by omega) h3 h4).mono ?_
  rintro e w2' ⟨rfl, rfl⟩
  generalize pickN c0 4 = p at *
  go_wp2_with fail
  refine (Touches_ok p n k l xs _ (by omega) HN.out hk HI.out (fun i _ => HXP.out i)).mono ?_
  rintro e w3 ⟨⟨g, rfl, hg1, hg2, hT⟩, hu3⟩
  have HT : Hid (TchAt w3 g k (tchRunT p n xs)) := hT
  have HU3 : Hid (Upd no w1 w3) := HU.out.trans hu3
  have HI3 : Hid (IntsAt w3 l k xs) := by
    rcases HI.out with h | ⟨a, off, cap, e1, e2, e3⟩
    · exact .inl h
    · exact .inr ⟨a, off, cap, e1, Nat.lt_of_lt_of_le e2 hu3.size, fun i hi => by rw [hu3.cell e2 (fun h => h)]; exact e3 i hi⟩
  clear hT hu3 HI HU
  obtain ⟨o, cap, rfl, hx⟩ := ints_form HI3.out
  have HX : Hid (0 < k → ∃ a off, o = some ⟨a, off, none⟩ ∧ a < w3.heap.size ∧ ∀ i, i < k → w3.cell? ⟨a, off + i, none⟩ = some (.int .i64 (xs i))) := hx
  clear hx HI3 hg1
  go_wp2_with fail
  go_loopw [12] (fun i wr => ∃ (j : Nat) (s : Value), j ≤ n ∧ i = .int .i64 j ∧ wr.cell? ⟨w3.heap.size, 0, none⟩ = some s ∧ wr.frozen? ⟨w3.heap.size, 0, none⟩ = false ∧ wr.ownsRow (w3.heap.size + 1) 3 1 s j (iv (fun _ => -1) j) ∧ Upd no w3 wr ∧ w3.heap.size + 1 ≤ wr.heap.size) (fun i _ => n - (intOf i).toNat)
  case atStart => exact ⟨0, .slice none 0 0, Nat.zero_le _, rfl, by simp, by simp, World.ownsRow_nil _ _ _ _, (Upd.refl _ _).alloc _, by simp⟩
  case round =>
    obtain ⟨j, s, hj, rfl, hc, hf, hown, hu, hz⟩ := hrel
    have HO : Hid (wr.ownsRow (w3.heap.size + 1) 3 1 s j (iv (fun _ => -1) j)) := hown
    have HUr : Hid (Upd no w3 wr) := hu
    clear hown hu
    by_cases hlt : j < n
    · have key : ∀ w5, (wr.alloc (Obj.cells #[Value.int IntKind.i64 (-1)] 3)).grownBy w5 s.ownBlock → w5.heap[w3.heap.size]? = wr.heap[w3.heap.size]? := fun w5 hg => by
        rw [hg.block w3.heap.size (by simp; omega) (fun e => by have := (HO.out.lt _ e.symm).1; omega), Below.heap_alloc _ _ _ (by omega)]
      have KEY := (show Hid _ from key)
      clear key
      go_wp2_with (at_builtin; refine wpList_append_own _ rfl _ _ 24 rfl (w3.heap.size + 1) 3 i0 (.int .i64 0) 1 8 Try.underlying24 hi hz0 hz1 hz2 rfl (by decide) s _ _ rfl (HO.out.alloc _) ⟨wr.heap.size, 0, none⟩ 1 1 [.int .i64 (-1)] rfl rfl (cell_one_new _ _ _) (ints_oneCell .i64 [-1]) (by unfold maxLen; omega) (by omega) (by simp; omega) ?_; intro v' w5 hown' hgrow _hnil; clear _hnil; obtain ⟨o', cap', rfl⟩ := own_slice hown'; have hcb : w5.cell? ⟨w3.heap.size, 0, none⟩ = some s := (World.cell?_of_block (w := wr) (a := ⟨w3.heap.size, 0, none⟩) (KEY.out w5 hgrow)).trans hc; have hfb : w5.frozen? ⟨w3.heap.size, 0, none⟩ = false := (World.frozen?_of_block (w := wr) (a := ⟨w3.heap.size, 0, none⟩) (KEY.out w5 hgrow)).trans hf)
      go_roundw
      case rel =>
        have hs5 := hgrow.size
        simp at hs5
        refine ⟨j + 1, .slice o' (j + 1) cap', by omega, by go_num, World.cell?_setCell_same _ _ _ hcb, by rw [World.frozen?_setCell]; exact hfb, ?_, ?_, by simp; omega⟩
        · have := hown'
          rw [iv_succ (fun _ => -1) j] at this
          exact ownsRow_setCell_below this (by simp) _
        · exact (upd_grown (HUr.out.alloc _) hgrow (fun b hb => by have := (HO.out.lt _ hb).1; omega)).setCell (fun h => absurd h (by simp)) _
      case measure => simp [intOf]; omega
    · have hjn : j = n := by omega
      subst hjn
      obtain ⟨g2, cap2, rfl, hg2', hz2', HF⟩ := own_holds HO.out (by omega)
      have HFF : Hid (HoldsF wr g2 0 j (newL j)) := HF.congr (fun i hi => by unfold newL; rw [if_pos hi])
      clear HF HO
      obtain ⟨wq, hwq⟩ : ∃ wq, wq = wr := ⟨_, rfl⟩
      subst hwq
      go_wp2_with fail
      go_loopw [13] (fun i ws => ∃ q : Nat, q ≤ k ∧ i = .int .i64 q ∧ HoldsF ws g2 0 j (tchRun p j xs q).L ∧ Upd (rowS g2 0 j) wq ws) (fun i _ => k - (intOf i).toNat)
      case atStart => exact ⟨0, Nat.zero_le _, rfl, HFF.out, Upd.refl _ _⟩
      case round =>
        obtain ⟨q, hq, rfl, hH, hUs⟩ := hrel
        have HHs : Hid (HoldsF wr g2 0 j (tchRun p j xs q).L) := hH
        have HUs : Hid (Upd (rowS g2 0 j) wq wr) := hUs
        clear hH hUs
        by_cases hqk : q < k
        · obtain ⟨a, off, rfl, ha, hx⟩ := HX.out (by omega)
          have keep : ∀ b o', b < w3.heap.size → wr.cell? ⟨b, o', none⟩ = w3.cell? ⟨b, o', none⟩ := fun b o' hb => by
            rw [HUs.out.cell (by omega) (fun h => by have := h.1; omega), HUr.out.cell hb (fun h => h)]
          have hxq := hx q hqk
          rw [← keep a (off + q) ha] at hxq
          obtain ⟨t0, t1, t2⟩ := tch_cells HT.out hqk
          rw [← keep g _ hg2] at t0 t1 t2
          have hcs : wr.cell? ⟨w3.heap.size, 0, none⟩ = some (Value.slice (some { block := g2, off := 0 }) j cap2) := by
            rw [HUs.out.cell (by omega) (fun h => by have := h.1; omega)]; exact hc
          have HTE : Hid (tchRunT p j xs q = tchT p j (xs q) (tchRun p j xs q)) := rfl
          generalize tchRunT p j xs q = t at *
          clear keep hx
          go_wp2
          go_region_with (go_at_call 26; refine (follows_t w3.heap.size g2 cap2 j p (xs q) (tchRun p j xs q) t _ HTE.out HN.out (fun i _ => low_run HXP.out q i) (HXP.out q) (by exact hcs) (by exact HHs.out)).mono ?_; rintro e w6 ⟨rfl, hH6, hU6⟩)
          all_goals
            have hU7 : Upd (rowS g2 0 j) wr w6 := ⟨hU6.os, hU6.tape, hU6.output, hU6.size, hU6.cells, hU6.rest⟩
            have HH6 : Hid (HoldsF w6 g2 0 j (tchS p j (xs q) (tchRun p j xs q)).L) := hH6
            have HU7 : Hid (Upd (rowS g2 0 j) wq w6) := HUs.out.trans hU7
            clear hH6 hU6 hU7
            go_wp2
            go_roundw
            case rel => exact ⟨q + 1, by omega, by go_num, HH6.out, HU7.out⟩
            case measure => simp [intOf]; omega
        · go_wp2
          go_ret
          refine ⟨rfl, ?_⟩
          have hz0' := HU3.out.size
          have hz1' := HUr.out.size
          exact (((HU3.out.trans HUr.out).mono (S' := fun b _ => w1.heap.size ≤ b) (fun _ _ h => h.elim)).trans (HUs.out.mono (fun b _ h => by have := h.1; omega))).shrink (fun b _ hb h => by omega)

theorem followed_hole (a0 a1 : Int) (a2 : Option Addr) (len2 cap2 : Nat) (z2 : List Int) (w : World) (w0 : (Lit.int .i64 a0).wf = true) (w1 : (Lit.int .i64 a1).wf = true)
    (w2 : (a2 = none ∧ len2 = 0 ∧ cap2 = 0 ∧ z2 = []) ∨ ∃ x, a2 = some x ∧ len2 ≤ cap2 ∧ cap2 ≤ maxLen ∧ z2.length = cap2 ∧ (∀ i, i < z2.length → w.cell? (x.add i) = some (.int .i64 (z2.getD i 0))) ∧ ∀ n ∈ z2, (Lit.int .i64 n).wf = true) :
    Calls Try.prog 5 #[.int .i64 a0, .int .i64 a1, .slice a2 len2 cap2] w fun e w' => e = .returned (.bool true) ∧ Below w.heap.size w w' := by
  obtain ⟨h1, h2⟩ := bounds_i64 w0
  obtain ⟨h3, h4⟩ := bounds_i64 w1
  refine (followed_any a0 a1 _ len2 _ w h3 h4 h1 h2 (raw_of_row w2)).mono ?_
  rintro e w' ⟨he, hu⟩
  exact ⟨he, upd_below hu⟩

end Go.Proofs.Ytobniidkkmlilaa
