/- The walks over package coherentref: a new cache. -/
import Derived.Test.YtobniidkkmlilaaRe
import Derived.Test.YtobniidkkmlilaaKb
namespace Go.Proofs.Ytobniidkkmlilaa
open Go.RowKit Go.Coh

theorem info73 : (Try.prog.info? 132).map (fun i => (i.zero, i.size, i.bytes)) = some (some (.agg #[.int .i64 0, .int .i64 0, .int .i64 0]), 3, 24) := by kernel_rfl

def wc : Nat → List Value
  | 0 => []
  | k + 1 => wc k ++ [.int .i64 (-1), .int .i64 0, .int .i64 0]

theorem wc_len : ∀ k, (wc k).length = k * 3
  | 0 => rfl
  | k + 1 => by simp [wc, wc_len k]; omega

theorem wc_get : ∀ k i, i < k → (wc k)[i * 3]? = some (.int .i64 (-1)) ∧ (wc k)[i * 3 + 1]? = some (.int .i64 0) ∧ (wc k)[i * 3 + 2]? = some (.int .i64 0)
  | 0, i, h => by omega
  | k + 1, i, h => by
    have hl := wc_len k
    unfold wc
    by_cases e : i = k
    · subst e
      rw [List.getElem?_append_right (by omega), List.getElem?_append_right (by omega), List.getElem?_append_right (by omega), hl]
      refine ⟨?_, ?_, ?_⟩
      · rw [show i * 3 - i * 3 = 0 by omega]; rfl
      · rw [show i * 3 + 1 - i * 3 = 1 by omega]; rfl
      · rw [show i * 3 + 2 - i * 3 = 2 by omega]; rfl
    · rw [List.getElem?_append_left (by omega), List.getElem?_append_left (by omega), List.getElem?_append_left (by omega)]
      exact wc_get k i (by omega)

theorem news_cells (w : World) (vs : List Value) (t : TypeId) : ∀ j u, vs[j]? = some u → (w.alloc (.cells vs.toArray t)).cell? ((⟨w.heap.size, 0, none⟩ : Addr).add j) = some u := by
  intro j u hu
  rw [Addr.add_mid, Nat.zero_add, World.cell?_alloc_new]
  simpa using hu

theorem own_ways {w : World} {base n : Nat} {v : Value} (h : w.ownsRow base 132 3 v n (wc n)) (hn : 0 < n) : ∃ g cap, v = .slice (some ⟨g, 0, none⟩) n cap ∧ base ≤ g ∧ g < w.heap.size ∧ (∀ o, w.frozen? ⟨g, o, none⟩ = false) ∧
    ∀ i, i < n → w.cell? ⟨g, i * 3, none⟩ = some (.int .i64 (-1)) ∧ w.cell? ⟨g, i * 3 + 1, none⟩ = some (.int .i64 0) ∧ w.cell? ⟨g, i * 3 + 2, none⟩ = some (.int .i64 0) := by
  rcases h.2 with ⟨rfl, rfl⟩ | ⟨g, cap, cur, rfl, hb, hg, _, _, _, ht⟩
  · omega
  · refine ⟨g, cap, rfl, hb, (Array.getElem?_eq_some_iff.1 hg).1, fun o => by simp [World.frozen?, hg], fun i hi => ?_⟩
    have key : ∀ o u, o < n * 3 → (wc n)[o]? = some u → w.cell? ⟨g, o, none⟩ = some u := fun o u ho hu => by
      rw [cell_of_row w g o cur 132 (0, 0) hg]
      rw [← ht, List.getElem?_take, if_pos ho] at hu
      simpa using hu
    obtain ⟨h1, h2, h3⟩ := wc_get n i hi
    exact ⟨key _ _ (by omega) h1, key _ _ (by omega) h2, key _ _ (by omega) h3⟩

def newRC (S W P : Nat) : RC := ⟨S, W, P, fun _ => -1, fun _ => 0, fun _ => 0, 0, 0, 7⟩

theorem own_slice' {w : World} {base e size n : Nat} {v : Value} {xs : List Value} (h : w.ownsRow base e size v n xs) : ∃ o cap, v = .slice o n cap := by
  rcases h.2 with ⟨rfl, rfl⟩ | ⟨g, cap, cur, rfl, _⟩
  · exact ⟨none, 0, rfl⟩
  · exact ⟨_, cap, rfl⟩

set_option maxRecDepth 100000 in
set_option maxHeartbeats 2000000 in
theorem refEmpty_any (S W P : Nat) (S' : Int) (w : World) (eS : S' = S) (hS : Size S) (hW : Size W) :
    Calls Try.prog 43 #[.int .i64 S', .int .i64 W, .int .i64 P] w fun e w' => (∃ b g cap, e = .returned (.pointer (some ⟨b, 0, none⟩)) ∧ w.heap.size ≤ b ∧ w.heap.size ≤ g ∧ b < w'.heap.size ∧ g < w'.heap.size ∧ RefAt w' b g cap (newRC S W P)) ∧ Upd no w w' := by
  subst eS
  obtain ⟨i0, hi, hz0, hz1, hz2⟩ := info_parts info73
  have hn : ∃ n : Nat, (S : Int) * (W : Int) = n ∧ S * W = n ∧ n ≤ 64 ∧ 0 < n := by
    refine ⟨S * W, by simp, rfl, ?_, ?_⟩
    · rcases hS with rfl | rfl | rfl | rfl <;> rcases hW with rfl | rfl | rfl | rfl <;> decide
    · rcases hS with rfl | rfl | rfl | rfl <;> rcases hW with rfl | rfl | rfl | rfl <;> decide
  obtain ⟨n, hn1, hn2, hn3, hn4⟩ := hn
  have HN1 : Hid ((S : Int) * (W : Int) = n) := hn1
  have HN2 : Hid (S * W = n) := hn2
  have HWR : wrap64 ((S : Int) * (W : Int)) = n := by rw [hn1]; exact wrap64_small n (by omega)
  have hSb : 0 < S ∧ S ≤ 8 := by rcases hS with h | h | h | h <;> omega
  have hWb : 0 < W ∧ W ≤ 8 := by rcases hW with h | h | h | h <;> omega
  clear hn1 hn2 hS hW
  go_enter Try.func43, Try.ntmps43
  go_wp2
  go_loopw [8] (fun i wr => ∃ (j : Nat) (v : Value), j ≤ n ∧ i = .int .i64 j ∧ wr.cell? ⟨w.heap.size, 0, none⟩ = some (.int .i64 S) ∧ wr.cell? ⟨w.heap.size, 1, none⟩ = some (.int .i64 W) ∧ wr.cell? ⟨w.heap.size, 2, none⟩ = some (.int .i64 P) ∧ wr.cell? ⟨w.heap.size, 3, none⟩ = some v ∧
      wr.cell? ⟨w.heap.size, 4, none⟩ = some (.int .i64 0) ∧ wr.cell? ⟨w.heap.size, 5, none⟩ = some (.int .i64 0) ∧ wr.cell? ⟨w.heap.size, 6, none⟩ = some (.int .i64 7) ∧ (∀ o, wr.frozen? ⟨w.heap.size, o, none⟩ = false) ∧
      wr.ownsRow (w.heap.size + 1) 132 3 v j (wc j) ∧ Upd no w wr ∧ w.heap.size + 1 ≤ wr.heap.size) (fun i _ => n - (intOf i).toNat)
  case atStart => exact ⟨0, .slice none 0 0, Nat.zero_le _, rfl, by simp, by simp, by simp, by simp, by simp, by simp, by simp, by simp, World.ownsRow_nil _ _ _ _, (Upd.refl _ _).alloc _, by simp⟩
  case round =>
    obtain ⟨j, v, hj, rfl, c0, c1, c2, c3, c4, c5, c6, hf, hown, hu, hz⟩ := hrel
    have HO : Hid (wr.ownsRow (w.heap.size + 1) 132 3 v j (wc j)) := hown
    have HU : Hid (Upd no w wr) := hu
    have HF : Hid (∀ o, wr.frozen? ⟨w.heap.size, o, none⟩ = false) := hf
    clear hown hu hf
    by_cases hlt : j < n
    · have key : ∀ w5, (wr.alloc (Obj.cells #[Value.int IntKind.i64 (-1), Value.int IntKind.i64 0, Value.int IntKind.i64 0] 132)).grownBy w5 v.ownBlock → w5.heap[w.heap.size]? = wr.heap[w.heap.size]? := fun w5 hg => by
        rw [hg.block w.heap.size (by simp; omega) (fun e => by have := (HO.out.lt _ e.symm).1; omega), Below.heap_alloc _ _ _ (by omega)]
      have KEY := (show Hid _ from key)
      clear key
      go_wp2_with (at_builtin; refine wpList_append_own _ rfl _ _ 128 rfl (w.heap.size + 1) 132 i0 (.agg #[.int .i64 0, .int .i64 0, .int .i64 0]) 3 24 Try.underlying128 hi hz0 hz1 hz2 rfl (by decide) v _ _ rfl (HO.out.alloc _) ⟨wr.heap.size, 0, none⟩ 1 1 [.int .i64 (-1), .int .i64 0, .int .i64 0] rfl rfl (news_cells wr [.int .i64 (-1), .int .i64 0, .int .i64 0] 132) (ints_oneCell .i64 [-1, 0, 0]) (by unfold maxLen; omega) (by omega) (by simp; omega) ?_; intro v' w5 hown' hgrow _hnil; clear _hnil; obtain ⟨o', cap', rfl⟩ := own_slice' hown'; have hcb : w5.cell? ⟨w.heap.size, 3, none⟩ = some v := (World.cell?_of_block (w := wr) (a := ⟨w.heap.size, 3, none⟩) (KEY.out w5 hgrow)).trans c3; have hfb : w5.frozen? ⟨w.heap.size, 3, none⟩ = false := (World.frozen?_of_block (w := wr) (a := ⟨w.heap.size, 3, none⟩) (KEY.out w5 hgrow)).trans (HF.out 3))
      go_roundw
      case rel =>
        have hs5 := hgrow.size
        simp at hs5
        have kc : ∀ o, 3 ≠ o → (w5.setCell ⟨w.heap.size, 3, none⟩ (.slice o' (j + 1) cap')).cell? ⟨w.heap.size, o, none⟩ = wr.cell? ⟨w.heap.size, o, none⟩ := fun o ho => by
          rw [cell_set_ne (.inr ho)]
          exact World.cell?_of_block (w := wr) (a := ⟨w.heap.size, o, none⟩) (KEY.out w5 hgrow)
        refine ⟨j + 1, .slice o' (j + 1) cap', by omega, by go_num, by rw [kc _ (by omega)]; exact c0, by rw [kc _ (by omega)]; exact c1, by rw [kc _ (by omega)]; exact c2, World.cell?_setCell_same _ _ _ hcb, by rw [kc _ (by omega)]; exact c4, by rw [kc _ (by omega)]; exact c5, by rw [kc _ (by omega)]; exact c6, fun o => ?_, ?_, ?_, by simp; omega⟩
        · rw [World.frozen?_setCell]
          exact (World.frozen?_of_block (w := wr) (a := ⟨w.heap.size, o, none⟩) (KEY.out w5 hgrow)).trans (HF.out o)
        · exact ownsRow_setCell_below hown' (by simp) _
        · exact (upd_grown (HU.out.alloc _) hgrow (fun b hb => by have := (HO.out.lt _ hb).1; omega)).setCell (fun h => absurd h (by simp)) _
      case measure => simp [intOf]; omega
    · have hjn : j = n := by omega
      subst hjn
      obtain ⟨g, cap, rfl, hg1, hg2, hgf, hgc⟩ := own_ways HO.out hn4
      have HR : Hid (RefAt wr w.heap.size g cap (newRC S W P)) := by
        have en : (newRC S W P).n = j := HN2.out
        refine ⟨by omega, c0, c1, c2, by rw [en]; exact c3, c4, c5, c6, HF.out, hgf, fun i hi => ?_, fun i hi => ?_, fun i hi => ?_⟩
        · rw [en] at hi; exact (hgc i hi).1
        · rw [en] at hi; exact (hgc i hi).2.1
        · rw [en] at hi; exact (hgc i hi).2.2
      clear hgc hgf
      go_wp2
      go_ret
      exact ⟨⟨w.heap.size, g, cap, rfl, Nat.le_refl _, by omega, by omega, hg2, HR.out⟩, HU.out⟩

end Go.Proofs.Ytobniidkkmlilaa
