/- The walks over package coherentlaw: lent, alike, still. -/
import Derived.Test.YtobniidkkmlilaaTb
import Derived.Laws.CopyOwn
import Derived.Deep.OwnRows
namespace Go.Proofs.Ytobniidkkmlilaa
open Go.RowKit Go.Coh

theorem run_make24 (m : Nat) (hm : m ≤ 2000000) (w : World) :
    (Instr.makeSlice 24 (.int .i64 ((m : Int) + 1)) (.int .i64 ((m : Int) + 1))).run Try.prog w = .ok (.slice (some ⟨w.heap.size, 0, none⟩) (m + 1) (m + 1)) (w.alloc (.cells (madeCells #[.int .i64 0] (m + 1)) 3)) := by
  have := run_make_row' (P := Try.prog) 24 3 (.int .i64 0) 8 Try.underlying24 info3 rfl .i64 .i64 (m + 1) (by omega) (by omega) w
  rw [show ((m + 1 : Nat) : Int) = (m : Int) + 1 by omega] at this
  exact this

def lentX (m : Nat) (xs : Nat → Int) : Nat → Int := fun i => if i < m then xs i else -77

theorem upd_of_below {w w' : World} (h : Below w.heap.size w w') : Upd no w w' := by
  refine ⟨h.os, h.tape, h.output, h.size, fun b c e fr hb => ?_, fun b x hb _ => ?_⟩
  · exact ⟨c, by rw [h.block b (Array.getElem?_eq_some_iff.1 hb).1]; exact hb, rfl, fun _ _ => rfl⟩
  · rw [h.block b (Array.getElem?_eq_some_iff.1 hb).1]; exact hb

theorem holds_set0' {w : World} {g n i : Nat} {f : Nat → Int} (h : HoldsF w g 0 n f) (hi : i < n) (v : Int) : HoldsF (w.setCell ⟨g, i, none⟩ (.int .i64 v)) g 0 n (upd f i v) := by
  have h := h.set hi v
  rwa [Nat.zero_add] at h

theorem lent_cells {w1 : World} {g m : Nat} {xs : Nat → Int} (h : w1.heap[g]? = some (.cells (splice (madeCells #[.int .i64 0] (m + 1)).toList 0 (iv xs m)).toArray 3)) : HoldsF w1 g 0 (m + 1) (fun i => if i < m then xs i else 0) := by
  intro j hj
  have hl : (iv xs m).length = m := by simp [iv]
  refine ⟨?_, by simp [World.frozen?, h]⟩
  rw [Nat.zero_add, cell_of_row w1 g j _ 3 (0, 0) h]
  simp only [splice, List.take_zero, List.nil_append, Nat.zero_add, hl]
  by_cases e : j < m
  · rw [if_pos e, List.getElem?_toArray, List.getElem?_append_left (by omega), iv_get xs m j e]
  · rw [if_neg e, List.getElem?_toArray, List.getElem?_append_right (by omega), hl, List.getElem?_drop]
    have : m + (j - m) = m := by omega
    rw [this]
    simp [madeCells, Nat.mod_one]

theorem lent_last {w1 : World} {g m : Nat} {xs : Nat → Int} (h : w1.heap[g]? = some (.cells (splice (madeCells #[.int .i64 0] (m + 1)).toList 0 (iv xs m)).toArray 3)) : w1.cell? ⟨g, m, none⟩ = some (.int .i64 0) ∧ w1.frozen? ⟨g, m, none⟩ = false := by
  have := lent_cells h m (Nat.lt_succ_self m)
  rw [Nat.zero_add] at this
  simpa using this

set_option maxRecDepth 100000 in
set_option maxHeartbeats 1000000 in
theorem lent_any (m : Nat) (o : Option Addr) (cap : Nat) (xs : Nat → Int) (w : World) (hm : m ≤ 1048576)
    (hv : 0 < m → ∃ a off, o = some ⟨a, off, none⟩ ∧ a < w.heap.size ∧ ∀ i, i < m → w.cell? ⟨a, off + i, none⟩ = some (.int .i64 (xs i))) :
    Calls Try.prog 15 #[.slice o m cap] w fun e w' => (∃ g, e = .returned (.slice (some ⟨g, 0, none⟩) (m + 1) (m + 1)) ∧ w.heap.size ≤ g ∧ g < w'.heap.size ∧ HoldsF w' g 0 (m + 1) (lentX m xs)) ∧ Upd no w w' := by
  have HV : Hid (0 < m → ∃ a off, o = some ⟨a, off, none⟩ ∧ a < w.heap.size ∧ ∀ i, i < m → w.cell? ⟨a, off + i, none⟩ = some (.int .i64 (xs i))) := hv
  have hmk := run_make24 m (by omega)
  have hlen : (iv xs m).length = m := by simp [iv]
  have HL : Hid ((iv xs m).length = m) := hlen
  have hmin : (iv xs m).length = Nat.min m (m + 1) := by rw [hlen]; exact (Nat.min_eq_left (by omega)).symm
  have HMIN : Hid ((iv xs m).length = Nat.min m (m + 1)) := hmin
  have hone : ∀ v ∈ iv xs m, v.oneCell' = true := by
    intro v hv'
    simp [iv] at hv'
    obtain ⟨i, _, rfl⟩ := hv'
    rfl
  have HONE : Hid (∀ v ∈ iv xs m, v.oneCell' = true) := hone
  have hsrc : 0 < (iv xs m).length → (some ⟨w.heap.size, 0, none⟩ : Option Addr) = some ⟨w.heap.size, 0, none⟩ ∧ ∃ ad, o = some ad ∧ ∀ j v, (iv xs m)[j]? = some v → (w.alloc (.cells (madeCells #[.int .i64 0] (m + 1)) 3)).cell? (ad.add j) = some v := by
    intro h
    rw [hlen] at h
    obtain ⟨a, off, rfl, ha, hx⟩ := HV.out h
    refine ⟨rfl, _, rfl, fun j v hj => ?_⟩
    have hjm : j < m := by have := (List.getElem?_eq_some_iff.1 hj).1; omega
    rw [iv_get xs m j hjm] at hj
    rw [Addr.add_mid, World.cell?_alloc_lt _ _ _ ha, hx j hjm]
    exact hj
  have HSRC := (show Hid _ from hsrc)
  have hbel : Below w.heap.size w (w.alloc (.cells (madeCells #[.int .i64 0] (m + 1)) 3)) := (Below.refl _ _).alloc (Nat.le_refl _) _
  have HBEL := (show Hid _ from hbel)
  clear hv hlen hmin hone hsrc hbel
  go_enter Try.func15, Try.ntmps15
  go_wp2_with (refine wpList_copy_splice rfl _ _ 24 24 rfl 3 Try.underlying24 (by kernel_rfl) _ o (m + 1) (m + 1) m cap (by rfl) (by rfl) w.heap.size 0 (madeCells #[.int .i64 0] (m + 1)).toList 3 (heap_alloc_new w _) (iv xs m) HMIN.out HSRC.out (by have := HL.out; simp [size_madeCells]; omega) HONE.out w.heap.size w HBEL.out (Nat.le_refl _) ?_; intro w1 hr1 hb1; have HH := (show Hid _ from lent_cells hr1.out); obtain ⟨hcm, hfm⟩ := lent_last hr1.out)
  go_ret
  have hs1 : w.heap.size < w1.heap.size := (Array.getElem?_eq_some_iff.1 hr1.out).1
  refine ⟨⟨w.heap.size, rfl, Nat.le_refl _, by simpa using hs1, ?_⟩, (upd_of_below hb1).setCell (fun h => absurd h (Nat.lt_irrefl _)) _⟩
  refine (holds_set0' HH.out (Nat.lt_succ_self m) (-77)).congr (fun i hi => ?_)
  unfold upd lentX
  by_cases e : i = m
  · rw [if_pos e, if_neg (by omega)]
  · rw [if_neg e, if_pos (by omega)]
    show (if i < m then xs i else 0) = xs i
    rw [if_pos (by omega)]

set_option maxRecDepth 100000 in
set_option maxHeartbeats 1000000 in
theorem still_any (g m : Nat) (o : Option Addr) (cap : Nat) (xs : Nat → Int) (w : World) (hm : m ≤ 1048576) (H : HoldsF w g 0 (m + 1) (lentX m xs))
    (hv : 0 < m → ∃ a off, o = some ⟨a, off, none⟩ ∧ a < w.heap.size ∧ ∀ i, i < m → w.cell? ⟨a, off + i, none⟩ = some (.int .i64 (xs i))) :
    Calls Try.prog 19 #[.slice (some ⟨g, 0, none⟩) (m + 1) (m + 1), .slice o m cap] w fun e w' => e = .returned (.bool true) ∧ ∃ q, w' = w.drewN q := by
  have HV : Hid (0 < m → ∃ a off, o = some ⟨a, off, none⟩ ∧ a < w.heap.size ∧ ∀ i, i < m → w.cell? ⟨a, off + i, none⟩ = some (.int .i64 (xs i))) := hv
  have HH : Hid (HoldsF w g 0 (m + 1) (lentX m xs)) := H
  clear hv H
  go_enter Try.func19, Try.ntmps19
  go_wp2_with fail
  go_loopw [5] (fun i wr => ∃ k q : Nat, k ≤ m ∧ i = .int .i64 k ∧ wr = w.drewN q) (fun i _ => m - (intOf i).toNat)
  case atStart => exact ⟨0, 0, Nat.zero_le _, rfl, rfl⟩
  case round =>
    obtain ⟨k, q, hk, rfl, rfl⟩ := hrel
    by_cases hlt : k < m
    · obtain ⟨a, off, rfl, ha, hx⟩ := HV.out (by omega)
      have h1 := HH.out.c k (by omega)
      have h2 := hx k hlt
      rw [Nat.zero_add, show lentX m xs k = xs k by unfold lentX; rw [if_pos hlt]] at h1
      have hkm : k < m + 1 := by omega
      clear hx
      go_wp2
      go_quiet (fail)
      go_wp2
      go_roundw
      case rel => exact ⟨k + 1, _, by omega, by go_num, rfl⟩
      case measure => simp [intOf]; omega
    · have h1 := HH.out.c m (by omega)
      rw [Nat.zero_add, show lentX m xs m = -77 by unfold lentX; rw [if_neg (by omega)]] at h1
      go_wp2
      go_ret
      exact ⟨rfl, q, rfl⟩

/-- m touches in a slice -/
def TchF (w : World) (o : Option Addr) (m : Nat) (T : Nat → Tch) : Prop :=
  0 < m → ∃ g, o = some ⟨g, 0, none⟩ ∧ g < w.heap.size ∧ ∀ i, i < m → w.cell? ⟨g, i * 3, none⟩ = some (.bool (T i).hit) ∧ w.cell? ⟨g, i * 3 + 1, none⟩ = some (.int .i64 (T i).way) ∧ w.cell? ⟨g, i * 3 + 2, none⟩ = some (.int .i64 (T i).out)

set_option maxRecDepth 100000 in
set_option maxHeartbeats 1000000 in
theorem alike_any (m : Nat) (o1 o2 : Option Addr) (c1 c2 : Nat) (T : Nat → Tch) (w : World) (hm : m ≤ 200) (h1 : TchF w o1 m T) (h2 : TchF w o2 m T) :
    Calls Try.prog 18 #[.slice o1 m c1, .slice o2 m c2] w fun e w' => e = .returned (.bool true) ∧ ∃ q, w' = w.drewN q := by
  have H1 : Hid (TchF w o1 m T) := h1
  have H2 : Hid (TchF w o2 m T) := h2
  clear h1 h2
  go_enter Try.func18, Try.ntmps18
  go_wp2_with fail
  go_loopw [5] (fun i wr => ∃ k q : Nat, k ≤ m ∧ i = .int .i64 k ∧ wr = w.drewN q) (fun i _ => m - (intOf i).toNat)
  case atStart => exact ⟨0, 0, Nat.zero_le _, rfl, rfl⟩
  case round =>
    obtain ⟨k, q, hk, rfl, rfl⟩ := hrel
    by_cases hlt : k < m
    · obtain ⟨g1, rfl, _, hg1⟩ := H1.out (by omega)
      obtain ⟨g2, rfl, _, hg2⟩ := H2.out (by omega)
      obtain ⟨a1, a2, a3⟩ := hg1 k hlt
      obtain ⟨b1, b2, b3⟩ := hg2 k hlt
      generalize T k = t at *
      clear hg1 hg2
      go_wp2
      go_quiet (fail)
      go_wp2
      go_roundw
      case rel => exact ⟨k + 1, _, by omega, by go_num, rfl⟩
      case measure => simp [intOf]; omega
    · go_wp2
      go_ret
      exact ⟨rfl, q, rfl⟩

end Go.Proofs.Ytobniidkkmlilaa
