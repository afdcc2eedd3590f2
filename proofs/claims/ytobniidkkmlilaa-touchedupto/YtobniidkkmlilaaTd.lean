/- The walks over package coherentlaw: kept. -/
import Derived.Test.YtobniidkkmlilaaTc
namespace Go.Proofs.Ytobniidkkmlilaa
open Go.RowKit Go.Coh

/-- a book: a list that came out, and its owner's number -/
structure Bk where
  o : Option Addr
  len : Nat
  cap : Nat
  n : Nat

/-- the list is full of its owner's mark -/
def MarkF (w : World) (o : Option Addr) (m n : Nat) : Prop :=
  0 < m → ∃ g, o = some ⟨g, 0, none⟩ ∧ g < w.heap.size ∧ ∀ i, i < m → w.cell? ⟨g, i * 3, none⟩ = some (.bool false) ∧ w.cell? ⟨g, i * 3 + 1, none⟩ = some (.int .i64 (-(n : Int))) ∧ w.cell? ⟨g, i * 3 + 2, none⟩ = some (.int .i64 n)

def bcs (B : Nat → Bk) : Nat → List Value
  | 0 => []
  | k + 1 => bcs B k ++ [.slice (B k).o (B k).len (B k).cap, .int .i64 (B k).n]

theorem bcs_len (B : Nat → Bk) : ∀ k, (bcs B k).length = k * 2
  | 0 => rfl
  | k + 1 => by simp [bcs, bcs_len B k]; omega

theorem bcs_get (B : Nat → Bk) : ∀ k i, i < k → (bcs B k)[i * 2]? = some (.slice (B i).o (B i).len (B i).cap) ∧ (bcs B k)[i * 2 + 1]? = some (.int .i64 (B i).n)
  | 0, i, h => by omega
  | k + 1, i, h => by
    have hl := bcs_len B k
    unfold bcs
    by_cases e : i = k
    · subst e
      rw [List.getElem?_append_right (by omega), List.getElem?_append_right (by omega), hl]
      refine ⟨?_, ?_⟩
      · rw [show i * 2 - i * 2 = 0 by omega]; rfl
      · rw [show i * 2 + 1 - i * 2 = 1 by omega]; rfl
    · rw [List.getElem?_append_left (by omega), List.getElem?_append_left (by omega)]
      exact bcs_get B k i (by omega)

theorem MarkF.upd {S : Nat → Nat → Prop} {w w' : World} {o : Option Addr} {m n : Nat} (h : MarkF w o m n) (u : Upd S w w') (hS : ∀ g off, o = some ⟨g, 0, none⟩ → ¬ S g off) : MarkF w' o m n := fun hm => by
  obtain ⟨g, ho, hg, hc⟩ := h hm
  refine ⟨g, ho, Nat.lt_of_lt_of_le hg u.size, fun i hi => ?_⟩
  obtain ⟨h1, h2, h3⟩ := hc i hi
  exact ⟨by rw [u.cell hg (hS g _ ho)]; exact h1, by rw [u.cell hg (hS g _ ho)]; exact h2, by rw [u.cell hg (hS g _ ho)]; exact h3⟩

set_option maxRecDepth 100000 in
set_option maxHeartbeats 1000000 in
theorem kept_any (K : Nat) (o : Option Addr) (cap : Nat) (B : Nat → Bk) (w : World) (hK : K ≤ 4194304)
    (hb : 0 < K → ∃ g, o = some ⟨g, 0, none⟩ ∧ g < w.heap.size ∧ ∀ i, i < K → w.cell? ⟨g, i * 2, none⟩ = some (.slice (B i).o (B i).len (B i).cap) ∧ w.cell? ⟨g, i * 2 + 1, none⟩ = some (.int .i64 (B i).n))
    (hm : ∀ i, i < K → (B i).n ≤ 1048576 ∧ (B i).len ≤ 1000 ∧ MarkF w (B i).o (B i).len (B i).n) :
    Calls Try.prog 20 #[.slice o K cap] w fun e w' => e = .returned (.bool true) ∧ Upd no w w' := by
  have HB : Hid (0 < K → ∃ g, o = some ⟨g, 0, none⟩ ∧ g < w.heap.size ∧ ∀ i, i < K → w.cell? ⟨g, i * 2, none⟩ = some (.slice (B i).o (B i).len (B i).cap) ∧ w.cell? ⟨g, i * 2 + 1, none⟩ = some (.int .i64 (B i).n)) := hb
  have HM : Hid (∀ i, i < K → (B i).n ≤ 1048576 ∧ (B i).len ≤ 1000 ∧ MarkF w (B i).o (B i).len (B i).n) := hm
  clear hb hm
  go_enter Try.func20, Try.ntmps20
  go_wp2_with fail
  go_loopw [3] (fun i wr => ∃ k : Nat, k ≤ K ∧ i = .int .i64 k ∧ Upd no w wr) (fun i _ => K - (intOf i).toNat)
  case atStart => exact ⟨0, Nat.zero_le _, rfl, Upd.refl _ _⟩
  case round =>
    obtain ⟨k, hk, rfl, hu⟩ := hrel
    have HU : Hid (Upd no w wr) := hu
    by_cases hlt : k < K
    · obtain ⟨g, rfl, hg, hc⟩ := HB.out (by omega)
      obtain ⟨c1, c2⟩ := hc k hlt
      rw [← hu.cell hg (fun h => h)] at c1 c2
      obtain ⟨hn, hl, hmk⟩ := HM.out k hlt
      have HMK : Hid (MarkF wr (B k).o (B k).len (B k).n) := hmk.upd hu (fun _ _ _ h => h)
      have hzz := hu.size
      clear hc hmk hu
      generalize B k = bk at *
      obtain ⟨bo, bl, bc, bn⟩ := bk
      simp only at c1 c2 hn hl HMK
      go_wp2_with fail
      have hU2 : Upd no wr ((wr.alloc (Obj.cells #[Value.slice bo bl bc, Value.int IntKind.i64 (bn : Int)] 94)).alloc (Obj.cells #[Value.bool false, Value.int IntKind.i64 (-(bn : Int)), Value.int IntKind.i64 (bn : Int)] 41)) := ((Upd.refl no wr).alloc _).alloc _
      have d0 : ((wr.alloc (Obj.cells #[Value.slice bo bl bc, Value.int IntKind.i64 (bn : Int)] 94)).alloc (Obj.cells #[Value.bool false, Value.int IntKind.i64 (-(bn : Int)), Value.int IntKind.i64 (bn : Int)] 41)).cell? ⟨wr.heap.size, 0, none⟩ = some (Value.slice bo bl bc) := by
        rw [World.cell?_alloc_lt _ _ _ (by simp)]; simp
      have hblk := heap_alloc2_new wr (Obj.cells #[Value.slice bo bl bc, Value.int IntKind.i64 (bn : Int)] 94) (Obj.cells #[Value.bool false, Value.int IntKind.i64 (-(bn : Int)), Value.int IntKind.i64 (bn : Int)] 41)
      have HMK2 : Hid (MarkF ((wr.alloc (Obj.cells #[Value.slice bo bl bc, Value.int IntKind.i64 (bn : Int)] 94)).alloc (Obj.cells #[Value.bool false, Value.int IntKind.i64 (-(bn : Int)), Value.int IntKind.i64 (bn : Int)] 41)) bo bl bn) := HMK.out.upd hU2 (fun _ _ _ h => h)
      have HU2 : Hid (Upd no w ((wr.alloc (Obj.cells #[Value.slice bo bl bc, Value.int IntKind.i64 (bn : Int)] 94)).alloc (Obj.cells #[Value.bool false, Value.int IntKind.i64 (-(bn : Int)), Value.int IntKind.i64 (bn : Int)] 41))) := HU.out.trans hU2
      clear hU2 HMK c1 c2
      generalize ((wr.alloc (Obj.cells #[Value.slice bo bl bc, Value.int IntKind.i64 (bn : Int)] 94)).alloc (Obj.cells #[Value.bool false, Value.int IntKind.i64 (-(bn : Int)), Value.int IntKind.i64 (bn : Int)] 41)) = W2 at *
      have e0 : W2.cell? ⟨wr.heap.size + 1, 0, none⟩ = some (.bool false) := by simp [World.cell?, hblk]
      have e1 : W2.cell? ⟨wr.heap.size + 1, 1, none⟩ = some (.int .i64 (-(bn : Int))) := by simp [World.cell?, hblk]
      have e2 : W2.cell? ⟨wr.heap.size + 1, 2, none⟩ = some (.int .i64 bn) := by simp [World.cell?, hblk]
      clear hblk
      generalize wr.heap.size = NN at *
      go_loopw [6] (fun i wi => ∃ j q : Nat, j ≤ bl ∧ i = .int .i64 j ∧ wi = W2.drewN q) (fun i _ => bl - (intOf i).toNat)
      case atStart => exact ⟨0, 0, Nat.zero_le _, rfl, rfl⟩
      case round =>
        obtain ⟨j, q, hj, rfl, rfl⟩ := hrel
        by_cases hjl : j < bl
        · obtain ⟨gg, rfl, hgg, hgc⟩ := HMK2.out (by omega)
          obtain ⟨f0, f1, f2⟩ := hgc j hjl
          clear hgc
          go_wp2
          go_quiet (fail)
          go_wp2
          go_roundw
          case rel => exact ⟨j + 1, _, by omega, by go_num, rfl⟩
          case measure => simp [intOf]; omega
        · go_wp2
          go_roundw
          case rel => exact ⟨k + 1, by omega, by go_num, HU2.out.drewN q⟩
          case measure => simp [intOf]; omega
    · clear hu
      go_wp2
      go_ret
      exact ⟨rfl, HU.out⟩

end Go.Proofs.Ytobniidkkmlilaa
