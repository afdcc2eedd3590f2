/- Touched: the walk. -/
import Derived.Test.YtobniidkkmlilaaTf
import Derived.Test.YtobniidkkmlilaaTh
import Derived.Deep.RegionWith
import Derived.Deep.CutRange
namespace Go.Proofs.Ytobniidkkmlilaa
open Go.RowKit Go.Coh

/-- one call, as it was handed over -/
structure Cl where
  p : Int
  n : Int
  o : Option Addr
  m : Nat
  cap : Nat
  xs : Nat → Int

/-- a call's list can be read -/
def ClOk (w : World) (c : Cl) : Prop :=
  c.m ≤ 1048576 ∧ (0 < c.m → ∃ a off, c.o = some ⟨a, off, none⟩ ∧ a < w.heap.size ∧ ∀ i, i < c.m → w.cell? ⟨a, off + i, none⟩ = some (.int .i64 (c.xs i))) ∧ (∀ i, i < c.m → c.xs i ≤ 9223372036854775807)

theorem list_keep {w w' : World} {o : Option Addr} {m : Nat} {xs : Nat → Int} (h : 0 < m → ∃ a off, o = some ⟨a, off, none⟩ ∧ a < w.heap.size ∧ ∀ i, i < m → w.cell? ⟨a, off + i, none⟩ = some (.int .i64 (xs i))) (u : Upd no w w') :
    0 < m → ∃ a off, o = some ⟨a, off, none⟩ ∧ a < w'.heap.size ∧ ∀ i, i < m → w'.cell? ⟨a, off + i, none⟩ = some (.int .i64 (xs i)) := fun hm => by
  obtain ⟨a, off, h1, h2, h3⟩ := h hm
  exact ⟨a, off, h1, Nat.lt_of_lt_of_le h2 u.size, fun i hi => by rw [u.cell h2 (fun h => h)]; exact h3 i hi⟩

theorem books_cells {w : World} {bA K : Nat} {oA : Option Addr} {capA : Nat} {B : Nat → Bk} (h : BooksAt w bA (.slice oA K capA) K B) :
    0 < K → ∃ g, oA = some ⟨g, 0, none⟩ ∧ g < w.heap.size ∧ ∀ i, i < K → w.cell? ⟨g, i * 2, none⟩ = some (.slice (B i).o (B i).len (B i).cap) ∧ w.cell? ⟨g, i * 2 + 1, none⟩ = some (.int .i64 (B i).n) := fun hK => by
  rcases h.row.2 with ⟨h1, h2⟩ | ⟨g, cap', cur, hv, _, hg, _, _, _, ht⟩
  · omega
  · injection hv with hv _ _
    subst hv
    refine ⟨g, rfl, (Array.getElem?_eq_some_iff.1 hg).1, fun i hi => ?_⟩
    have key : ∀ x u, x < K * 2 → (bcs B K)[x]? = some u → w.cell? ⟨g, x, none⟩ = some u := fun x u hx hu => by
      rw [cell_of_row w g x cur 94 (0, 0) hg]
      rw [← ht, List.getElem?_take, if_pos hx] at hu
      simpa using hu
    obtain ⟨h1, h2⟩ := bcs_get B K i hi
    exact ⟨key _ _ (by omega) h1, key _ _ (by omega) h2⟩

set_option maxRecDepth 100000 in
set_option maxHeartbeats 2000000 in
theorem touched_any (M : Nat) (oC : Option Addr) (capC : Nat) (C : Nat → Cl) (w : World) (hM : M ≤ 1048575)
    (hc : 0 < M → ∃ a off, oC = some ⟨a, off, none⟩ ∧ a < w.heap.size ∧ ∀ i, i < M → w.cell? ⟨a, off + i * 3, none⟩ = some (.int .i64 (C i).p) ∧ w.cell? ⟨a, off + i * 3 + 1, none⟩ = some (.int .i64 (C i).n) ∧ w.cell? ⟨a, off + i * 3 + 2, none⟩ = some (.slice (C i).o (C i).m (C i).cap))
    (hok : ∀ i, i < M → ClOk w (C i)) :
    Calls Try.prog 3 #[.slice oC M capC] w fun e w' => e = .returned (.bool true) ∧ Below w.heap.size w w' := by
  have HC := (show Hid _ from hc)
  have HOK := (show Hid _ from hok)
  clear hc hok
  go_enter Try.func3, Try.ntmps3
  go_wp2_with fail
  go_loopw [3, 4] (fun va i wr => ∃ (k : Nat) (B : Nat → Bk), k ≤ M ∧ i = .int .i64 k ∧ BooksAt wr w.heap.size va (4 * k) B ∧ Below w.heap.size w wr) (fun _ i _ => M - (intOf i).toNat)
  case atStart => exact ⟨0, fun _ => ⟨none, 0, 0, 0⟩, Nat.zero_le _, rfl, ⟨World.ownsRow_nil _ _ _ _, fun i hi => by omega, fun i hi => by omega⟩, Below.refl _ _⟩
  case round =>
    obtain ⟨k, B, hk, rfl, hB, hbel⟩ := hrel
    obtain ⟨oA, capA, rfl⟩ := own_slice' hB.row
    have HB : Hid (BooksAt wr w.heap.size (.slice oA (4 * k) capA) (4 * k) B) := hB
    have HBEL : Hid (Below w.heap.size w wr) := hbel
    have hsz := hbel.size
    clear hB hbel
    by_cases hlt : k < M
    · obtain ⟨a, off, rfl, ha, hcells⟩ := HC.out (by omega)
      obtain ⟨c0, c1, c2⟩ := hcells k hlt
      obtain ⟨hm, hx, hx9⟩ := HOK.out k hlt
      obtain ⟨hbc, _⟩ : (∀ b o, b < w.heap.size → wr.cell? ⟨b, o, none⟩ = w.cell? ⟨b, o, none⟩) ∧ True := ⟨fun b o h => HBEL.out.cell (p := ⟨b, o, none⟩) h, trivial⟩
      rw [← hbc a _ ha] at c0 c1 c2
      have HX : Hid (0 < (C k).m → ∃ a off, (C k).o = some ⟨a, off, none⟩ ∧ a < wr.heap.size ∧ ∀ i, i < (C k).m → wr.cell? ⟨a, off + i, none⟩ = some (.int .i64 ((C k).xs i))) := fun h => by
        obtain ⟨a', off', h1, h2, h3⟩ := hx h
        exact ⟨a', off', h1, by omega, fun i hi => by rw [hbc a' _ h2]; exact h3 i hi⟩
      have HX9 := (show Hid _ from hx9)
      clear hcells hx hx9 hbc
      generalize C k = cl at *
      obtain ⟨p, n, o, m, cap, xs⟩ := cl
      simp only at c0 c1 c2 hm HX HX9
      obtain ⟨L, e, T, hspec, hL⟩ := TSpec_total p n m xs
      have HSP := (show Hid _ from hspec)
      clear hspec
      go_wp2_with fail
      have hUa : Upd no wr (wr.alloc (Obj.cells #[Value.int IntKind.i64 p, Value.int IntKind.i64 n, Value.slice o m cap] 26)) := (Upd.refl no wr).alloc _
      refine (lent_any m o cap xs _ hm (list_keep HX.out hUa)).mono ?_
      rintro e1 w5 ⟨⟨gx, rfl, hgx1, hgx2, hHx⟩, hu5⟩
      have hblk := heap_alloc_new wr (Obj.cells #[Value.int IntKind.i64 p, Value.int IntKind.i64 n, Value.slice o m cap] 26)
      rw [← hu5.block (by simp) (fun _ h => h)] at hblk
      have HU5 : Hid (Upd no wr w5) := hUa.trans hu5
      have HHX : Hid (HoldsF w5 gx 0 (m + 1) (lentX m xs)) := hHx
      have hsz5 : wr.heap.size < w5.heap.size := (Array.getElem?_eq_some_iff.1 hblk).1
      have d0 : w5.cell? ⟨wr.heap.size, 0, none⟩ = some (.int .i64 p) := by simp [World.cell?, hblk]
      have d1 : w5.cell? ⟨wr.heap.size, 1, none⟩ = some (.int .i64 n) := by simp [World.cell?, hblk]
      have d2 : w5.cell? ⟨wr.heap.size, 2, none⟩ = some (.slice o m cap) := by simp [World.cell?, hblk]
      clear hUa hu5 hHx hblk c0 c1 c2
      go_wp2_with fail
      go_cut [7, 8] from 14 to 85 (fun s7 s8 wx => ∃ o6 cap6 ys6, s7 = .slice o6 L cap6 ∧ s8 = .int .i64 e ∧ wx.ownsRow w5.heap.size 41 3 (.slice o6 L cap6) L ys6 ∧ TchF wx o6 L T ∧ (e ≠ 0 → o6 = none) ∧ Upd no w5 wx)
      case first =>
        go_region_with (go_at_call 16; refine (Touches_full p n m _ _ xs _ L e T HSP.out hm ⟨gx, 0, rfl, by exact hgx2, fun i hi => by have := HHX.out.c i (by omega); rw [show lentX m xs i = xs i by unfold lentX; rw [if_pos hi]] at this; exact this⟩).mono ?_; rintro e2 w6 ⟨⟨o6, cap6, ys6, rfl, hown6, hT6, hnil6⟩, hu6⟩)
        all_goals
          have HOW := (show Hid _ from hown6)
          have HT6 := (show Hid _ from hT6)
          have HN6 := (show Hid _ from hnil6)
          have hu7 : Upd no w5 w6 := ⟨hu6.os, hu6.tape, hu6.output, hu6.size, hu6.cells, hu6.rest⟩
          have HU6 := (show Hid _ from hu7)
          clear hown6 hT6 hnil6 hu6 hu7
          go_wp2
          go_meet
          case rel => exact ⟨o6, cap6, ys6, rfl, rfl, HOW.out, HT6.out, HN6.out, HU6.out⟩
      case rest =>
        obtain ⟨o6, cap6, ys6, rfl, rfl, hown6, hT6, hnil6, hu6⟩ := hcut
        have HOW : Hid (wc.ownsRow w5.heap.size 41 3 (.slice o6 L cap6) L ys6) := hown6
        have HT6 : Hid (TchF wc o6 L T) := hT6
        have HN6 : Hid (e ≠ 0 → o6 = none) := hnil6
        have HU6 : Hid (Upd no w5 wc) := hu6
        rw [← hu6.cell hsz5 (fun h => h)] at d0 d1 d2
        clear hown6 hT6 hnil6 hu6
        go_wp2_with fail
        refine (refTouches_full p n m o cap xs _ L e T HSP.out hm HX9.out (list_keep HX.out (HU5.out.trans HU6.out))).mono ?_
        rintro e3 w7 ⟨⟨o7, cap7, rfl, hT7⟩, hu7⟩
        have HT7 : Hid (TchF w7 o7 L T) := hT7
        have HT67 : Hid (TchF w7 o6 L T) := HT6.out.upd hu7
        have HOW7 : Hid (w7.ownsRow w5.heap.size 41 3 (.slice o6 L cap6) L ys6) := own_keep HOW.out hu7 (fun _ _ _ h => h)
        have HU7 : Hid (Upd no w5 w7) := HU6.out.trans hu7
        rw [← hu7.cell (Nat.lt_of_lt_of_le hsz5 HU6.out.size) (fun h => h)] at d2
        clear hT7 hu7 d0 d1 HT6 HOW HU6
        go_wp2_with fail
        refine (alike_any L o6 o7 cap6 cap7 T _ hL HT67.out HT7.out).mono ?_
        rintro e4 w8 ⟨rfl, q8, rfl⟩
        go_wp2_with fail
        refine (still_any gx m o cap xs (w7.drewN q8) hm (HHX.out.of_upd (HU7.out.drewN q8) (fun _ _ h => h)) (list_keep HX.out (HU5.out.trans (HU7.out.drewN q8)))).mono ?_
        rintro e5 w9 ⟨rfl, q9, rfl⟩
        have HU9 : Hid (Upd no w5 ((w7.drewN q8).drewN q9)) := (HU7.out.drewN q8).drewN q9
        have HOW9 : Hid (((w7.drewN q8).drewN q9).ownsRow w5.heap.size 41 3 (.slice o6 L cap6) L ys6) := own_keep HOW7.out (((Upd.refl no w7).drewN q8).drewN q9) (fun _ _ _ h => h)
        clear d2 HT67 HT7 HOW7 HU7
        generalize (w7.drewN q8).drewN q9 = w9 at *
        have HB9 : Hid (BooksAt w9 w.heap.size (.slice oA (4 * k) capA) (4 * k) B) := HB.out.upd (HU5.out.trans HU9.out)
        go_wp2_with fail
        refine (kept_any (4 * k) oA capA B _ (by omega) (books_cells HB9.out) HB9.out.mark).mono ?_
        rintro e6 w10 ⟨rfl, hu10⟩
        have HU10 : Hid (Upd no w5 w10) := HU9.out.trans hu10
        have HOW10 : Hid (w10.ownsRow w5.heap.size 41 3 (.slice o6 L cap6) L ys6) := own_keep HOW9.out hu10 (fun _ _ _ h => h)
        have HB10 : Hid (BooksAt w10 w.heap.size (.slice oA (4 * k) capA) (4 * k) B) := HB9.out.upd hu10
        clear hu10 HU9 HOW9 HB9
        have HOWN : Hid (Calls Try.prog 21 #[.slice oA (4 * k) capA, .slice o6 L cap6, .int .i64 k] w10 fun e w' => (∃ va B', e = .returned va ∧ BooksAt w' w.heap.size va (4 * k + 4) B') ∧ Below w.heap.size w10 w') := by
          have hs5 := HU5.out.size
          have hs10 := HU10.out.size
          refine owned_any (4 * k) L k w.heap.size w5.heap.size o6 cap6 oA capA B ys6 w10 (by omega) hL (by omega) HB10.out (fun g hg => ?_) (fun i hi g hpos ho => ?_) HOW10.out (by omega) hs10
          · have := (HB.out.row.lt g hg).2
            omega
          · obtain ⟨g', ho', hgl, _⟩ := (HB.out.mark i hi).2.2 hpos
            rw [ho] at ho'
            injection ho' with ho'
            injection ho' with ho'
            omega
        have HBW : Hid (Below w.heap.size w w10) := HBEL.out.trans ((HU5.out.trans HU10.out).below (by omega) (fun _ _ _ h => h))
        clear HU10 HOW10 HB10
        by_cases he0 : e = 0
        · subst he0
          clear HN6
          go_wp2_with fail
          refine HOWN.out.mono ?_
          rintro e7 w11 ⟨⟨va, B', rfl, hB'⟩, hb11⟩
          have HB11 : Hid (BooksAt w11 w.heap.size va (4 * k + 4) B') := hB'
          have HBE11 : Hid (Below w.heap.size w w11) := HBW.out.trans hb11
          clear hB' hb11 HOWN
          go_wp2
          go_roundw
          case rel => exact ⟨k + 1, B', by omega, by go_num, by rw [show 4 * (k + 1) = 4 * k + 4 by omega]; exact HB11.out, HBE11.out⟩
          case measure => simp [intOf]; omega
        · have ho6 := HN6.out he0
          subst ho6
          have heb : (e != 0) = true := by simp; exact he0
          clear he0 HN6
          go_wp2_with fail
          refine HOWN.out.mono ?_
          rintro e7 w11 ⟨⟨va, B', rfl, hB'⟩, hb11⟩
          have HB11 : Hid (BooksAt w11 w.heap.size va (4 * k + 4) B') := hB'
          have HBE11 : Hid (Below w.heap.size w w11) := HBW.out.trans hb11
          clear hB' hb11 HOWN
          go_wp2
          go_roundw
          case rel => exact ⟨k + 1, B', by omega, by go_num, by rw [show 4 * (k + 1) = 4 * k + 4 by omega]; exact HB11.out, HBE11.out⟩
          case measure => simp [intOf]; omega
    · go_wp2_with fail
      refine (kept_any (4 * k) oA capA B _ (by omega) (books_cells HB.out) HB.out.mark).mono ?_
      rintro e6 w10 ⟨rfl, hu10⟩
      have HBW : Hid (Below w.heap.size w w10) := HBEL.out.trans (hu10.below (by omega) (fun _ _ _ h => h))
      clear hu10
      go_wp2
      go_ret
      exact ⟨rfl, HBW.out⟩

end Go.Proofs.Ytobniidkkmlilaa
