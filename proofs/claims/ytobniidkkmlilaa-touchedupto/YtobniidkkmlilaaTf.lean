/- The walks over package coherentlaw: owned. -/
import Derived.Test.YtobniidkkmlilaaTg
namespace Go.Proofs.Ytobniidkkmlilaa
open Go.RowKit Go.Coh

theorem one2 (o : Option Addr) (m cap : Nat) (n : Int) : ∀ u ∈ [Value.slice o m cap, .int .i64 n], u.oneCell' = true := by
  intro u hu
  simp at hu
  rcases hu with rfl | rfl <;> rfl

theorem own_marks {w1 wr : World} {bL k n cap : Nat} {o : Option Addr} {xs0 : List Value} (h : w1.ownsRow bL 41 3 (.slice o k cap) k xs0) (hu : Upd (fun b _ => o = some ⟨b, 0, none⟩) w1 wr)
    (hr : ∀ g, o = some ⟨g, 0, none⟩ → ∀ j, j < k → wr.rangeAt g (j * 3) (mk3 n)) : wr.ownsRow bL 41 3 (.slice o k cap) k (mcs n k) := by
  refine ⟨by rw [mcs_len], ?_⟩
  rcases h.2 with ⟨h1, h0⟩ | ⟨g, cap', cur, hv, hg1, hg2, hg3, hg4, hg5, hg6⟩
  · exact .inl ⟨h1, h0⟩
  · injection hv with ho _ hcap
    subst ho; subst hcap
    obtain ⟨c', hc1, hc2, _⟩ := hu.cells _ _ _ _ hg2
    refine .inr ⟨g, cap, c', rfl, hg1, hc1, hg3, hg4, by omega, ?_⟩
    refine mcs_eq (by simp; omega) (fun i hi => ?_)
    have key : ∀ x u, x < k * 3 → wr.cell? ⟨g, x, none⟩ = some u → (c'.toList.take (k * 3))[x]? = some u := fun x u hx hcell => by
      rw [cell_of_row wr g x c' 41 (0, 0) hc1] at hcell
      rw [List.getElem?_take, if_pos hx]
      simpa using hcell
    have h3 := hr g rfl i hi
    exact ⟨key _ _ (by omega) (h3 0 _ rfl), key _ _ (by omega) (h3 1 _ rfl), key _ _ (by omega) (h3 2 _ rfl)⟩

set_option maxRecDepth 100000 in
set_option maxHeartbeats 2000000 in
theorem owned_any (K m n bA bL : Nat) (o : Option Addr) (cap : Nat) (oA : Option Addr) (capA : Nat) (B : Nat → Bk) (xs0 : List Value) (w : World) (hK : K ≤ 4194300) (hm : m ≤ 200) (hn : n ≤ 1048576)
    (hA : BooksAt w bA (.slice oA K capA) K B) (hAl : ∀ g, Value.ownBlock (.slice oA K capA) = some g → g < bL) (hBl : ∀ i, i < K → ∀ g, 0 < (B i).len → (B i).o = some ⟨g, 0, none⟩ → g < bL)
    (hL : w.ownsRow bL 41 3 (.slice o m cap) m xs0) (hbA : bA ≤ bL) (hbL : bL ≤ w.heap.size) :
    Calls Try.prog 21 #[.slice oA K capA, .slice o m cap, .int .i64 n] w fun e w' =>
      (∃ va B', e = .returned va ∧ BooksAt w' bA va (K + 4) B') ∧ Below bA w w' := by
  have HA : Hid (BooksAt w bA (.slice oA K capA) K B) := hA
  have HAl : Hid (∀ g, Value.ownBlock (.slice oA K capA) = some g → g < bL) := hAl
  have HBl : Hid (∀ i, i < K → ∀ g, 0 < (B i).len → (B i).o = some ⟨g, 0, none⟩ → g < bL) := hBl
  have HL : Hid (w.ownsRow bL 41 3 (.slice o m cap) m xs0) := hL
  obtain ⟨i0, hi, hz0, hz1, hz2⟩ := info_parts info59
  obtain ⟨j0, hj, hy0, hy1, hy2⟩ := info_parts info41
  clear hA hAl hBl hL
  go_enter Try.func21, Try.ntmps21
  go_wp2_with fail
  have hU1 : Upd no w (w.alloc (Obj.cells #[Value.bool false, Value.int IntKind.i64 (-(n : Int)), Value.int IntKind.i64 (n : Int)] 41)) := (Upd.refl no w).alloc _
  have hblk := heap_alloc_new w (Obj.cells #[Value.bool false, Value.int IntKind.i64 (-(n : Int)), Value.int IntKind.i64 (n : Int)] 41)
  have HA1 : Hid (BooksAt (w.alloc (Obj.cells #[Value.bool false, Value.int IntKind.i64 (-(n : Int)), Value.int IntKind.i64 (n : Int)] 41)) bA (.slice oA K capA) K B) :=
    ⟨HA.out.row.alloc _, fun i hi => ⟨(HA.out.mark i hi).1, (HA.out.mark i hi).2.1, (HA.out.mark i hi).2.2.upd hU1 (fun _ _ _ h => h)⟩, HA.out.sep⟩
  have HL1 : Hid ((w.alloc (Obj.cells #[Value.bool false, Value.int IntKind.i64 (-(n : Int)), Value.int IntKind.i64 (n : Int)] 41)).ownsRow bL 41 3 (.slice o m cap) m xs0) := HL.out.alloc _
  have HU1 : Hid (Below bA w (w.alloc (Obj.cells #[Value.bool false, Value.int IntKind.i64 (-(n : Int)), Value.int IntKind.i64 (n : Int)] 41))) := (Below.refl _ _).alloc (by omega) _
  have hs1 : (w.alloc (Obj.cells #[Value.bool false, Value.int IntKind.i64 (-(n : Int)), Value.int IntKind.i64 (n : Int)] 41)).heap.size = w.heap.size + 1 := by simp
  have HGL : Hid (∀ g, o = some ⟨g, 0, none⟩ → bL ≤ g ∧ g < w.heap.size) := fun g hg => HL.out.lt g (by rw [hg]; rfl)
  clear hU1 HA HL
  generalize (w.alloc (Obj.cells #[Value.bool false, Value.int IntKind.i64 (-(n : Int)), Value.int IntKind.i64 (n : Int)] 41)) = w1 at *
  have HBK : Hid (w1.heap[w.heap.size]? = some (Obj.cells #[Value.bool false, Value.int IntKind.i64 (-(n : Int)), Value.int IntKind.i64 (n : Int)] 41)) := hblk
  clear hblk
  generalize w.heap.size = N at *
  go_loopw [8] (fun i wr => ∃ k : Nat, k ≤ m ∧ i = .int .i64 k ∧ Upd (fun b _ => o = some ⟨b, 0, none⟩) w1 wr ∧ (∀ g, o = some ⟨g, 0, none⟩ → ∀ j, j < k → wr.rangeAt g (j * 3) (mk3 n))) (fun i _ => m - (intOf i).toNat)
  case atStart => exact ⟨0, Nat.zero_le _, rfl, Upd.refl _ _, fun g _ j hj => absurd hj (Nat.not_lt_zero _)⟩
  case round =>
    obtain ⟨k, hk, rfl, hu, hr⟩ := hrel
    have HU := (show Hid _ from hu)
    have HR := (show Hid _ from hr)
    clear hu hr
    by_cases hlt : k < m
    · rcases HL1.out.2 with ⟨_, h0⟩ | ⟨g, cap', cur, hv, hg1, hg2, hg3, hg4, hg5, hg6⟩
      · omega
      · injection hv with ho _ hcap
        subst ho; subst hcap
        have hgN := (HGL.out g rfl).2
        obtain ⟨c', hc1, hc2, _⟩ := HU.out.cells _ _ _ _ hg2
        have hth : wr.there g (k * 3) (mk3 n).toArray.size := there_obj hc1 _ _ (by show k * 3 + 3 ≤ _; omega)
        have hbk : wr.heap[N]? = some (Obj.cells #[Value.bool false, Value.int IntKind.i64 (-(n : Int)), Value.int IntKind.i64 (n : Int)] 41) := by
          rw [HU.out.block (by omega) (fun _ h => by injection h with h; injection h with h; omega)]; exact HBK.out
        have e0 : wr.cell? ⟨N, 0, none⟩ = some (.bool false) := by simp [World.cell?, hbk]
        have e1 : wr.cell? ⟨N, 1, none⟩ = some (.int .i64 (-(n : Int))) := by simp [World.cell?, hbk]
        have e2 : wr.cell? ⟨N, 2, none⟩ = some (.int .i64 n) := by simp [World.cell?, hbk]
        have HUR : Hid (Upd (fun b _ => (some ⟨g, 0, none⟩ : Option Addr) = some ⟨b, 0, none⟩) w1 (wr.setCells g (k * 3) (mk3 n).toArray.toList)) := upd_setCells HU.out (fun _ _ _ => rfl)
        have HR2 : Hid (∀ j, j < k + 1 → (wr.setCells g (k * 3) (mk3 n).toArray.toList).rangeAt g (j * 3) (mk3 n)) := fun j hj => by
          by_cases e : j = k
          · subst e; exact World.rangeAt_setCells_same _ _ _ _ hth
          · exact World.rangeAt_setCells_apart (HR.out g rfl j (by omega)) _ _ _ (.inr (.inl (by show j * 3 + 3 ≤ k * 3; omega)))
        clear hbk hc1 hc2 HR HU
        go_wp2_with (refine wpList_store_mid rfl 41 _ _ rfl g (k * 3) (mk3 n).toArray (by rfl) (by rfl) hth (by kernel_rfl) (by simp [mk3, Value.oneCell']) ?_)
        go_roundw
        case rel => exact ⟨k + 1, by omega, by go_num, HUR.out, fun g' hg' => by injection hg' with hg'; injection hg' with hg'; subst hg'; exact HR2.out⟩
        case measure => simp [intOf]; omega
    · have hkm : k = m := by omega
      subst hkm
      have HLr : Hid (wr.ownsRow bL 41 3 (.slice o k cap) k (mcs n k)) := own_marks HL1.out HU.out HR.out
      have HAr : Hid (BooksAt wr bA (.slice oA K capA) K B) := HA1.out.keep HU.out.size (fun g hg => HU.out.block (by have := HAl.out g hg; omega) (fun _ h => by have := HAl.out g hg; have := (HGL.out g h).1; omega)) (fun i hi g hpos ho hgl => HU.out.block hgl (fun _ h => by have := HBl.out i hi g hpos ho; have := (HGL.out g h).1; omega))
      have HBr : Hid (wr.heap[N]? = some (Obj.cells #[Value.bool false, Value.int IntKind.i64 (-(n : Int)), Value.int IntKind.i64 (n : Int)] 41)) := by
        show _ = _
        rw [HU.out.block (by omega) (fun _ h => by have := (HGL.out N h).2; omega)]; exact HBK.out
      have HWr : Hid (Below bA w wr) := HU1.out.trans (HU.out.below (by omega) (fun g _ hg h => by have := (HGL.out g h).1; omega))
      have hszr := HU.out.size
      clear HU HR HA1 HL1 HBK HU1
      obtain ⟨wq, hwq⟩ : ∃ wq, wq = wr := ⟨_, rfl⟩
      subst hwq
      go_wp2_with (at_builtin; refine wpList_append_own_at _ rfl _ _ 23 rfl bA 94 i0 (.agg #[.slice none 0 0, .int .i64 0]) 2 32 Try.underlying23 hi hz0 hz1 hz2 rfl (by decide) (.slice oA K capA) _ _ rfl (HAr.out.row.alloc _) ⟨wq.heap.size, 0, none⟩ 1 1 [.slice o k cap, .int .i64 n] rfl rfl (news_cells wq [.slice o k cap, .int .i64 n] 94) (one2 _ _ _ _) (by unfold maxLen; omega) (by omega) (by simp; omega) ?_; intro va w3 hown hgrow _hnil hloc; clear _hnil)
      have hrel0 : OwnRel w bA bL N n (K + 1) k o cap va (setB B K ⟨o, k, cap, n⟩) w3 := by
        have h0 : OwnRel w bA bL N n K k o cap (.slice oA K capA) B wq := by
          refine ⟨HAr.out, HLr.out, fun i hi' g ho hb => ?_, fun g ho e => ?_, HBr.out, fun e => ?_, fun e => ?_, HWr.out, hbA, hbL⟩
          · by_cases hpos : 0 < (B i).len
            · have h1 := HBl.out i hi' g hpos hb
              have h2 := (HGL.out g ho).1
              omega
            · omega
          · have h1 := HAl.out g e
            have h2 := (HGL.out g ho).1
            omega
          · have h1 := HAl.out N e
            omega
          · have h2 := (HGL.out N e).2
            omega
        exact h0.add hn (by omega) hgrow hown hloc
      have HREL := (show Hid _ from hrel0)
      clear hrel0 hown hgrow hloc HAr HLr HBr HWr HAl HBl HGL
      go_loopw [0, 1, 9] (fun sa sl si wr => ∃ (j : Nat) (o' : Option Addr) (cap' : Nat) (B' : Nat → Bk), j ≤ 3 ∧ si = .int .i64 j ∧ sl = .slice o' (k + j) cap' ∧ OwnRel w bA bL N n (K + 1 + j) (k + j) o' cap' sa B' wr) (fun _ _ si _ => 3 - (intOf si).toNat)
      case atStart => exact ⟨0, o, cap, _, Nat.zero_le _, rfl, rfl, HREL.out⟩
      case round =>
        obtain ⟨j, o', cap', B', hj3, rfl, rfl, hR⟩ := hrel
        have HRj := (show Hid _ from hR)
        clear hR HREL
        by_cases hjl : j < 3
        · have hbox := HRj.out.box
          have e0 : wr.cell? ⟨N, 0, none⟩ = some (.bool false) := by simp [World.cell?, hbox, mk3]
          have e1 : wr.cell? ⟨N, 1, none⟩ = some (.int .i64 (-(n : Int))) := by simp [World.cell?, hbox, mk3]
          have e2 : wr.cell? ⟨N, 2, none⟩ = some (.int .i64 n) := by simp [World.cell?, hbox, mk3]
          clear hbox
          have hfacts := own_facts (HRj.out.row.alloc (Obj.cells #[Value.bool false, Value.int IntKind.i64 (-(n : Int)), Value.int IntKind.i64 (n : Int)] 41))
          have HF1 : Hid (o' = none → k + j = 0 ∧ cap' = 0) := hfacts.1
          have HF2 := (show Hid _ from hfacts.2)
          have hmsz := HRj.out.nlt
          have hbAN : bA ≤ N := by omega
          clear hfacts
          by_cases hroom : k + j + 1 ≤ cap'
          · obtain ⟨g, rfl, cur, hcur, hcsz, htk, hmax⟩ := own_room (HRj.out.row.alloc (Obj.cells #[Value.bool false, Value.int IntKind.i64 (-(n : Int)), Value.int IntKind.i64 (n : Int)] 41)) (by omega)
            have HCUR := (show Hid _ from hcur)
            have HTK := (show Hid _ from htk)
            have hs3 : (mk3 n).length = 1 * j0.size := by rw [hy1]; rfl
            have HS3 := (show Hid _ from hs3)
            have HR2 := (show Hid _ from HRj.out.room (ob := Obj.cells #[Value.bool false, Value.int IntKind.i64 (-(n : Int)), Value.int IntKind.i64 (n : Int)] 41) rfl hcur hcsz htk hroom hmax)
            have hfit : (k + j) * j0.size + (mk3 n).length ≤ cur.size := by rw [hy1, hcsz]; show (k + j) * 3 + 3 ≤ _; omega
            have HFIT := (show Hid _ from hfit)
            rw [← hy1] at HR2
            clear hcur htk hs3 hfit
            go_wp2_with (first
              | (at_builtin; refine wpList_append_roomE rfl _ _ 28 rfl 41 j0 Try.underlying28 hj g (k + j) cap' rfl cur HCUR.out ⟨wr.heap.size, 0, none⟩ 1 1 rfl (mk3 n) HS3.out (news_cells wr (mk3 n) 41) (mk3_one n) hroom HFIT.out ?_; generalize ((wr.alloc (Obj.cells #[Value.bool false, Value.int IntKind.i64 (-(n : Int)), Value.int IntKind.i64 (n : Int)] 41)).setRow g (cur.toList.take ((k + j) * j0.size) ++ mk3 n ++ cur.toList.drop ((k + j) * j0.size + (mk3 n).length)).toArray) = w4 at *; have hz4 := HR2.out.nlt)
              | (at_builtin; refine wpList_append_own_at _ rfl _ _ 23 rfl bA 94 i0 (.agg #[.slice none 0 0, .int .i64 0]) 2 32 Try.underlying23 hi hz0 hz1 hz2 rfl (by decide) u0 _ _ rfl (HR2.out.books.row.alloc _) ⟨w4.heap.size, 0, none⟩ 1 1 [.slice (some ⟨g, 0, none⟩) (k + j + 1) cap', .int .i64 n] rfl rfl (news_cells w4 [.slice (some ⟨g, 0, none⟩) (k + j + 1) cap', .int .i64 n] 94) (one2 _ _ _ _) (by unfold maxLen; omega) (by omega) (by simp; omega) ?_; intro va5 w5 hown5 hgrow5 _hnil5 hloc5; clear _hnil5))
            have hR5 := HR2.out.add hn (by omega) hgrow5 hown5 hloc5
            have HR5 := (show Hid _ from hR5)
            clear hR5 hown5 hgrow5 hloc5
            go_roundw
            case rel => exact ⟨j + 1, some ⟨g, 0, none⟩, cap', _, by omega, by go_num, rfl, HR5.out⟩
            case measure => simp [intOf]; omega
          · go_wp2_with (first
              | (at_builtin; refine wpList_append_grows _ rfl _ _ 28 rfl 41 j0 (.agg blankT) 3 24 Try.underlying28 hj hy0 hy1 hy2 rfl (by decide) o' (k + j) cap' (mcs n (k + j)) rfl HF1.out (mcs_len _ _) HF2.out ⟨wr.heap.size, 0, none⟩ 1 1 (mk3 n) rfl rfl (news_cells wr (mk3 n) 41) (mk3_one n) (by omega) (by unfold maxLen; omega) (by omega) ?_; intro v4 w4 hown4 hgrow4; obtain ⟨o2, cap2, rfl⟩ := own_slice' hown4; have HR2 := (show Hid _ from HRj.out.grow hgrow4 (by simpa using hown4)); have hz4 := HR2.out.nlt; clear hown4 hgrow4)
              | (at_builtin; refine wpList_append_own_at _ rfl _ _ 23 rfl bA 94 i0 (.agg #[.slice none 0 0, .int .i64 0]) 2 32 Try.underlying23 hi hz0 hz1 hz2 rfl (by decide) u0 _ _ rfl (HR2.out.books.row.alloc _) ⟨w4.heap.size, 0, none⟩ 1 1 [.slice o2 (k + j + 1) cap2, .int .i64 n] rfl rfl (news_cells w4 [.slice o2 (k + j + 1) cap2, .int .i64 n] 94) (one2 _ _ _ _) (by unfold maxLen; omega) (by omega) (by simp; omega) ?_; intro va5 w5 hown5 hgrow5 _hnil5 hloc5; clear _hnil5))
            have hR5 := HR2.out.add hn (by omega) hgrow5 hown5 hloc5
            have HR5 := (show Hid _ from hR5)
            clear hR5 hown5 hgrow5 hloc5
            go_roundw
            case rel => exact ⟨j + 1, o2, cap2, _, by omega, by go_num, rfl, HR5.out⟩
            case measure => simp [intOf]; omega
        · go_wp2
          go_ret
          have hj' : j = 3 := by omega
          subst hj'
          exact ⟨⟨_, B', rfl, HRj.out.books⟩, HRj.out.below⟩

end Go.Proofs.Ytobniidkkmlilaa
