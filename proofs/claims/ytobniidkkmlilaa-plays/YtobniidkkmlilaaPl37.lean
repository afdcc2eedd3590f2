import Derived.Test.YtobniidkkmlilaaPl36
import Derived.Deep.CutRange
import Derived.Deep.RegionWith

/- The walks over the reference's machine: fresh. -/
namespace Go.Proofs.Ytobniidkkmlilaa
open Go.RowKit Go.Coh

set_option maxRecDepth 100000 in
set_option maxHeartbeats 2000000 in
theorem refFresh_any (b : Nat) (m : RM) (n S W P LS LW LP : Nat) (w : World) (hcf : CfOk m.conf n S W P LS LW LP) (H : RrAt w b m) :
    Calls Try.prog 76 #[.pointer (some ⟨b, 0, none⟩)] w fun e w' => e = .returned (.tuple #[]) ∧ (∃ y, y.blk 0 = b ∧ RmAt w' y m.freshS ∧ ∀ p, 0 < p → p < 4 + 2 * m.cores → w.heap.size ≤ y.blk p) ∧ Upd (blkS b) w w' := by
  obtain ⟨i0, hi, hz0, hz1, hz2⟩ := info_parts infoPC
  have HCF : Hid (CfOk m.conf n S W P LS LW LP) := hcf
  have hb := H.blt
  have hn := hcf.n0
  have HSN : Hid (0 < (newRC S W P).n) := Nat.mul_pos hcf.sS.pos.1 hcf.sW.pos.1
  have t7 := H.there 7 (by omega)
  obtain ⟨v7, c7⟩ := Option.isSome_iff_exists.1 t7.1
  have f7 := t7.2
  rw [Nat.zero_add] at c7 f7
  have HH : Hid (RrAt w b m) := H
  clear H hcf t7
  have hr7 : RrAt (w.setCell ⟨b, 7, none⟩ (.slice none 0 0)) b m := HH.out.of_upd ((Upd.refl (fun k o => k = b ∧ o = 7) w).setCell (fun _ => ⟨rfl, rfl⟩) _) (fun o ho h => by omega)
  have HR7 := (show Hid _ from hr7)
  have HU7 : Hid (Upd (fun k o => k = b ∧ o = 7) w (w.setCell ⟨b, 7, none⟩ (.slice none 0 0))) := (Upd.refl _ w).setCell (fun _ => ⟨rfl, rfl⟩) _
  have HC7 : Hid ((w.setCell ⟨b, 7, none⟩ (.slice none 0 0)).cell? ⟨b, 7, none⟩ = some (.slice none 0 0)) := World.cell?_setCell_same _ _ _ c7
  clear hr7
  go_enter Try.func76, Try.ntmps76
  go_wp2
  generalize w.setCell ⟨b, 7, none⟩ (.slice none 0 0) = w0 at *
  have hsz0 := HU7.out.size
  generalize hN : w.heap.size = N at *
  clear c7 f7
  go_loopw [2] (fun i wr => ∃ (j : Nat) (v : Value) (B G C : Nat → Nat), j ≤ n ∧ i = .int .i64 j ∧ wr.cell? ⟨b, 7, none⟩ = some v ∧ wr.ownsRow N 87 1 v j (pcs B j) ∧ (j = 0 → v = .slice none 0 0) ∧ Made wr N j B G C (newRC S W P) ∧ RrAt wr b m ∧ Upd (fun k o => k = b ∧ o = 7) w wr) (fun i _ => n - (intOf i).toNat)
  case atStart => exact ⟨0, .slice none 0 0, fun _ => 0, fun _ => 0, fun _ => 0, Nat.zero_le _, rfl, HC7.out, World.ownsRow_nil _ _ _ _, fun _ => rfl, ⟨fun i hi => by omega, fun i hi => by omega, fun i hi => by omega, fun i i' hi => by omega, fun i i' hi => by omega, fun i i' hi => by omega⟩, HR7.out, HU7.out⟩
  case round =>
    obtain ⟨j, v, B, G, C, hj, rfl, c7, hown, hnil, hmade, hr, hu⟩ := hrel
    have HO : Hid (wr.ownsRow N 87 1 v j (pcs B j)) := hown
    have HM : Hid (Made wr N j B G C (newRC S W P)) := hmade
    have HR : Hid (RrAt wr b m) := hr
    have HU : Hid (Upd (fun k o => k = b ∧ o = 7) w wr) := hu
    have HNIL : Hid (j = 0 → v = .slice none 0 0) := hnil
    have d0 := hr.conf.c 0 (by omega)
    have d1 := hr.conf.c 1 (by omega)
    have d2 := hr.conf.c 2 (by omega)
    have d3 := hr.conf.c 3 (by omega)
    rw [HCF.out.e0] at d0
    rw [HCF.out.e1] at d1
    rw [HCF.out.e2] at d2
    rw [HCF.out.e3] at d3
    have hszr := hu.size
    have hbr := hr.blt
    clear hown hmade hr hu hnil
    by_cases hlt : j < n
    · go_wp2_with fail
      go_cut [3] from 7 to 41 (fun s3 wx => ∃ b3 g3 cap3, s3 = .pointer (some ⟨b3, 0, none⟩) ∧ ((wr.heap.size ≤ b3 ∧ b3 < wx.heap.size) ∧ (wr.heap.size ≤ g3 ∧ g3 < wx.heap.size)) ∧ RefAt wx b3 g3 cap3 (newRC S W P) ∧ Upd no wr wx)
      case first =>
        go_region_with (go_at_call 43; refine (refEmpty_any S W P S _ rfl HCF.out.sS HCF.out.sW).mono ?_; rintro e1 w3 ⟨⟨b3, g3, cap3, rfl, hb1, hg1, hb2, hg2, hr3⟩, hu3⟩; have HK3 := (show Hid _ from And.intro (And.intro hb1 hb2) (And.intro hg1 hg2)); have HR3 := (show Hid _ from hr3); have hu4 : Upd no wr w3 := ⟨hu3.os, hu3.tape, hu3.output, hu3.size, hu3.cells, hu3.rest⟩; have HU3 := (show Hid _ from hu4); clear hb1 hb2 hg1 hg2 hr3 hu3 hu4)
        all_goals
          go_wp2
          go_meet
          case rel => exact ⟨b3, g3, cap3, rfl, HK3.out, HR3.out, HU3.out⟩
      case rest =>
        obtain ⟨b3, g3, cap3, rfl, hk3, hr3, hu3⟩ := hcut
        have HM3 : Hid (Made wc N (j + 1) (fun i => if i = j then b3 else B i) (fun i => if i = j then g3 else G i) (fun i => if i = j then cap3 else C i) (newRC S W P)) := HM.out.more hu3 hr3 (by omega) hk3.1 hk3.2
        have HO3 : Hid (wc.ownsRow N 87 1 v j (pcs (fun i => if i = j then b3 else B i) j)) := by
          have := own_keep HO.out hu3 (fun _ _ _ h => h)
          rw [pcs_congr (B' := B) j (fun i hi => by rw [if_neg (by omega)])]
          exact this
        have HRC : Hid (RrAt wc b m) := HR.out.of_upd hu3 (fun _ _ h => h)
        have c7c : wc.cell? ⟨b, 7, none⟩ = some v := by rw [hu3.cell hbr (fun h => h)]; exact c7
        have HAP : Hid (∀ g, v.ownBlock = some g → ∀ i, i < j + 1 → (if i = j then b3 else B i) ≠ g ∧ (if i = j then g3 else G i) ≠ g) := row_apart HO3.out HM3.out HSN.out HNIL.out
        have HUC : Hid (Upd (fun k o => k = b ∧ o = 7) w wc) := HU.out.trans (hu3.mono (fun _ _ h => h.elim))
        have hszc := hu3.size
        have hbc : b < wc.heap.size := by omega
        clear hk3 hr3 hu3 c7 d0 d1 d2 d3
        have f7c : wc.frozen? ⟨b, 7, none⟩ = false := HRC.out.bf 7
        generalize hB' : (fun i => if i = j then b3 else B i) = B' at *
        generalize hG' : (fun i => if i = j then g3 else G i) = G' at *
        generalize (fun i => if i = j then cap3 else C i) = C' at *
        have HBJ : Hid (B' j = b3) := by show _ = _; rw [← hB']; simp
        have HAP' : Hid (∀ g, v.ownBlock = some g → ∀ i, i < j + 1 → B' i ≠ g ∧ G' i ≠ g) := by
          intro g hg i hi
          have := HAP.out g hg i hi
          rw [← hB', ← hG']; exact this
        clear HAP hB' hG'
        have KEY : Hid (∀ w5, (wc.alloc (Obj.cells #[Value.pointer (some ⟨b3, 0, none⟩)] 87)).grownBy w5 v.ownBlock → w5.heap[b]? = wc.heap[b]? ∧ (∀ i, i < j + 1 → w5.heap[B' i]? = wc.heap[B' i]? ∧ w5.heap[G' i]? = wc.heap[G' i]?) ∧ wc.heap.size ≤ w5.heap.size) := fun w5 hg => by
          have hs5 := hg.size
          simp at hs5
          have lo := fun k (hk : k < wc.heap.size) (hne : v.ownBlock ≠ some k) => show w5.heap[k]? = wc.heap[k]? by
            rw [hg.block k (by simp; omega) (fun e => hne e.symm), Below.heap_alloc _ _ _ hk]
          refine ⟨lo b hbc (fun e => by have := (HO3.out.lt _ e).1; omega), fun i hi => ?_, by omega⟩
          have hh := HM3.out.hi i hi
          exact ⟨lo _ hh.1 (fun e => (HAP'.out _ e i hi).1 rfl), lo _ hh.2 (fun e => (HAP'.out _ e i hi).2 rfl)⟩
        go_wp2_with (at_builtin; refine wpList_append_own _ rfl _ _ 133 rfl N 87 i0 (.pointer none) 1 8 Try.underlying133 hi hz0 hz1 hz2 rfl (by decide) v _ _ rfl (HO3.out.alloc _) ⟨wc.heap.size, 0, none⟩ 1 1 [.pointer (some ⟨b3, 0, none⟩)] rfl rfl (news_cells wc [.pointer (some ⟨b3, 0, none⟩)] 87) (fun u hu => by simp at hu; subst hu; rfl) (by unfold maxLen; omega) (by omega) (by simp; omega) ?_; intro v' w5 hown' hgrow _hnil; clear _hnil; obtain ⟨o', cap', rfl⟩ := own_slice' hown'; have hcb : w5.cell? ⟨b, 7, none⟩ = some v := (World.cell?_of_block (w := wc) (a := ⟨b, 7, none⟩) (KEY.out w5 hgrow).1).trans c7c; have hfb : w5.frozen? ⟨b, 7, none⟩ = false := (World.frozen?_of_block (w := wc) (a := ⟨b, 7, none⟩) (KEY.out w5 hgrow).1).trans f7c)
        have hk5 := KEY.out w5 hgrow
        have hub : Upd (fun k o => k = b ∧ o = 7) w5 (w5.setCell ⟨b, 7, none⟩ (.slice o' (j + 1) cap')) := (Upd.refl _ w5).setCell (fun _ => ⟨rfl, rfl⟩) _
        have hm5 : Made w5 N (j + 1) B' G' C' (newRC S W P) := HM3.out.of_blocks hk5.2.2 hk5.2.1
        refine ⟨⟨j + 1, .slice o' (j + 1) cap', B', G', C', by omega, by go_num, World.cell?_setCell_same _ _ _ hcb, ?_, fun h => by omega, ?_, ?_, ?_⟩, by simp [intOf]; omega⟩
        · have := ownsRow_setCell_below hown' (a := ⟨b, 7, none⟩) (by show b < N; omega) (.slice o' (j + 1) cap')
          rw [show pcs B' (j + 1) = pcs B' j ++ [.pointer (some ⟨b3, 0, none⟩)] by rw [pcs, HBJ.out]]
          exact this
        · refine hm5.of_upd hub (fun i o hi => ?_)
          have := hm5.lo i hi
          exact ⟨fun h => by omega, fun h => by omega⟩
        · exact (RrAt.of_block HRC.out hk5.1).of_upd hub (fun o ho h => by omega)
        · exact (upd_grown (HUC.out.alloc _) hgrow (fun k hk => by have := (HO3.out.lt _ hk).1; omega)).setCell (fun _ => ⟨rfl, rfl⟩) _
    · have hjn : j = n := by omega
      subst hjn
      obtain ⟨g0, cap0, rfl, hg0, hg1, hgc⟩ := own_ptrs HO.out hn.1
      have HAPG : Hid (∀ i, i < j → B i ≠ g0 ∧ G i ≠ g0) := row_apart HO.out HM.out HSN.out HNIL.out g0 rfl
      have HGC : Hid (∀ i, i < j → wr.cell? ⟨g0, i, none⟩ = some (.pointer (some ⟨B i, 0, none⟩))) := hgc
      have d4 := HR.out.conf.c 4 (by omega)
      have d5 := HR.out.conf.c 5 (by omega)
      have d6 := HR.out.conf.c 6 (by omega)
      rw [HCF.out.e4] at d4
      rw [HCF.out.e5] at d5
      rw [HCF.out.e6] at d6
      have t8 := HR.out.there 8 (by omega)
      rw [Nat.zero_add] at t8
      obtain ⟨v8, c8⟩ := Option.isSome_iff_exists.1 t8.1
      clear hgc d1 d2 d3
      go_upto_region 6 with fail
      go_cut [] from 42 to 60 (fun wx => ∃ b2 g2 cap2, wx.cell? ⟨b, 8, none⟩ = some (.pointer (some ⟨b2, 0, none⟩)) ∧ ((wr.heap.size ≤ b2 ∧ b2 < wx.heap.size) ∧ (wr.heap.size ≤ g2 ∧ g2 < wx.heap.size)) ∧ RefAt wx b2 g2 cap2 (newRC LS LW LP) ∧ Upd (fun k o => k = b ∧ o = 8) wr wx)
      case first =>
        have HFIN : Hid (∀ W1 w3 b3 g3 cap3, Upd no wr W1 → Upd no W1 w3 → RefAt w3 b3 g3 cap3 (newRC LS LW LP) → (W1.heap.size ≤ b3 ∧ b3 < w3.heap.size) ∧ (W1.heap.size ≤ g3 ∧ g3 < w3.heap.size) → w3.cell? ⟨b, 8, none⟩ = some v8 ∧ w3.frozen? ⟨b, 8, none⟩ = false ∧ ∃ b2 g2 cap2, (w3.setCell ⟨b, 8, none⟩ (.pointer (some ⟨b3, 0, none⟩))).cell? ⟨b, 8, none⟩ = some (.pointer (some ⟨b2, 0, none⟩)) ∧ ((wr.heap.size ≤ b2 ∧ b2 < (w3.setCell ⟨b, 8, none⟩ (.pointer (some ⟨b3, 0, none⟩))).heap.size) ∧ (wr.heap.size ≤ g2 ∧ g2 < (w3.setCell ⟨b, 8, none⟩ (.pointer (some ⟨b3, 0, none⟩))).heap.size)) ∧ RefAt (w3.setCell ⟨b, 8, none⟩ (.pointer (some ⟨b3, 0, none⟩))) b2 g2 cap2 (newRC LS LW LP) ∧ Upd (fun k o => k = b ∧ o = 8) wr (w3.setCell ⟨b, 8, none⟩ (.pointer (some ⟨b3, 0, none⟩)))) := by
          intro W1 w3 b3 g3 cap3 u1 u2 hr hk
          have u := u1.trans u2
          have s1 := u1.size
          have e8 : w3.cell? ⟨b, 8, none⟩ = some v8 := by rw [u.cell hbr (fun h => h)]; exact c8
          refine ⟨e8, by rw [u.frozen hbr]; exact t8.2, b3, g3, cap3, World.cell?_setCell_same _ _ _ e8, by simp; omega, RefAt.keepN hr (by omega) (by omega), (u.mono (fun _ _ h => h.elim)).setCell (fun _ => ⟨rfl, rfl⟩) _⟩
        go_region_with (go_at_call 43; refine (refEmpty_any LS LW LP LS _ rfl HCF.out.sLS HCF.out.sLW).mono ?_; rintro e1 w3 ⟨⟨b3, g3, cap3, rfl, hb1, hg1, hb2, hg2, hr3⟩, hu3⟩; have hfin := HFIN.out _ w3 b3 g3 cap3 (by (repeat (first | exact Upd.refl _ _ | apply Upd.drew | apply Upd.alloc))) hu3 hr3 ⟨⟨hb1, hb2⟩, ⟨hg1, hg2⟩⟩; have e8 := hfin.1; have e8f := hfin.2.1; have HG := (show Hid _ from hfin.2.2); clear hfin hb1 hb2 hg1 hg2 hr3 hu3)
        all_goals
          go_wp2
          go_meet
          case rel => exact HG.out
      case rest =>
        obtain ⟨b2, g2, cap2, c8', hk2, hr2, hu2⟩ := hcut
        have c7' : wc.cell? ⟨b, 7, none⟩ = some (.slice (some ⟨g0, 0, none⟩) j cap0) := by rw [hu2.cell hbr (fun h => by omega)]; exact c7
        have hmc : Made wc N j B G C (newRC S W P) := HM.out.of_upd hu2 (fun i o hi => by have := HM.out.lo i hi; exact ⟨fun h => by omega, fun h => by omega⟩)
        obtain ⟨hth1, hth2, hrm, hupd, hlo⟩ := rm_fresh (M := wr.heap.size) (HR.out.of_upd hu2 (fun o ho h => by omega)) HCF.out c7' c8' (fun i hi => by rw [hu2.cell hg1 (fun h => by omega)]; exact HGC.out i hi) hmc hr2 (by omega) ⟨hg0, hg1⟩ HAPG.out HM.out.hi hk2.1 hk2.2
        have HT1 := (show Hid _ from hth1)
        have HT2 := (show Hid _ from hth2)
        have HRM := (show Hid _ from hrm)
        have HLO := (show Hid _ from hlo)
        have HUP : Hid (Upd (blkS b) w ((wc.setCells b 9 (zc 256).toList).setCells b 265 (zc 64).toList)) := ((HU.out.mono (fun _ _ h => h.1)).trans (hu2.mono (fun _ _ h => h.1))).trans hupd
        clear hth1 hth2 hrm hlo hupd c7' c8' hmc hr2 hu2 hk2 c7 c8 t8 d0 d4 d5 d6
        go_upto_region 8 with (refine wpList_store_mid rfl 116 _ _ rfl b 9 (zc 256) ?_ ?_ ?_ ?_ ?_ ?_)
        · rfl
        · exact congrArg Value.agg zero100
        · exact HT1.out
        · rw [zc_size]; exact size100
        · exact zc_one 256
        generalize wc.setCells b 9 (zc 256).toList = w5 at *
        go_wp2_with (refine wpList_store_mid rfl 115 _ _ rfl b 265 (zc 64) ?_ ?_ ?_ ?_ ?_ ?_)
        · rfl
        · kernel_rfl
        · exact HT2.out
        · rw [zc_size]; exact size99
        · exact zc_one 64
        go_end0
        exact ⟨rfl, ⟨_, rfl, HRM.out, HLO.out⟩, HUP.out⟩

end Go.Proofs.Ytobniidkkmlilaa
