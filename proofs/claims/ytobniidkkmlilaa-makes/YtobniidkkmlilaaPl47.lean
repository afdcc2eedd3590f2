import Derived.Test.YtobniidkkmlilaaPl46
import Derived.Maps.AppendAt

/- The walks over package coherentlaw: holds. -/
namespace Go.Proofs.Ytobniidkkmlilaa
open Go.RowKit Go.Coh

set_option maxHeartbeats 1000000 in
theorem lawPick_any (c : Int) (n : Nat) (w : World) (hc : -9223372036854775808 ≤ c) (hc2 : c ≤ 9223372036854775807) (hn : 0 < n) (hn2 : n ≤ 1466015503701) :
    Calls Try.prog 51 #[.int .i64 c, .int .i64 n] w fun e w' => (∃ p : Nat, p < n ∧ e = .returned (.int .i64 p)) ∧ w' = w := by
  by_cases h : c < 0
  · have HP : Hid (∃ p : Nat, p < n ∧ (-(c + 1)) % (n : Int) = p) := by
      have h1 := Int.emod_nonneg (-(c + 1)) (show (n : Int) ≠ 0 by omega)
      have h2 := Int.emod_lt_of_pos (-(c + 1)) (show (0 : Int) < n by omega)
      exact ⟨((-(c + 1)) % (n : Int)).toNat, by omega, by omega⟩
    go_enter Try.func51, Try.ntmps51
    go_wp2
    go_ret
    obtain ⟨p, hp, e⟩ := HP.out
    exact ⟨⟨p, hp, ret_int (by rw [← Int.neg_tmod, Int.tmod_eq_emod_of_nonneg (by omega)]; exact e)⟩, rfl⟩
  · have HP : Hid (∃ p : Nat, p < n ∧ c % (n : Int) = p) := by
      have h1 := Int.emod_nonneg c (show (n : Int) ≠ 0 by omega)
      have h2 := Int.emod_lt_of_pos c (show (0 : Int) < n by omega)
      exact ⟨(c % (n : Int)).toNat, by omega, by omega⟩
    go_enter Try.func51, Try.ntmps51
    go_wp2
    go_ret
    obtain ⟨p, hp, e⟩ := HP.out
    exact ⟨⟨p, hp, ret_int e⟩, rfl⟩

theorem infoPR : (Try.prog.info? 102).map (fun i => (i.zero, i.size, i.bytes)) = some (some (.agg #[.pointer none, .pointer none]), 2, 16) := by kernel_rfl

/-- New of both -/
theorem prC_one (o : Option PD) : ∀ u ∈ (prC o).toList, u.oneCell' = true := by
  intro u hu
  cases o with
  | none => simp [prC] at hu; subst hu; rfl
  | some x => simp [prC] at hu; rcases hu with rfl | rfl <;> rfl

/-- an op in memory -/
def OpAt (w : World) (a off : Nat) (i : Nat) (os : Nat → Nat → Int) : Prop := ∀ j, j < 12 → w.cell? ⟨a, off + i * 12 + j, none⟩ = some (.int .i64 (os i j))

theorem Upd.own {w w1 w2 : World} {x : PD} (h : Upd no w w1) (g : Upd (ownS x) w1 w2) (hl : ∀ k, ownP x k → w.heap.size ≤ k) : Upd no w w2 :=
  ((h.mono (S' := ownS x) (fun _ _ e => e.elim)).trans g).shrink (fun k o hk hs => by have := hl k hs; omega)

theorem LAt.slice {w : World} {N q : Nat} {v : Value} {d : Nat → Option PD} {B : Int} {eqs : Prop} (h : LAt w N v q d B eqs) : ∃ o cap, v = .slice o q cap := own_slice' h.row

set_option maxRecDepth 100000 in
set_option maxHeartbeats 4000000 in
theorem holds_any (M : Nat) (oS : Option Addr) (capS : Nat) (os : Nat → Nat → Int) (held : Int) (stores : Bool) (w : World) (hM : M ≤ 1466015503701)
    (hc : 0 < M → ∃ a off, oS = some ⟨a, off, none⟩ ∧ a < w.heap.size ∧ ∀ i, i < M → OpAt w a off i os) (hr : ∀ i, i < M → -9223372036854775808 ≤ os i 1 ∧ os i 1 ≤ 9223372036854775807) :
    Calls Try.prog 27 #[.slice oS M capS, .int .i64 held, .bool stores] w fun e w' => e = .returned (.bool true) ∧ Upd no w w' := by
  obtain ⟨i0, hi, hz0, hz1, hz2⟩ := info_parts infoPR
  have HC := (show Hid _ from hc)
  have HR := (show Hid _ from hr)
  obtain ⟨eqs, heqs⟩ : ∃ P : Prop, P := ⟨True, trivial⟩
  have HQS : Hid eqs := heqs
  clear heqs
  clear hc hr
  go_enter Try.func27, Try.ntmps27
  go_wp2_with fail
  go_loopw [7, 8] (fun vl i wr => ∃ (k q : Nat) (d : Nat → Option PD), k ≤ M ∧ i = .int .i64 k ∧ q ≤ k ∧ LAt wr w.heap.size vl q d (128 * (k : Int)) eqs ∧ Upd no w wr) (fun _ i _ => M - (intOf i).toNat)
  case atStart => exact ⟨0, 0, fun _ => none, Nat.zero_le _, rfl, Nat.le_refl _, ⟨World.ownsRow_nil _ _ _ _, ⟨fun p x hp => by omega, fun p x k hp => by omega, fun p p' x x' k hp => by omega⟩, fun g p x _ hp => by omega, fun _ p x hp => by omega, Nat.le_refl _⟩, Upd.refl _ _⟩
  case round =>
    obtain ⟨k, q, d, hk, rfl, hq, hL, hU⟩ := hrel
    obtain ⟨oA, capA, rfl⟩ := LAt.slice hL
    have HL : Hid (LAt wr w.heap.size (.slice oA q capA) q d (128 * (k : Int)) eqs) := hL
    have HU : Hid (Upd no w wr) := hU
    have hsz := hL.N
    by_cases hlt : k < M
    · obtain ⟨a, off, rfl, ha, hcells⟩ := HC.out (by omega)
      have hop := hcells k hlt
      have hrk := HR.out k hlt
      have keep : ∀ o, wr.cell? ⟨a, o, none⟩ = w.cell? ⟨a, o, none⟩ := fun o => hU.cell ha (fun h => h)
      have c0 := (keep _).trans (hop 0 (by omega))
      simp only [Nat.add_zero] at c0
      have c1 := (keep _).trans (hop 1 (by omega))
      have c2 := (keep _).trans (hop 2 (by omega))
      have c3 := (keep _).trans (hop 3 (by omega))
      have c4 := (keep _).trans (hop 4 (by omega))
      have c5 := (keep _).trans (hop 5 (by omega))
      have c6 := (keep _).trans (hop 6 (by omega))
      have c7 := (keep _).trans (hop 7 (by omega))
      have c8 := (keep _).trans (hop 8 (by omega))
      have c9 := (keep _).trans (hop 9 (by omega))
      have c10 := (keep _).trans (hop 10 (by omega))
      have c11 := (keep _).trans (hop 11 (by omega))
      clear hcells hop keep hL hU
      generalize os k = o at *
      obtain ⟨cf, hcf⟩ : ∃ cf : Nat → Int, cf = fun j => o (5 + j) := ⟨_, rfl⟩
      have f0 : o 5 = cf 0 := by rw [hcf]
      have f1 : o 6 = cf 1 := by rw [hcf]
      have f2 : o 7 = cf 2 := by rw [hcf]
      have f3 : o 8 = cf 3 := by rw [hcf]
      have f4 : o 9 = cf 4 := by rw [hcf]
      have f5 : o 10 = cf 5 := by rw [hcf]
      have f6 : o 11 = cf 6 := by rw [hcf]
      rw [f0] at c5
      rw [f1] at c6
      rw [f2] at c7
      rw [f3] at c8
      rw [f4] at c9
      rw [f5] at c10
      rw [f6] at c11
      generalize o 0 = kd at *
      generalize o 1 = mm at *
      generalize o 2 = aa at *
      generalize o 3 = bb at *
      generalize o 4 = cc at *
      clear f0 f1 f2 f3 f4 f5 f6 hcf o
      have HLN : Hid (LAt wr w.heap.size (.slice oA q capA) q d (128 * ((k + 1 : Nat) : Int)) eqs) := HL.out.mono (by omega)
      have HUA : Hid (Upd no wr (wr.alloc (.cells #[.int .i64 kd, .int .i64 mm, .int .i64 aa, .int .i64 bb, .int .i64 cc, .int .i64 (cf 0), .int .i64 (cf 1), .int .i64 (cf 2), .int .i64 (cf 3), .int .i64 (cf 4), .int .i64 (cf 5), .int .i64 (cf 6)] 97))) := (Upd.refl no wr).alloc _
      by_cases k4 : kd = 4 ∧ stores = false
      · obtain ⟨rfl, rfl⟩ := k4
        go_wp2
        go_roundw
        case rel => exact ⟨k + 1, q, d, by omega, by go_num, by omega, HLN.out.of_upd HUA.out, HU.out.alloc _⟩
        case measure => simp [intOf]; omega
      · by_cases k1 : kd = 1
        · subst k1
          clear k4
          have HPV : Hid (∀ W, Upd no wr W → LAt W w.heap.size (.slice oA q capA) q d (128 * ((k + 1 : Nat) : Int)) eqs ∧ Upd no w W) := fun W u => ⟨HLN.out.of_upd u, HU.out.trans u⟩
          clear HLN HUA
          by_cases he : checkE cf = 0
          · have HE : Hid (checkE cf = 0) := he
            clear he
            go_wp2_with fail
            refine (pNew_good cf _ HE.out).mono ?_
            rintro e w2 ⟨⟨b2, rfl, hb2, hp2⟩, u2⟩
            have hbk := heap_alloc_new wr (.cells #[.int .i64 1, .int .i64 mm, .int .i64 aa, .int .i64 bb, .int .i64 cc, .int .i64 (cf 0), .int .i64 (cf 1), .int .i64 (cf 2), .int .i64 (cf 3), .int .i64 (cf 4), .int .i64 (cf 5), .int .i64 (cf 6)] 97)
            rw [← u2.block (by simp) (fun _ h => h)] at hbk
            have hz2' : wr.heap.size < w2.heap.size := (Array.getElem?_eq_some_iff.1 hbk).1
            have hb2' : wr.heap.size ≤ b2 := by simp at hb2; omega
            have e5 : w2.cell? ⟨wr.heap.size, 5, none⟩ = some (.int .i64 (cf 0)) := by simp [World.cell?, hbk]
            have e6 : w2.cell? ⟨wr.heap.size, 6, none⟩ = some (.int .i64 (cf 1)) := by simp [World.cell?, hbk]
            have e7 : w2.cell? ⟨wr.heap.size, 7, none⟩ = some (.int .i64 (cf 2)) := by simp [World.cell?, hbk]
            have e8 : w2.cell? ⟨wr.heap.size, 8, none⟩ = some (.int .i64 (cf 3)) := by simp [World.cell?, hbk]
            have e9 : w2.cell? ⟨wr.heap.size, 9, none⟩ = some (.int .i64 (cf 4)) := by simp [World.cell?, hbk]
            have e10 : w2.cell? ⟨wr.heap.size, 10, none⟩ = some (.int .i64 (cf 5)) := by simp [World.cell?, hbk]
            have e11 : w2.cell? ⟨wr.heap.size, 11, none⟩ = some (.int .i64 (cf 6)) := by simp [World.cell?, hbk]
            have HU2 : Hid (Upd no wr w2) := ((Upd.refl no wr).alloc _).trans u2
            have HP2 : Hid (PmAt w2 b2 (newM cf).freshS) := hp2
            clear u2 hp2 hbk hb2 c0 c1 c2 c3 c4 c5 c6 c7 c8 c9 c10 c11
            go_wp2_with fail
            refine (refNew_good cf _ HE.out).mono ?_
            rintro e w3 ⟨⟨y3, rfl, hy3, hr3⟩, u3⟩
            have hpb := HP2.out.blt
            have hx3 : PairAt w3 ⟨b2, y3, (newM cf).freshS, (newM cf).freshS⟩ (128 * ((k + 1 : Nat) : Int)) := by
              have hi := (newM_inv HE.out).mono (B' := 128 * ((k + 1 : Nat) : Int)) (by omega)
              exact ⟨HP2.out.of_upd u3 (fun _ h => h), hr3, hi, hi, newM_cinv HE.out, rfl, fun p hp e => by have h1 : b2 = y3.blk p := e; have := hy3 p hp; omega⟩
            have HX3 : Hid (∀ x, (some ⟨b2, y3, (newM cf).freshS, (newM cf).freshS⟩ : Option PD) = some x → PairAt w3 x (128 * ((k + 1 : Nat) : Int)) ∧ (∀ k, ownP x k → wr.heap.size ≤ k) ∧ x.r1 = x.r2) := by
              intro x hx
              injection hx with hx
              subst hx
              refine ⟨hx3, fun k hk => ?_, rfl⟩
              rcases hk with e | ⟨p, hp, e⟩
              · have : k = b2 := e; omega
              · have h1 : k = y3.blk p := e; have := hy3 p hp; omega
            have HU3 : Hid (Upd no wr w3) := HU2.out.trans u3
            have hz3 := HU3.out.size
            clear u3 hr3 hy3 hx3 e5 e6 e7 e8 e9 e10 e11
            generalize hyb : y3.blk 0 = yb at *
            go_wp2_with (at_builtin; refine wpList_append_own_at _ rfl _ _ 95 rfl w.heap.size 102 i0 (.agg #[.pointer none, .pointer none]) 2 16 Try.underlying95 hi hz0 hz1 hz2 rfl (by decide) (.slice oA q capA) _ _ rfl ((HPV.out w3 HU3.out).1.row.alloc _) ⟨w3.heap.size, 0, none⟩ 1 1 [.pointer (some ⟨b2, 0, none⟩), .pointer (some ⟨yb, 0, none⟩)] rfl rfl (news_cells w3 [.pointer (some ⟨b2, 0, none⟩), .pointer (some ⟨yb, 0, none⟩)] 102) (fun u hu => by simp at hu; rcases hu with rfl | rfl <;> rfl) (by unfold maxLen; omega) (by omega) (by simp; omega) ?_; intro v' w5 hown' hgrow _hnil hblk; clear _hnil; obtain ⟨o', cap', rfl⟩ := own_slice' hown')
            refine ⟨⟨k + 1, q + 1, updD d q (some ⟨b2, y3, (newM cf).freshS, (newM cf).freshS⟩), by omega, by go_num, by omega, ?_, ?_⟩, by simp [intOf]; omega⟩
            · refine (HPV.out wr (Upd.refl _ _)).1.more HU3.out _ HX3.out hgrow ?_ hblk
              show w5.ownsRow _ _ _ _ _ (prs d q ++ [.pointer (some ⟨b2, 0, none⟩), .pointer (some ⟨y3.blk 0, 0, none⟩)])
              rw [hyb]; exact hown'
            · exact upd_grown ((HU.out.trans HU3.out).alloc _) hgrow (fun j hj => (HL.out.row.lt _ hj).1)
          · obtain ⟨E, hE⟩ : ∃ E, checkE cf = E := ⟨_, rfl⟩
            have HEE : Hid (checkE cf = E) := hE
            have HE : Hid (checkE cf ≠ 0) := he
            clear he hE
            go_wp2_with fail
            refine (pNew_bad cf _ HE.out).mono ?_
            rintro e w2 ⟨rfl, u2⟩
            rw [HEE.out]
            have hbk := heap_alloc_new wr (.cells #[.int .i64 1, .int .i64 mm, .int .i64 aa, .int .i64 bb, .int .i64 cc, .int .i64 (cf 0), .int .i64 (cf 1), .int .i64 (cf 2), .int .i64 (cf 3), .int .i64 (cf 4), .int .i64 (cf 5), .int .i64 (cf 6)] 97)
            rw [← u2.block (by simp) (fun _ h => h)] at hbk
            have hz2' : wr.heap.size < w2.heap.size := (Array.getElem?_eq_some_iff.1 hbk).1
            have e5 : w2.cell? ⟨wr.heap.size, 5, none⟩ = some (.int .i64 (cf 0)) := by simp [World.cell?, hbk]
            have e6 : w2.cell? ⟨wr.heap.size, 6, none⟩ = some (.int .i64 (cf 1)) := by simp [World.cell?, hbk]
            have e7 : w2.cell? ⟨wr.heap.size, 7, none⟩ = some (.int .i64 (cf 2)) := by simp [World.cell?, hbk]
            have e8 : w2.cell? ⟨wr.heap.size, 8, none⟩ = some (.int .i64 (cf 3)) := by simp [World.cell?, hbk]
            have e9 : w2.cell? ⟨wr.heap.size, 9, none⟩ = some (.int .i64 (cf 4)) := by simp [World.cell?, hbk]
            have e10 : w2.cell? ⟨wr.heap.size, 10, none⟩ = some (.int .i64 (cf 5)) := by simp [World.cell?, hbk]
            have e11 : w2.cell? ⟨wr.heap.size, 11, none⟩ = some (.int .i64 (cf 6)) := by simp [World.cell?, hbk]
            have HU2 : Hid (Upd no wr w2) := ((Upd.refl no wr).alloc _).trans u2
            clear u2 hbk c0 c1 c2 c3 c4 c5 c6 c7 c8 c9 c10 c11
            go_wp2_with fail
            refine (refNew_bad cf _ HE.out).mono ?_
            rintro e w3 ⟨rfl, u3⟩
            rw [HEE.out]
            have HU3 : Hid (Upd no wr w3) := HU2.out.trans u3
            have hz3 := HU3.out.size
            have HX3 : Hid (∀ x, (none : Option PD) = some x → PairAt w3 x (128 * ((k + 1 : Nat) : Int)) ∧ (∀ k, ownP x k → wr.heap.size ≤ k) ∧ x.r1 = x.r2) := fun x hx => by cases hx
            clear u3 e5 e6 e7 e8 e9 e10 e11
            go_wp2_with (at_builtin; refine wpList_append_own_at _ rfl _ _ 95 rfl w.heap.size 102 i0 (.agg #[.pointer none, .pointer none]) 2 16 Try.underlying95 hi hz0 hz1 hz2 rfl (by decide) (.slice oA q capA) _ _ rfl ((HPV.out w3 HU3.out).1.row.alloc _) ⟨w3.heap.size, 0, none⟩ 1 1 [.pointer none, .pointer none] rfl rfl (news_cells w3 [.pointer none, .pointer none] 102) (fun u hu => by simp at hu; subst hu; rfl) (by unfold maxLen; omega) (by omega) (by simp; omega) ?_; intro v' w5 hown' hgrow _hnil hblk; clear _hnil; obtain ⟨o', cap', rfl⟩ := own_slice' hown')
            refine ⟨⟨k + 1, q + 1, updD d q none, by omega, by go_num, by omega, ?_, ?_⟩, by simp [intOf]; omega⟩
            · exact (HPV.out wr (Upd.refl _ _)).1.more HU3.out none HX3.out hgrow hown' hblk
            · exact upd_grown ((HU.out.trans HU3.out).alloc _) hgrow (fun j hj => (HL.out.row.lt _ hj).1)
        · have b1 : (kd == 1) = false := by simpa using k1
          by_cases k2 : kd = 2
          · subst k2
            have HPV : Hid (∀ W, Upd no wr W → LAt W w.heap.size (.slice oA q capA) q d (128 * ((k + 1 : Nat) : Int)) eqs ∧ Upd no w W) := fun W u => ⟨HLN.out.of_upd u, HU.out.trans u⟩
            obtain ⟨E, hE⟩ : ∃ E, checkE cf = E := ⟨_, rfl⟩
            have HEE : Hid (checkE cf = E) := hE
            clear k4 k1 HLN HUA hE
            go_wp2_with fail
            refine (pCheck_any cf _).mono ?_
            rintro e w2 ⟨rfl, u2⟩
            rw [HEE.out]
            have hbk := heap_alloc_new wr (.cells #[.int .i64 2, .int .i64 mm, .int .i64 aa, .int .i64 bb, .int .i64 cc, .int .i64 (cf 0), .int .i64 (cf 1), .int .i64 (cf 2), .int .i64 (cf 3), .int .i64 (cf 4), .int .i64 (cf 5), .int .i64 (cf 6)] 97)
            rw [← u2.block (by simp) (fun _ h => h)] at hbk
            have hz2' : wr.heap.size < w2.heap.size := (Array.getElem?_eq_some_iff.1 hbk).1
            have e5 : w2.cell? ⟨wr.heap.size, 5, none⟩ = some (.int .i64 (cf 0)) := by simp [World.cell?, hbk]
            have e6 : w2.cell? ⟨wr.heap.size, 6, none⟩ = some (.int .i64 (cf 1)) := by simp [World.cell?, hbk]
            have e7 : w2.cell? ⟨wr.heap.size, 7, none⟩ = some (.int .i64 (cf 2)) := by simp [World.cell?, hbk]
            have e8 : w2.cell? ⟨wr.heap.size, 8, none⟩ = some (.int .i64 (cf 3)) := by simp [World.cell?, hbk]
            have e9 : w2.cell? ⟨wr.heap.size, 9, none⟩ = some (.int .i64 (cf 4)) := by simp [World.cell?, hbk]
            have e10 : w2.cell? ⟨wr.heap.size, 10, none⟩ = some (.int .i64 (cf 5)) := by simp [World.cell?, hbk]
            have e11 : w2.cell? ⟨wr.heap.size, 11, none⟩ = some (.int .i64 (cf 6)) := by simp [World.cell?, hbk]
            have HU2 : Hid (Upd no wr w2) := ((Upd.refl no wr).alloc _).trans u2
            clear u2 hbk c0 c1 c2 c3 c4 c5 c6 c7 c8 c9 c10 c11
            go_wp2_with fail
            refine (refCheck_any cf _).mono ?_
            rintro e w3 ⟨rfl, u3⟩
            rw [HEE.out]
            have HU3 : Hid (Upd no wr w3) := HU2.out.trans u3
            clear u3 e5 e6 e7 e8 e9 e10 e11
            go_wp2
            go_roundw
            case rel => exact ⟨k + 1, q, d, by omega, by go_num, by omega, (HPV.out w3 HU3.out).1, (HPV.out w3 HU3.out).2⟩
            case measure => simp [intOf]; omega
          · have b2 : (kd == 2) = false := by simpa using k2
            have HK4 : Hid (¬ (kd = 4 ∧ stores = false)) := k4
            by_cases e4 : kd = 4
            · subst e4
              have hst : stores = true := by
                cases stores with
                | true => rfl
                | false => exact absurd ⟨rfl, rfl⟩ k4
              clear k1 k2 k4 b1 b2
              subst hst
              by_cases hq0 : q = 0
              · subst hq0
                go_wp2
                go_roundw
                case rel => exact ⟨k + 1, 0, d, by omega, by go_num, by omega, HLN.out.of_upd HUA.out, HU.out.alloc _⟩
                case measure => simp [intOf]; omega
              · obtain ⟨g, cap, hv, hgN, hgz, hgc⟩ := HL.out.cells (by omega)
                injection hv with hv1 _ hv3
                subst hv1
                subst hv3
                have HGC : Hid (∀ p j, p < q → j < 2 → wr.cell? ⟨g, p * 2 + j, none⟩ = (prC (d p)).toList[j]?) := hgc
                clear hgc
                go_wp2_with fail
                refine (lawPick_any mm q _ hrk.1 hrk.2 (by omega) (by omega)).mono ?_
                rintro e w2 ⟨⟨p, hp, rfl⟩, rfl⟩
                have g0 := HGC.out p 0 hp (by omega)
                have g1 := HGC.out p 1 hp (by omega)
                simp only [Nat.add_zero] at g0
                cases hd : d p with
                | none =>
                  rw [hd] at g0 g1
                  change wr.cell? _ = some (.pointer none) at g0
                  change wr.cell? _ = some (.pointer none) at g1
                  clear hd c0 c1 c2 c3 c4 c5 c6 c7 c8 c9 c10 c11
                  go_wp2_with fail
                  refine (does_nil 4 mm aa bb cc cf _).mono ?_
                  rintro e w4 ⟨qq, rfl, hqq, u4⟩
                  have HU4 : Hid (Upd no wr w4) := (((Upd.refl no wr).alloc _).alloc _).trans u4
                  clear u4 hqq g0 g1
                  go_wp2
                  go_roundw
                  case rel => exact ⟨k + 1, q, d, by omega, by go_num, by omega, HLN.out.of_upd HU4.out, HU.out.trans HU4.out⟩
                  case measure => simp [intOf]; omega
                | some x =>
                  have HD : Hid (d p = some x) := hd
                  rw [hd] at g0 g1
                  change wr.cell? _ = some (.pointer (some ⟨x.b, 0, none⟩)) at g0
                  change wr.cell? _ = some (.pointer (some ⟨x.y.blk 0, 0, none⟩)) at g1
                  have HPA : Hid (∀ W, Upd no wr W → PairAt W x (128 * (k : Int))) := fun W u => (HL.out.pairs.at_ p x hp hd).of_upd u (fun _ _ _ e => e)
                  have HLO : Hid (∀ j, ownP x j → w.heap.size ≤ j) := fun j hj => HL.out.pairs.lo p x j hp hd hj
                  clear hd c0 c1 c2 c3 c4 c5 c6 c7 c8 c9 c10 c11
                  go_wp2_with fail
                  refine (does_any x 4 mm aa bb cc (128 * (k : Int)) cf _ (by omega) (HPA.out _ (by (repeat (first | exact Upd.refl _ _ | apply Upd.drew | apply Upd.alloc))))).mono ?_
                  rintro e w4 ⟨ok, qq, x', rfl, hqq, ha, hg, heq⟩
                  have hok := (heq (HL.out.eq HQS.out p x hp HD.out)).1
                  have HX : Hid (x.r1 = x.r2) := HL.out.eq HQS.out p x hp HD.out
                  have hu0 : Upd no wr ((wr.alloc (.cells #[.int .i64 4, .int .i64 mm, .int .i64 aa, .int .i64 bb, .int .i64 cc, .int .i64 (cf 0), .int .i64 (cf 1), .int .i64 (cf 2), .int .i64 (cf 3), .int .i64 (cf 4), .int .i64 (cf 5), .int .i64 (cf 6)] 97)).alloc (.cells #[.pointer (some ⟨x.b, 0, none⟩), .pointer (some ⟨x.y.blk 0, 0, none⟩)] 102)) := ((Upd.refl no wr).alloc _).alloc _
                  have HL4 : Hid (LAt w4 w.heap.size (.slice (some ⟨g, 0, none⟩) q capA) q (updD d p (some x')) (128 * ((k + 1 : Nat) : Int)) eqs) := by
                    refine (HL.out.of_upd hu0).step (B' := 128 * ((k + 1 : Nat) : Int)) hp HD.out (by omega) hg (ha.mono (by omega)) (fun _ hx => (heq hx).2)
                  have HU4 : Hid (Upd no w w4) := Upd.own (HU.out.trans hu0) hg.u HLO.out
                  have HQQ : Hid (WhichOk qq) := hqq
                  subst hok
                  clear ha hg heq hu0 hqq g0 g1
                  · skip
                    go_wp2
                    go_roundw
                    case rel => exact ⟨k + 1, q, updD d p (some x'), by omega, by go_num, by omega, HL4.out, HU4.out⟩
                    case measure => simp [intOf]; omega

            · have b4 : (kd == 4) = false := by simpa using e4
              clear k1 k2 k4 e4
              by_cases hq0 : q = 0
              · subst hq0
                go_wp2
                go_roundw
                case rel => exact ⟨k + 1, 0, d, by omega, by go_num, by omega, HLN.out.of_upd HUA.out, HU.out.alloc _⟩
                case measure => simp [intOf]; omega
              · obtain ⟨g, cap, hv, hgN, hgz, hgc⟩ := HL.out.cells (by omega)
                injection hv with hv1 _ hv3
                subst hv1
                subst hv3
                have HGC : Hid (∀ p j, p < q → j < 2 → wr.cell? ⟨g, p * 2 + j, none⟩ = (prC (d p)).toList[j]?) := hgc
                clear hgc
                go_wp2_with fail
                refine (lawPick_any mm q _ hrk.1 hrk.2 (by omega) (by omega)).mono ?_
                rintro e w2 ⟨⟨p, hp, rfl⟩, rfl⟩
                have g0 := HGC.out p 0 hp (by omega)
                have g1 := HGC.out p 1 hp (by omega)
                simp only [Nat.add_zero] at g0
                cases hd : d p with
                | none =>
                  rw [hd] at g0 g1
                  change wr.cell? _ = some (.pointer none) at g0
                  change wr.cell? _ = some (.pointer none) at g1
                  clear hd c0 c1 c2 c3 c4 c5 c6 c7 c8 c9 c10 c11
                  go_wp2_with fail
                  refine (does_nil kd mm aa bb cc cf _).mono ?_
                  rintro e w4 ⟨qq, rfl, hqq, u4⟩
                  have HU4 : Hid (Upd no wr w4) := (((Upd.refl no wr).alloc _).alloc _).trans u4
                  clear u4 hqq g0 g1
                  go_wp2
                  go_roundw
                  case rel => exact ⟨k + 1, q, d, by omega, by go_num, by omega, HLN.out.of_upd HU4.out, HU.out.trans HU4.out⟩
                  case measure => simp [intOf]; omega
                | some x =>
                  have HD : Hid (d p = some x) := hd
                  rw [hd] at g0 g1
                  change wr.cell? _ = some (.pointer (some ⟨x.b, 0, none⟩)) at g0
                  change wr.cell? _ = some (.pointer (some ⟨x.y.blk 0, 0, none⟩)) at g1
                  have HPA : Hid (∀ W, Upd no wr W → PairAt W x (128 * (k : Int))) := fun W u => (HL.out.pairs.at_ p x hp hd).of_upd u (fun _ _ _ e => e)
                  have HLO : Hid (∀ j, ownP x j → w.heap.size ≤ j) := fun j hj => HL.out.pairs.lo p x j hp hd hj
                  clear hd c0 c1 c2 c3 c4 c5 c6 c7 c8 c9 c10 c11
                  go_wp2_with fail
                  refine (does_any x kd mm aa bb cc (128 * (k : Int)) cf _ (by omega) (HPA.out _ (by (repeat (first | exact Upd.refl _ _ | apply Upd.drew | apply Upd.alloc))))).mono ?_
                  rintro e w4 ⟨ok, qq, x', rfl, hqq, ha, hg, heq⟩
                  have hok := (heq (HL.out.eq HQS.out p x hp HD.out)).1
                  have HX : Hid (x.r1 = x.r2) := HL.out.eq HQS.out p x hp HD.out
                  have hu0 : Upd no wr ((wr.alloc (.cells #[.int .i64 kd, .int .i64 mm, .int .i64 aa, .int .i64 bb, .int .i64 cc, .int .i64 (cf 0), .int .i64 (cf 1), .int .i64 (cf 2), .int .i64 (cf 3), .int .i64 (cf 4), .int .i64 (cf 5), .int .i64 (cf 6)] 97)).alloc (.cells #[.pointer (some ⟨x.b, 0, none⟩), .pointer (some ⟨x.y.blk 0, 0, none⟩)] 102)) := ((Upd.refl no wr).alloc _).alloc _
                  have HL4 : Hid (LAt w4 w.heap.size (.slice (some ⟨g, 0, none⟩) q capA) q (updD d p (some x')) (128 * ((k + 1 : Nat) : Int)) eqs) := by
                    refine (HL.out.of_upd hu0).step (B' := 128 * ((k + 1 : Nat) : Int)) hp HD.out (by omega) hg (ha.mono (by omega)) (fun _ hx => (heq hx).2)
                  have HU4 : Hid (Upd no w w4) := Upd.own (HU.out.trans hu0) hg.u HLO.out
                  have HQQ : Hid (WhichOk qq) := hqq
                  subst hok
                  clear ha hg heq hu0 hqq g0 g1
                  · skip
                    go_wp2
                    go_roundw
                    case rel => exact ⟨k + 1, q, updD d p (some x'), by omega, by go_num, by omega, HL4.out, HU4.out⟩
                    case measure => simp [intOf]; omega

    · go_wp2
      go_ret
      exact ⟨rfl, HU.out⟩

end Go.Proofs.Ytobniidkkmlilaa
