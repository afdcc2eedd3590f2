import Derived.Test.YtobniidkkmlilabPk11

/- The walks over the reference's machine: near, loses, written. -/
namespace Go.Proofs.Ytobniidkkmlilab
open Go.RowKit Go.Coh

/-- what may change when the machine does something -/
def rmS (y : Lay) (n : Nat) : Nat → Nat → Prop := fun k _ => ∃ p, p < 4 + 2 * n ∧ k = y.blk p

theorem rmS_ref {y : Lay} {n p q : Nat} (hp : p < 4 + 2 * n) (hq : q < 4 + 2 * n) (k o : Nat) (h : refS (y.blk p) (y.blk q) k o) : rmS y n k o := by
  rcases h with e | e
  · exact ⟨p, hp, e⟩
  · exact ⟨q, hq, e⟩
theorem rmS_0 {y : Lay} {n : Nat} (o : Nat) : rmS y n (y.blk 0) o := ⟨0, by omega, rfl⟩

/-- one more of what is counted -/
def RM.bump (m : RM) (k : Nat) : RM := { m with tally := upd m.tally k (m.tally k + 1) }

theorem RmAt.setTally {w : World} {y : Lay} {m : RM} (h : RmAt w y m) (k : Nat) (hk : k < 10) (v : Int) : RmAt (w.setCell ⟨y.blk 0, 841 + k, none⟩ (.int .i64 v)) y { m with tally := upd m.tally k v } := by
  refine h.set0 (841 + k) v _ ⟨rfl, rfl, rfl, rfl⟩ (by omega) (fun i l hi hl => ?_) (fun j hj => ?_) (fun j hj => ?_) (fun j hj => ?_) (fun j hj => ?_)
  · rw [if_neg (by omega)]
  · rw [if_neg (by omega)]
  · rw [if_neg (by omega)]
  · rw [if_neg (by omega)]
  · show upd m.tally k v j = _
    unfold upd
    by_cases e : j = k
    · rw [if_pos e, if_pos (by omega)]
    · rw [if_neg e, if_neg (by omega)]

def updH (h : Nat → Nat → Int) (i l : Nat) (v : Int) : Nat → Nat → Int := fun a b => if a = i ∧ b = l then v else h a b

theorem RmAt.setHas {w : World} {y : Lay} {m : RM} (h : RmAt w y m) (i l : Nat) (hi : i < 4) (hl : l < 64) (v : Int) : RmAt (w.setCell ⟨y.blk 0, 9 + i * 64 + l, none⟩ (.int .i64 v)) y { m with has := updH m.has i l v } := by
  refine h.set0 (9 + i * 64 + l) v _ ⟨rfl, rfl, rfl, rfl⟩ (by omega) (fun a b ha hb => ?_) (fun j hj => ?_) (fun j hj => ?_) (fun j hj => ?_) (fun j hj => ?_)
  · show updH m.has i l v a b = _
    unfold updH
    by_cases e : a = i ∧ b = l
    · rw [if_pos e, if_pos (by rw [e.1, e.2])]
    · rw [if_neg e, if_neg (by omega)]
  · rw [if_neg (by omega)]
  · rw [if_neg (by omega)]
  · rw [if_neg (by omega)]
  · rw [if_neg (by omega)]

theorem RmAt.setLasts {w : World} {y : Lay} {m : RM} (h : RmAt w y m) (l : Nat) (hl : l < 64) (v : Int) : RmAt (w.setCell ⟨y.blk 0, 265 + l, none⟩ (.int .i64 v)) y { m with lasts := upd m.lasts l v } := by
  refine h.set0 (265 + l) v _ ⟨rfl, rfl, rfl, rfl⟩ (by omega) (fun a b ha hb => ?_) (fun j hj => ?_) (fun j hj => ?_) (fun j hj => ?_) (fun j hj => ?_)
  · rw [if_neg (by omega)]
  · show upd m.lasts l v j = _
    unfold upd
    by_cases e : j = l
    · rw [if_pos e, if_pos (by omega)]
    · rw [if_neg e, if_neg (by omega)]
  · rw [if_neg (by omega)]
  · rw [if_neg (by omega)]
  · rw [if_neg (by omega)]

theorem RmAt.setWord {w : World} {y : Lay} {m : RM} (h : RmAt w y m) (a : Nat) (ha : a < 256) (v : Int) : RmAt (w.setCell ⟨y.blk 0, 329 + a, none⟩ (.int .i64 v)) y { m with words := upd m.words a v } := by
  refine h.set0 (329 + a) v _ ⟨rfl, rfl, rfl, rfl⟩ (by omega) (fun a b ha hb => ?_) (fun j hj => ?_) (fun j hj => ?_) (fun j hj => ?_) (fun j hj => ?_)
  · rw [if_neg (by omega)]
  · rw [if_neg (by omega)]
  · show upd m.words a v j = _
    unfold upd
    by_cases e : j = a
    · rw [if_pos e, if_pos (by omega)]
    · rw [if_neg e, if_neg (by omega)]
  · rw [if_neg (by omega)]
  · rw [if_neg (by omega)]

theorem RmAt.setMem {w : World} {y : Lay} {m : RM} (h : RmAt w y m) (a : Nat) (ha : a < 256) (v : Int) : RmAt (w.setCell ⟨y.blk 0, 585 + a, none⟩ (.int .i64 v)) y { m with mem := upd m.mem a v } := by
  refine h.set0 (585 + a) v _ ⟨rfl, rfl, rfl, rfl⟩ (by omega) (fun a b ha hb => ?_) (fun j hj => ?_) (fun j hj => ?_) (fun j hj => ?_) (fun j hj => ?_)
  · rw [if_neg (by omega)]
  · rw [if_neg (by omega)]
  · rw [if_neg (by omega)]
  · show upd m.mem a v j = _
    unfold upd
    by_cases e : j = a
    · rw [if_pos e, if_pos (by omega)]
    · rw [if_neg e, if_neg (by omega)]
  · rw [if_neg (by omega)]

/-- the numbers of a machine are such as may be; none is over B -/
structure RmOk (m : RM) (B : Int) : Prop where
  c : 0 < m.cores ∧ m.cores ≤ 4
  first : ∀ i, RcOk (m.firsts i)
  far : RcOk m.far
  clocks : ∀ i, (m.firsts i).clock ≤ B
  fills : ∀ i, (m.firsts i).fills ≤ B
  fclock : m.far.clock ≤ B
  ffills : m.far.fills ≤ B
  tally : ∀ k, 0 ≤ m.tally k ∧ m.tally k ≤ B

/-- where the line is found in the first cache -/
def RM.nearS (m : RM) (c : Nat) (x : Int) : RM := match (m.firsts c).find x with
  | some j => RM.bump { m with firsts := updC m.firsts c ((m.firsts c).found ((m.firsts c).lo x + j)) } 2
  | none => m
def RM.nearB (m : RM) (c : Nat) (x : Int) : Bool := ((m.firsts c).find x).isSome

set_option maxRecDepth 100000 in
set_option maxHeartbeats 1000000 in
theorem refNear_any (y : Lay) (m : RM) (c : Nat) (x : Int) (w : World) (hc : c < m.cores) (hx : 0 ≤ x) (hx2 : x < 64) (ok : RmOk m 4611686018427387904) (H : RmAt w y m) :
    Calls Try.prog 68 #[.pointer (some ⟨y.blk 0, 0, none⟩), .int .i64 c, .int .i64 x] w fun e w' => e = .returned (.bool (m.nearB c x)) ∧ RmAt w' y (m.nearS c x) ∧ Upd (rmS y m.cores) w w' := by
  have h1 := H.fs
  have h2 := H.row c hc
  have hc4 := ok.c.2
  have HH : Hid (RmAt w y m) := H
  have HF : Hid (RefAt w (y.blk (4 + 2 * c)) (y.blk (5 + 2 * c)) (y.cc c) (m.firsts c)) := H.first c hc
  have HOK : Hid (RcOk (m.firsts c)) := ok.first c
  have hcl : 0 ≤ (m.firsts c).clock ∧ (m.firsts c).clock ≤ 4611686018427387904 := ⟨(ok.first c).clock, ok.clocks c⟩
  have ht := ok.tally 2
  have HB : Hid (m.nearB c x = ((m.firsts c).find x).isSome) := rfl
  clear H ok
  go_enter Try.func68, Try.ntmps68
  go_wp2_with fail
  refine (refFind_any _ _ _ x (m.firsts c) _ HOK.out hx (by omega) (HF.out)).mono ?_
  rintro e w1 ⟨rfl, q, rfl⟩
  cases hfd : (m.firsts c).find x with
  | none =>
    have HS : Hid (m.nearS c x = m) := by show _ = _; unfold RM.nearS; rw [hfd]
    have HB2 : Hid (m.nearB c x = false) := by show _ = _; rw [HB.out, hfd]; rfl
    clear hfd
    simp only [ofs]
    go_wp2
    go_ret
    exact ⟨by rw [HB2.out]; rfl, by rw [HS.out]; exact HH.out.drewN q, (Upd.refl _ _).drewN q⟩
  | some j =>
    have hj : (m.firsts c).lo x + j < (m.firsts c).n := by
      have := (findN_some.1 hfd).1
      have := HOK.out.lo x
      omega
    have HS : Hid (m.nearS c x = RM.bump { m with firsts := updC m.firsts c ((m.firsts c).found ((m.firsts c).lo x + j)) } 2) := by show _ = _; unfold RM.nearS; rw [hfd]
    have HB2 : Hid (m.nearB c x = true) := by show _ = _; rw [HB.out, hfd]; rfl
    clear hfd
    simp only [ofs]
    generalize hm : (m.firsts c).lo x + j = k at *
    clear hm
    go_wp2_with fail
    refine (refFound_any _ _ _ k (m.firsts c) _ hcl.1 hcl.2 hj (HF.out.drewN q)).mono ?_
    rintro e w2 ⟨rfl, hr, hu⟩
    have HM := (HH.out.drewN q).setFirst hc hr hu
    have h841 := HM.tally.c 2 (by omega)
    have h841f := HM.tally.f 2 (by omega)
    have HM2 : Hid (RmAt w2 y { m with firsts := updC m.firsts c ((m.firsts c).found k) }) := HM
    have HU : Hid (Upd (rmS y m.cores) w w2) := (hu.ofDrewN).mono (fun a b h => rmS_ref (by omega) (by omega) a b h)
    clear hr hu HM
    simp only at h841 h841f
    go_wp2
    go_ret
    refine ⟨by rw [HB2.out]; rfl, ?_, HU.out.setCell (fun _ => rmS_0 _) _⟩
    rw [HS.out]
    exact HM2.out.setTally 2 (by omega) _

end Go.Proofs.Ytobniidkkmlilab

/- The walks over the reference's machine: loses, written. -/
namespace Go.Proofs.Ytobniidkkmlilab
open Go.RowKit Go.Coh

/-- way k is emptied -/
def RC.clear (s : RC) (k : Nat) : RC := { s with L := upd s.L k (-1) }
def RM.late (m : RM) (l : Nat) : RM := { m with lasts := upd m.lasts l 2 }
/-- core c, whose way k has the line l, loses it -/
def RM.losesS (m : RM) (c l k : Nat) : RM :=
  let m1 := if m.has c l = 3 then m.late l else m
  { m1 with firsts := updC m.firsts c (RC.clear (m.firsts c) k), has := updH m.has c l 0 }

/-- the rest of loses, behind what it does to a dirty line -/
theorem losesRest (y : Lay) (m : RM) (c l k : Nat) (w w' : World) (hc : c < m.cores) (hc4 : m.cores ≤ 4) (hl : l < 64) (H : RmAt w y m) (q : Nat)
    (e : w' = ((w.drewN q).setCell ⟨y.blk (5 + 2 * c), k * 3, none⟩ (.int .i64 (-1))).setCell ⟨y.blk 0, 9 + c * 64 + l, none⟩ (.int .i64 0)) :
    RmAt w' y { m with firsts := updC m.firsts c (RC.clear (m.firsts c) k), has := updH m.has c l 0 } ∧ Upd (rmS y m.cores) w w' := by
  subst e
  have h1 := (H.drewN q).first c hc
  have h2 := h1.setL k (-1)
  have u : Upd (refS (y.blk (4 + 2 * c)) (y.blk (5 + 2 * c))) (w.drewN q) ((w.drewN q).setCell ⟨y.blk (5 + 2 * c), k * 3, none⟩ (.int .i64 (-1))) := (Upd.refl _ _).setCell (fun _ => .inr rfl) _
  have h3 := (H.drewN q).setFirst hc h2 u
  exact ⟨h3.setHas c l (by omega) hl 0, ((u.ofDrewN).mono (fun a b h => rmS_ref (by omega) (by omega) a b h)).setCell (fun _ => rmS_0 _) _⟩

set_option maxRecDepth 100000 in
set_option maxHeartbeats 1000000 in
theorem refLoses_any (y : Lay) (m : RM) (c l j : Nat) (w : World) (hc : c < m.cores) (hc4 : m.cores ≤ 4) (hl : l < 64) (ok : RcOk (m.firsts c)) (hj : (m.firsts c).find l = some j) (k : Nat) (hk : k = (m.firsts c).lo l + j) (H : RmAt w y m) :
    Calls Try.prog 71 #[.pointer (some ⟨y.blk 0, 0, none⟩), .int .i64 c, .int .i64 l] w fun e w' => e = .returned (.tuple #[]) ∧ RmAt w' y (m.losesS c l k) ∧ Upd (rmS y m.cores) w w' := by
  have hjn : k < (m.firsts c).n := by
    have := (findN_some.1 hj).1
    have := ok.lo l
    omega
  have hn := ok.n
  have hh := H.has c l (by omega) hl
  have hhf := H.bf (9 + c * 64 + l)
  have h265 := H.lasts.c l hl
  have h265f := H.lasts.f l hl
  have HJ : Hid (ofs ((m.firsts c).lo l) ((m.firsts c).find l) = (k : Int)) := by show _ = _; rw [hj, hk]; rfl
  have HOK : Hid (RcOk (m.firsts c)) := ok
  have HH : Hid (RmAt w y m) := H
  clear hk
  by_cases e3 : m.has c l = 3
  · have HS : Hid (m.losesS c l k = { m.late l with firsts := updC (m.late l).firsts c (RC.clear ((m.late l).firsts c) k), has := updH (m.late l).has c l 0 }) := by
      show _ = _; unfold RM.losesS; simp only [if_pos e3]; rfl
    have HL : Hid (RmAt (w.setCell ⟨y.blk 0, 265 + l, none⟩ (.int .i64 2)) y (m.late l)) := H.setLasts l hl 2
    have g1 := HL.out.fs
    have g2 := HL.out.row c hc
    have g3 := (HL.out.first c hc).c3
    have g4 := (HL.out.first c hc).ln _ hjn
    have g4f := (HL.out.first c hc).gf (k * 3)
    have g5 := HL.out.has c l (by omega) hl
    have g5f := HL.out.bf (9 + c * 64 + l)
    have gne : y.blk 0 ≠ y.blk (5 + 2 * c) := HL.out.bne (p := 5 + 2 * c) (by show _ < 4 + 2 * m.cores; omega) (by omega)
    have HF : Hid (RefAt (w.setCell ⟨y.blk 0, 265 + l, none⟩ (.int .i64 2)) (y.blk (4 + 2 * c)) (y.blk (5 + 2 * c)) (y.cc c) (m.firsts c)) := HL.out.first c hc
    have HU : Hid (Upd (rmS y m.cores) w (w.setCell ⟨y.blk 0, 265 + l, none⟩ (.int .i64 2))) := (Upd.refl _ _).setCell (fun _ => rmS_0 _) _
    clear H ok hj
    rw [e3] at hh
    clear e3
    go_enter Try.func71, Try.ntmps71
    go_wp2_with fail
    refine (refFind_any _ _ _ l (m.firsts c) _ HOK.out (by omega) (by omega) (HF.out)).mono ?_
    rintro e w1 ⟨rfl, q, rfl⟩
    rw [HJ.out]
    generalize hwL : w.setCell ⟨y.blk 0, 265 + l, none⟩ (.int .i64 2) = wL at *
    clear hwL
    go_wp2
    go_end0
    rw [HS.out]
    have R := losesRest y (m.late l) c l k wL _ hc hc4 hl HL.out q rfl
    exact ⟨rfl, R.1, HU.out.trans R.2⟩
  · have HS : Hid (m.losesS c l k = { m with firsts := updC m.firsts c (RC.clear (m.firsts c) k), has := updH m.has c l 0 }) := by
      show _ = _; unfold RM.losesS; simp only [if_neg e3]
    have g1 := H.fs
    have g2 := H.row c hc
    have g3 := (H.first c hc).c3
    have g4 := (H.first c hc).ln _ hjn
    have g4f := (H.first c hc).gf (k * 3)
    have gne : y.blk 0 ≠ y.blk (5 + 2 * c) := H.bne (p := 5 + 2 * c) (by omega) (by omega)
    have HF : Hid (RefAt w (y.blk (4 + 2 * c)) (y.blk (5 + 2 * c)) (y.cc c) (m.firsts c)) := H.first c hc
    have hb : (m.has c l == 3) = false := by simpa using e3
    clear H ok hj e3
    go_enter Try.func71, Try.ntmps71
    go_wp2_with fail
    refine (refFind_any _ _ _ l (m.firsts c) _ HOK.out (by omega) (by omega) (HF.out)).mono ?_
    rintro e w1 ⟨rfl, q, rfl⟩
    rw [HJ.out]
    go_wp2
    go_end0
    rw [HS.out]
    have R := losesRest y m c l k w _ hc hc4 hl HH.out q rfl
    exact ⟨rfl, R.1, R.2⟩

end Go.Proofs.Ytobniidkkmlilab

/- The walks over the reference's machine: written, missed. -/
namespace Go.Proofs.Ytobniidkkmlilab
open Go.RowKit Go.Coh

/-- the first k words of line l are in the memory -/
def memK (m : RM) (l k : Nat) : RM := { m with mem := fun a => if 4 * l ≤ a ∧ a < 4 * l + k then m.words a else m.mem a }
def RM.writtenS (m : RM) (l : Nat) : RM := (memK m l 4).bump 8

theorem memK_zero (m : RM) (l : Nat) : memK m l 0 = m := by
  unfold memK
  have : (fun a => if 4 * l ≤ a ∧ a < 4 * l + 0 then m.words a else m.mem a) = m.mem := by
    funext a; rw [if_neg (by omega)]
  rw [this]

set_option maxRecDepth 100000 in
set_option maxHeartbeats 1000000 in
theorem refWritten_any (y : Lay) (m : RM) (l : Nat) (w : World) (hl : l < 64) (ht : 0 ≤ m.tally 8 ∧ m.tally 8 ≤ 4611686018427387904) (H : RmAt w y m) :
    Calls Try.prog 73 #[.pointer (some ⟨y.blk 0, 0, none⟩), .int .i64 l] w fun e w' => e = .returned (.tuple #[]) ∧ RmAt w' y (m.writtenS l) ∧ Upd (rmS y m.cores) w w' := by
  have HH : Hid (RmAt w y m) := H
  clear H
  go_enter Try.func73, Try.ntmps73
  go_wp2
  go_loopw [4] (fun i wr => ∃ k : Nat, k ≤ 4 ∧ i = .int .i64 k ∧ RmAt wr y (memK m l k) ∧ Upd (rmS y m.cores) w wr) (fun i _ => 4 - (intOf i).toNat)
  case atStart => exact ⟨0, by omega, rfl, by rw [memK_zero]; exact HH.out, Upd.refl _ _⟩
  case round =>
    obtain ⟨k, hk, rfl, hs, hu⟩ := hrel
    have HS : Hid (RmAt wr y (memK m l k)) := hs
    have HU : Hid (Upd (rmS y m.cores) w wr) := hu
    by_cases hlt : k < 4
    · have h1 := hs.words.c (4 * l + k) (by omega)
      have h2 := hs.mem.c (4 * l + k) (by omega)
      have h2f := hs.mem.f (4 * l + k) (by omega)
      change wr.cell? _ = some (.int .i64 (m.words (4 * l + k))) at h1
      have HM : Hid (RmAt (wr.setCell ⟨y.blk 0, 585 + (4 * l + k), none⟩ (.int .i64 (m.words (4 * l + k)))) y (memK m l (k + 1))) := by
        have := hs.setMem (4 * l + k) (by omega) (m.words (4 * l + k))
        have e : ({ memK m l k with mem := upd (memK m l k).mem (4 * l + k) (m.words (4 * l + k)) } : RM) = memK m l (k + 1) := by
          unfold memK
          have : (upd (fun a => if 4 * l ≤ a ∧ a < 4 * l + k then m.words a else m.mem a) (4 * l + k) (m.words (4 * l + k))) = (fun a => if 4 * l ≤ a ∧ a < 4 * l + (k + 1) then m.words a else m.mem a) := by
            funext a
            unfold upd
            by_cases e : a = 4 * l + k
            · rw [if_pos e, if_pos (by omega), e]
            · rw [if_neg e]
              show (if 4 * l ≤ a ∧ a < 4 * l + k then m.words a else m.mem a) = _
              by_cases e2 : 4 * l ≤ a ∧ a < 4 * l + k
              · rw [if_pos e2, if_pos (by omega)]
              · rw [if_neg e2, if_neg (by omega)]
          simp only [this]
        rw [e] at this
        exact this
      clear hs hu
      go_wp2
      go_region
      all_goals go_wp2
      all_goals
        go_roundw
        case rel => exact ⟨k + 1, by omega, by go_num, HM.out.drew, (HU.out.setCell (fun _ => rmS_0 _) _).drew⟩
        case measure => simp [intOf]; omega
    · have hk4 : k = 4 := by omega
      subst hk4
      have h1 := hs.tally.c 8 (by omega)
      have h1f := hs.tally.f 8 (by omega)
      change wr.cell? _ = some (.int .i64 (m.tally 8)) at h1
      clear hs hu
      go_wp2
      go_end0
      exact ⟨rfl, HS.out.setTally 8 (by omega) _, HU.out.setCell (fun _ => rmS_0 _) _⟩

end Go.Proofs.Ytobniidkkmlilab
