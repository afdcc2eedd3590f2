import Derived.Test.YtobniidkkmlilaaPa44
import Derived.Test.YtobniidkkmlilaaPa06

/- Plain: each set of the first cache by itself (Nested). -/
namespace Go.Proofs.Ytobniidkkmlilaa
open Go.RowKit Go.Coh

/-- how many of the first k lines lie in a set -/
def cS (S s : Nat) (xs : Nat → Nat) (k : Nat) : Nat := cnt (fun i => decide (xs i % S = s)) k
/-- the lines of a set, in their order -/
def sel (S s : Nat) (xs : Nat → Nat) : Nat → Nat → Int
  | 0 => fun _ => 0
  | k + 1 => if xs k % S = s then upd (sel S s xs k) (cS S s xs k) (xs k) else sel S s xs k
def dRun (P W S s : Nat) (xs : Nat → Nat) : Nat → St
  | 0 => newS W
  | k + 1 => if xs k % S = s then tchS P W (xs k) (dRun P W S s xs k) else dRun P W S s xs k

section
variable {P W S s K : Nat} {xs : Nat → Nat}
theorem cS_in {k : Nat} (h : xs k % S = s) : cS S s xs (k + 1) = cS S s xs k + 1 := by
  show cnt _ k + (if decide (xs k % S = s) = true then 1 else 0) = _
  rw [if_pos (by simpa using h)]; rfl
theorem cS_out {k : Nat} (h : ¬ xs k % S = s) : cS S s xs (k + 1) = cS S s xs k := by
  show cnt _ k + (if decide (xs k % S = s) = true then 1 else 0) = _
  rw [if_neg (by simpa using h)]; rfl
theorem cS_mono {i k : Nat} (h : i ≤ k) : cS S s xs i ≤ cS S s xs k := by
  induction k with
  | zero => have : i = 0 := by omega
            subst this; exact Nat.le_refl _
  | succ k ih =>
    by_cases e : i = k + 1
    · subst e; exact Nat.le_refl _
    · refine Nat.le_trans (ih (by omega)) ?_
      by_cases q : xs k % S = s
      · rw [cS_in q]; omega
      · rw [cS_out q]; omega
theorem cS_le (k : Nat) : cS S s xs k ≤ k := by
  induction k with
  | zero => exact Nat.le_refl _
  | succ k ih =>
    by_cases q : xs k % S = s
    · rw [cS_in q]; omega
    · rw [cS_out q]; omega
theorem sel_at {i : Nat} (hs : xs i % S = s) : ∀ {k : Nat}, i < k → sel S s xs k (cS S s xs i) = xs i := by
  intro k
  induction k with
  | zero => intro h; omega
  | succ k ih =>
    intro h
    unfold sel
    by_cases e : i = k
    · subst e; rw [if_pos hs]; unfold upd; rw [if_pos rfl]
    · by_cases q : xs k % S = s
      · rw [if_pos q]
        have h1 : cS S s xs i + 1 ≤ cS S s xs k := by rw [← cS_in hs]; exact cS_mono (by omega)
        unfold upd; rw [if_neg (by omega)]; exact ih (by omega)
      · rw [if_neg q]; exact ih (by omega)
theorem dRun_eq : ∀ {k : Nat}, k ≤ K → dRun P W S s xs k = tchRun P W (sel S s xs K) (cS S s xs k) := by
  intro k
  induction k with
  | zero => intro _; rfl
  | succ k ih =>
    intro h
    unfold dRun
    by_cases q : xs k % S = s
    · rw [if_pos q, cS_in q, ih (by omega)]
      show _ = tchS P W (sel S s xs K (cS S s xs k)) _
      rw [sel_at q (by omega)]
    · rw [if_neg q, cS_out q, ih (by omega)]

theorem tchS_dim (r : RC) (x : Int) : SD r (r.tchS x) := by
  unfold RC.tchS
  split
  · exact ⟨rfl, rfl, rfl⟩
  · exact (SD.roomS _ _).trans (SD.put _ _ _)
theorem fc_dim (xs : Nat → Nat) : ∀ k, SD (newRC S W P) (fcRun (newRC S W P) xs k)
  | 0 => SD.refl _
  | k + 1 => (fc_dim xs k).trans (tchS_dim _ _)
theorem fc_dim' (xs : Nat → Nat) (k : Nat) : (fcRun (newRC S W P) xs k).S = S ∧ (fcRun (newRC S W P) xs k).W = W ∧ (fcRun (newRC S W P) xs k).P = P := fc_dim xs k
theorem put_fills {r : RC} {k : Nat} {x : Int} (h : r.as x ≠ 3) : (r.put k x).fills = r.fills := by
  unfold RC.put
  rw [if_neg h]; rfl
theorem as_P {r : RC} (h : r.P ≤ 1) (x : Int) : r.as x = r.P := by
  unfold RC.as asP; rw [if_pos (by omega)]
theorem tchS_fills {r : RC} (h : r.P ≤ 1) (x : Int) : (r.tchS x).fills = r.fills := by
  unfold RC.tchS
  split
  · rfl
  · have hr := roomS_L r x
    have := SD.roomS r x
    rw [put_fills (by rw [as_P (by rw [this.2.2]; exact h), this.2.2]; omega)]
    exact hr.2.2.2.2.2.2.1
theorem lo_nat {r : RC} (e1 : r.S = S) (e2 : r.W = W) (x : Nat) : r.lo x = (x % S) * W := by
  unfold RC.lo; rw [e1, e2]; congr 1

theorem lo_run (hP : P ≤ 1) (hS : Size S) (hW : Size W) (xs : Nat → Nat) : ∀ k s, s < S → LoRel (s * W) W (dRun P W S s xs k) (fcRun (newRC S W P) xs k)
  | 0, s, _ => ⟨rfl, SetRel.new (s * W) W, rfl, Int.le_refl _, Int.le_refl _⟩
  | k + 1, s, hs => by
    have ih := lo_run hP hS hW xs k
    obtain ⟨d1, d2, d3⟩ := fc_dim' (S := S) (W := W) (P := P) xs k
    have hSp := hS.pos
    have hx : xs k % S < S := Nat.mod_lt _ hSp.1
    have st := (ih (xs k % S) hx).step (x := (xs k : Int)) (p := P) (lo_nat d1 d2 (xs k)) (by rw [as_P (by rw [d3]; exact hP)]; exact d3) hW
    show LoRel (s * W) W (if xs k % S = s then _ else _) ((fcRun (newRC S W P) xs k).tchS (xs k))
    by_cases q : xs k % S = s
    · rw [if_pos q]
      have := st.2.2.1
      rw [q] at this
      exact this
    · rw [if_neg q]
      have w := st.2.2.2
      have h0 := ih s hs
      have ha : ∀ j, j < W → ¬ (xs k % S * W ≤ s * W + j ∧ s * W + j < xs k % S * W + W) := fun j hj => apart_sets (fun e => q e.symm) hj
      refine ⟨w.W.trans h0.W, h0.set.other (fun j hj => w.L _ (ha j hj)) (fun j hj => w.T _ (ha j hj)) (fun j hj => w.R _ (ha j hj)) w.k, ?_, Int.le_trans h0.f w.f, Int.le_trans h0.k w.k⟩
      rw [tchS_fills (by rw [d3]; exact hP)]; exact h0.c

theorem tchT_hit (r : RC) (x : Int) : (r.tchT x).hit = (r.find x).isSome := by
  unfold RC.tchT; split
  · rename_i e; rw [e]; rfl
  · rename_i e; rw [e]; rfl
/-- a touch of the cache is one of the set by itself -/
theorem set_step (hP : P ≤ 1) (hS : Size S) (hW : Size W) {k : Nat} (hk : k < K) (hs : xs k % S = s) :
    ((fcRun (newRC S W P) xs k).find (xs k)).isSome = (tchRunT P W (sel S s xs K) (cS S s xs k)).hit ∧ ((fcRun (newRC S W P) xs k).tchT (xs k)).out = (tchRunT P W (sel S s xs K) (cS S s xs k)).out := by
  have hSp := hS.pos
  have hx : s < S := by rw [← hs]; exact Nat.mod_lt _ hSp.1
  obtain ⟨d1, d2, d3⟩ := fc_dim' (S := S) (W := W) (P := P) xs k
  have st := (lo_run hP hS hW xs k s hx).step (x := (xs k : Int)) (p := P) (by rw [lo_nat d1 d2 (xs k), hs]) (by rw [as_P (by rw [d3]; exact hP)]; exact d3) hW
  unfold tchRunT
  rw [sel_at hs hk, ← dRun_eq (Nat.le_of_lt hk)]
  exact ⟨by rw [← tchT_hit]; exact st.1, st.2.1⟩

theorem hs_step {r : RC} (ok : RcOk r) (ln : LnOk r) {x y : Nat} (hx : x < 64) : Hs (r.tchS x) y ↔ ((Hs r y ∨ x = y) ∧ (r.tchT x).out ≠ y) := by
  unfold RC.tchS RC.tchT
  cases e : r.find x with
  | some j =>
    show Hs (r.found (r.lo x + j)) y ↔ _ ∧ (-1 : Int) ≠ y
    rw [show Hs (r.found (r.lo x + j)) (y : Int) ↔ Hs r y from Hs.congr rfl rfl rfl]
    have hx' : Hs r x := find_isSome.1 (by rw [e]; rfl)
    constructor
    · intro h; exact ⟨.inl h, by omega⟩
    · rintro ⟨h | h, _⟩
      · exact h
      · rw [← h]; exact hx'
  | none =>
    show Hs ((r.roomS x).put (r.roomW x) x) y ↔ _ ∧ r.roomOut x ≠ y
    have hno := find_none.1 e
    obtain ⟨j, hj, e1, e2⟩ := room_in ok x
    have hr := roomS_L r x
    have hp := put_L (r.roomS x) (r.roomW x) x
    obtain ⟨_, l2⟩ := put_ln (s' := (r.roomS x).put (r.roomW x) x) ln ok (hp.2.1.trans hr.2.1) (hp.2.2.1.trans hr.2.2.1) hj (by rw [hp.1, hr.1, e1]) (by omega) (by omega) hno
    rw [l2 y (by omega), ← e2]
    constructor
    · rintro (h | ⟨h, h'⟩)
      · have : x = y := by omega
        subst this
        refine ⟨.inr rfl, fun q => hno ⟨j, hj, by rw [← e2]; exact q⟩⟩
      · exact ⟨.inl h, fun q => h' q.symm⟩
    · rintro ⟨h | h, h'⟩
      · exact .inr ⟨h, fun q => h' q.symm⟩
      · exact .inl (by omega)

/-- is the line in the set? as the touches tell it -/
def inR (ys : Nat → Int) (T : Nat → Tch) (n : Int) : Nat → Bool
  | 0 => false
  | j + 1 => (inR ys T n j || (ys j == n)) && (T j).out != n

theorem in_eq (hP : P ≤ 1) (hS : Size S) (hW : Size W) (hx : ∀ i, xs i < 64) (hok : ∀ k, k ≤ K → RcOk (fcRun (newRC S W P) xs k) ∧ LnOk (fcRun (newRC S W P) xs k)) {n : Nat} (hn : n % S = s) :
    ∀ k, k ≤ K → (inR (sel S s xs K) (tchRunT P W (sel S s xs K)) n (cS S s xs k) = true ↔ Hs (fcRun (newRC S W P) xs k) n)
  | 0, _ => by
    show (false = true ↔ _)
    refine ⟨fun h => (by cases h), ?_⟩
    rintro ⟨j, _, e⟩
    have : (-1 : Int) = n := e
    omega
  | k + 1, hk => by
    have ih := in_eq hP hS hW hx hok hn k (by omega)
    obtain ⟨o1, o2⟩ := hok k (by omega)
    show _ ↔ Hs ((fcRun (newRC S W P) xs k).tchS (xs k)) n
    rw [hs_step o1 o2 (hx k)]
    by_cases q : xs k % S = s
    · rw [cS_in q]
      unfold inR
      rw [(set_step (K := K) hP hS hW (by omega) q).2, sel_at q (by omega)]
      simp only [Bool.and_eq_true, Bool.or_eq_true, bne_iff_ne, beq_iff_eq, ih]
      constructor
      · rintro ⟨h | h, h'⟩
        · exact ⟨.inl h, h'⟩
        · exact ⟨.inr (by omega), h'⟩
      · rintro ⟨h | h, h'⟩
        · exact ⟨.inl h, h'⟩
        · exact ⟨.inr (by omega), h'⟩
    · rw [cS_out q, ih]
      have hne : xs k ≠ n := fun e => q (by rw [e]; exact hn)
      have hout : ((fcRun (newRC S W P) xs k).tchT (xs k)).out ≠ n := by
        unfold RC.tchT
        split
        · show (-1 : Int) ≠ n; omega
        · show (fcRun (newRC S W P) xs k).roomOut (xs k) ≠ n
          obtain ⟨d1, d2, d3⟩ := fc_dim' (S := S) (W := W) (P := P) xs k
          obtain ⟨j, hj, e1, e2⟩ := room_in o1 (xs k)
          have hSp := hS.pos
          have hr := o2.rg (xs k % S) j (by rw [d1]; exact Nat.mod_lt _ hSp.1) hj
          rw [e2, lo_nat d1 d2]
          rw [d2] at hr
          intro q2
          rw [q2] at hr
          rcases hr with h | ⟨_, _, h⟩
          · omega
          · rw [d1] at h
            have h2 : ((n : Int) % (S : Int)).toNat = n % S := by rw [← Int.natCast_emod]; rfl
            have h3 : ((n : Int) % (S : Int)).toNat = xs k % S := h
            rw [h2, hn] at h3
            exact q h3.symm
      constructor
      · intro h; exact ⟨.inl h, hout⟩
      · rintro ⟨h | h, _⟩
        · exact h
        · exact absurd h hne
end

end Go.Proofs.Ytobniidkkmlilaa

/- The walks over package coherentkeep: before. -/
namespace Go.Proofs.Ytobniidkkmlilaa
open Go.RowKit Go.Coh

def bef (xs : Nat → Int) (x : Int) : Nat → Bool
  | 0 => false
  | k + 1 => bef xs x k || xs k == x
theorem bef_iff (xs : Nat → Int) (x : Int) : ∀ k, bef xs x k = true ↔ ∃ i, i < k ∧ xs i = x
  | 0 => ⟨fun h => (by cases h), fun ⟨i, hi, _⟩ => by omega⟩
  | k + 1 => by
    show (bef xs x k || xs k == x) = true ↔ _
    rw [Bool.or_eq_true, bef_iff xs x k, beq_iff_eq]
    constructor
    · rintro (⟨i, hi, e⟩ | e)
      · exact ⟨i, by omega, e⟩
      · exact ⟨k, by omega, e⟩
    · rintro ⟨i, hi, e⟩
      by_cases q : i = k
      · subst q; exact .inr e
      · exact .inl ⟨i, by omega, e⟩

set_option maxRecDepth 100000 in
set_option maxHeartbeats 1000000 in
theorem before_any (a off cap m i : Nat) (xs : Nat → Int) (w : World) (hi : i < m) (hm : m ≤ 200) (hx : ∀ i, i < m → w.cell? ⟨a, off + i, none⟩ = some (.int .i64 (xs i))) :
    Calls Try.prog 64 #[.slice (some ⟨a, off, none⟩) m cap, .int .i64 i] w fun e w' => e = .returned (.bool (bef xs (xs i) i)) ∧ Upd no w w' := by
  have HX := (show Hid _ from hx)
  clear hx
  go_enter Try.func64, Try.ntmps64
  go_wp2
  go_loopw [5] (fun iv wr => ∃ k : Nat, k ≤ i ∧ iv = .int .i64 k ∧ bef xs (xs i) k = false ∧ (∀ j, j < m → wr.cell? ⟨a, off + j, none⟩ = some (.int .i64 (xs j))) ∧ Upd no w wr) (fun iv _ => i - (intOf iv).toNat)
  case atStart => exact ⟨0, Nat.zero_le _, rfl, rfl, HX.out, Upd.refl _ _⟩
  case round =>
    obtain ⟨k, hk, rfl, hb, hx, hu⟩ := hrel
    have HB := (show Hid _ from hb)
    have HXR := (show Hid _ from hx)
    have HU := (show Hid _ from hu)
    have ci := hx i hi
    by_cases hlt : k < i
    · have ck := hx k (by omega)
      clear hb hx hu
      by_cases e : xs k = xs i
      · have HR : Hid (bef xs (xs i) i = true) := (bef_iff xs (xs i) i).2 ⟨k, hlt, e⟩
        rw [e] at ck
        clear e
        go_wp2
        go_quiet (fail)
        go_wp2
        go_ret
        exact ⟨by rw [HR.out]; rfl, HU.out.drewN _⟩
      · have he : (xs k == xs i) = false := by simpa using e
        have HN : Hid (bef xs (xs i) (k + 1) = false) := by
          show (bef xs (xs i) k || xs k == xs i) = false
          rw [HB.out, he]; rfl
        go_wp2
        go_quiet (fail)
        go_wp2
        go_roundw
        case rel => exact ⟨k + 1, by omega, by go_num, HN.out, fun j hj => HXR.out j hj, HU.out.drewN _⟩
        case measure => simp [intOf]; omega
    · have hki : k = i := by omega
      subst hki
      clear hb hx hu
      go_wp2
      go_ret
      exact ⟨by rw [HB.out]; rfl, HU.out⟩

end Go.Proofs.Ytobniidkkmlilaa
