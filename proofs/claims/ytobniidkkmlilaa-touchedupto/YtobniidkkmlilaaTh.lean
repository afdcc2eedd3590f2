/- Touches, the program's and the reference's: one specification. -/
import Derived.Test.YtobniidkkmlilaaTe
namespace Go.Proofs.Ytobniidkkmlilaa
open Go.RowKit Go.Coh

/-- what comes of a call: an error and nothing, or a list of L touches -/
def TSpec (p n : Int) (m : Nat) (xs : Nat → Int) (L : Nat) (e : Int) (T : Nat → Tch) : Prop :=
  (errT p n m xs e ∧ L = 0 ∧ e ≠ 0) ∨ ((0 ≤ p ∧ p ≤ 3) ∧ isSz n ∧ m ≤ 200 ∧ (∀ i, i < m → 0 ≤ xs i) ∧ e = 0 ∧ L = m ∧ T = tchRunT p.toNat n.toNat (cutX m xs))

theorem TSpec_total (p n : Int) (m : Nat) (xs : Nat → Int) : ∃ L e T, TSpec p n m xs L e T ∧ L ≤ 200 := by
  rcases err_or p n m xs with ⟨e, he⟩ | ⟨h1, h2, h3, h4⟩
  · refine ⟨0, e, fun _ => ⟨false, 0, 0⟩, .inl ⟨he, rfl, ?_⟩, by omega⟩
    rcases he with ⟨_, rfl⟩ | ⟨_, _, rfl⟩ | ⟨_, _, _, rfl⟩ | ⟨_, _, _, _, rfl⟩ <;> decide
  · exact ⟨m, 0, _, .inr ⟨h1, h2, h3, h4, rfl, rfl, rfl⟩, h3⟩

theorem tch_own {w : World} {g m : Nat} {base : Nat} {c : Array Value} (hg : w.heap[g]? = some (.cells c 41 (0, 0))) (hs : c.size = m * 3) (hb : base ≤ g) (hm : m ≤ 200) :
    w.ownsRow base 41 3 (.slice (some ⟨g, 0, none⟩) m m) m c.toList :=
  ⟨by simp [hs], .inr ⟨g, m, c, rfl, hb, hg, Nat.le_refl _, by unfold maxLen; omega, hs, by rw [List.take_of_length_le (by simp [hs])]⟩⟩

theorem tcs_get (T : Nat → Tch) : ∀ k i, i < k → (tcs T k)[i * 3]? = some (.bool (T i).hit) ∧ (tcs T k)[i * 3 + 1]? = some (.int .i64 (T i).way) ∧ (tcs T k)[i * 3 + 2]? = some (.int .i64 (T i).out)
  | 0, i, h => by omega
  | k + 1, i, h => by
    have hl := tcs_len T k
    unfold tcs
    by_cases e : i = k
    · subst e
      rw [List.getElem?_append_right (by omega), List.getElem?_append_right (by omega), List.getElem?_append_right (by omega), hl]
      refine ⟨?_, ?_, ?_⟩
      · rw [show i * 3 - i * 3 = 0 by omega]; rfl
      · rw [show i * 3 + 1 - i * 3 = 1 by omega]; rfl
      · rw [show i * 3 + 2 - i * 3 = 2 by omega]; rfl
    · rw [List.getElem?_append_left (by omega), List.getElem?_append_left (by omega), List.getElem?_append_left (by omega)]
      exact tcs_get T k i (by omega)

theorem tchF_own {w : World} {base m : Nat} {o : Option Addr} {cap : Nat} {T : Nat → Tch} (h : w.ownsRow base 41 3 (.slice o m cap) m (tcs T m)) : TchF w o m T := fun hm => by
  rcases h.2 with ⟨h1, h2⟩ | ⟨g, cap', cur, hv, _, hg, _, _, _, ht⟩
  · omega
  · injection hv with hv _ _
    subst hv
    refine ⟨g, rfl, (Array.getElem?_eq_some_iff.1 hg).1, fun i hi => ?_⟩
    have key : ∀ x u, x < m * 3 → (tcs T m)[x]? = some u → w.cell? ⟨g, x, none⟩ = some u := fun x u hx hu => by
      rw [cell_of_row w g x cur 41 (0, 0) hg]
      rw [← ht, List.getElem?_take, if_pos hx] at hu
      simpa using hu
    obtain ⟨h1, h2, h3⟩ := tcs_get T m i hi
    exact ⟨key _ _ (by omega) h1, key _ _ (by omega) h2, key _ _ (by omega) h3⟩

theorem Touches_full (p n : Int) (m : Nat) (o : Option Addr) (cap : Nat) (xs : Nat → Int) (w : World) (L : Nat) (e : Int) (T : Nat → Tch) (hs : TSpec p n m xs L e T) (hm : m ≤ 1048576)
    (hv : ∃ a off, o = some ⟨a, off, none⟩ ∧ a < w.heap.size ∧ ∀ i, i < m → w.cell? ⟨a, off + i, none⟩ = some (.int .i64 (xs i))) :
    Calls Try.prog 16 #[.int .i64 p, .int .i64 n, .slice o m cap] w fun e' w' =>
      (∃ o' cap' ys, e' = .returned (.tuple #[.slice o' L cap', .int .i64 e]) ∧ w'.ownsRow w.heap.size 41 3 (.slice o' L cap') L ys ∧ TchF w' o' L T ∧ (e ≠ 0 → o' = none)) ∧ Upd no w w' := by
  rcases hs with ⟨he, rfl, hne⟩ | ⟨h1, h2, h3, h4, rfl, rfl, rfl⟩
  · refine (Touches_err p n m o cap xs w e he (by omega) (fun _ => hv)).mono ?_
    rintro e' w' ⟨rfl, rfl⟩
    exact ⟨⟨none, 0, [], rfl, World.ownsRow_nil _ _ _ _, fun h => by omega, fun _ => rfl⟩, Upd.refl _ _⟩
  · obtain ⟨nk, rfl, hk⟩ := isSz_size h2
    obtain ⟨pk, rfl⟩ : ∃ pk : Nat, p = pk := ⟨p.toNat, by omega⟩
    obtain ⟨a, off, rfl, ha, hx⟩ := hv
    refine (Touches_okO pk nk L _ (cutX L xs) w (by omega) hk h3 (.inr ⟨a, off, cap, rfl, ha, fun i hi => by rw [hx i hi]; unfold cutX; rw [if_pos hi]⟩) (fun i hi => by unfold cutX; rw [if_pos hi]; exact h4 i hi)).mono ?_
    rintro e' w' ⟨⟨g, rfl, hg1, hg2, hT, c, hc1, hc2⟩, hu⟩
    refine ⟨⟨some ⟨g, 0, none⟩, L, c.toList, rfl, tch_own hc1 hc2 hg1 h3, fun _ => ⟨g, rfl, hg2, fun i hi => ?_⟩, fun h => absurd rfl h⟩, hu⟩
    have := hT i hi
    exact ⟨this 0 _ rfl, this 1 _ rfl, this 2 _ rfl⟩

theorem refTouches_full (p n : Int) (m : Nat) (o : Option Addr) (cap : Nat) (xs : Nat → Int) (w : World) (L : Nat) (e : Int) (T : Nat → Tch) (hs : TSpec p n m xs L e T) (hm : m ≤ 1048576) (hx9 : ∀ i, i < m → xs i ≤ 9223372036854775807)
    (hv : 0 < m → ∃ a off, o = some ⟨a, off, none⟩ ∧ a < w.heap.size ∧ ∀ i, i < m → w.cell? ⟨a, off + i, none⟩ = some (.int .i64 (xs i))) :
    Calls Try.prog 17 #[.int .i64 p, .int .i64 n, .slice o m cap] w fun e' w' =>
      (∃ o' cap', e' = .returned (.tuple #[.slice o' L cap', .int .i64 e]) ∧ TchF w' o' L T) ∧ Upd no w w' := by
  rcases hs with ⟨he, rfl, hne⟩ | ⟨h1, h2, h3, h4, rfl, rfl, rfl⟩
  · refine (refTouches_err p n m o cap xs w e he (by omega) hv).mono ?_
    rintro e' w' ⟨rfl, rfl⟩
    exact ⟨⟨none, 0, rfl, fun h => by omega⟩, Upd.refl _ _⟩
  · obtain ⟨nk, rfl, hk⟩ := isSz_size h2
    obtain ⟨pk, rfl⟩ : ∃ pk : Nat, p = pk := ⟨p.toNat, by omega⟩
    refine (refTouches_ok pk nk L o cap xs w (by omega) hk h3 h4 hx9 hv).mono ?_
    rintro e' w' ⟨⟨v, rfl, hown⟩, hu⟩
    obtain ⟨o', cap', rfl⟩ := own_slice' hown
    exact ⟨⟨o', cap', rfl, tchF_own hown⟩, hu⟩

theorem TchF.upd {w w' : World} {o : Option Addr} {m : Nat} {T : Nat → Tch} (h : TchF w o m T) (u : Upd no w w') : TchF w' o m T := fun hm => by
  obtain ⟨g, ho, hg, hc⟩ := h hm
  refine ⟨g, ho, Nat.lt_of_lt_of_le hg u.size, fun i hi => ?_⟩
  obtain ⟨h1, h2, h3⟩ := hc i hi
  exact ⟨by rw [u.cell hg (fun h => h)]; exact h1, by rw [u.cell hg (fun h => h)]; exact h2, by rw [u.cell hg (fun h => h)]; exact h3⟩

theorem BooksAt.upd {w w' : World} {bA K : Nat} {va : Value} {B : Nat → Bk} (h : BooksAt w bA va K B) (u : Upd no w w') : BooksAt w' bA va K B :=
  h.keep u.size (fun g hg => u.block (h.row.lt g hg).2 (fun _ h => h)) (fun _ _ _ _ _ hgl => u.block hgl (fun _ h => h))

end Go.Proofs.Ytobniidkkmlilaa
