/- What a greedy choice leaves room for: sums over a list, and the fold of the feeders as a set. -/
import Derived.Test.YtbeemfkndpandaaDoorShedT
namespace Go.Proofs.YtbeemfkndpandaaDoor
open Go Go.RowKit
def sumQ (q : Nat → Bool) (lo : Nat → Int) : List Nat → Int
  | [] => 0
  | x :: L => (if q x then lo x else 0) + sumQ q lo L
theorem sumQ_perm {q : Nat → Bool} {lo : Nat → Int} {L M : List Nat} (h : L.Perm M) : sumQ q lo L = sumQ q lo M := by
  induction h with
  | nil => rfl
  | cons x _ ih => unfold sumQ; rw [ih]
  | swap x y l => simp only [sumQ]; exact Int.add_left_comm _ _ _
  | trans _ _ h1 h2 => exact h1.trans h2
theorem sumQ_congr {q q' : Nat → Bool} {lo : Nat → Int} : ∀ (L : List Nat), (∀ x ∈ L, q x = q' x) → sumQ q lo L = sumQ q' lo L
  | [], _ => rfl
  | x :: L, h => by unfold sumQ; rw [h x (by simp), sumQ_congr L fun y hy => h y (by simp [hy])]
theorem sumQ_append {q : Nat → Bool} {lo : Nat → Int} (M : List Nat) : ∀ (L : List Nat), sumQ q lo (L ++ M) = sumQ q lo L + sumQ q lo M
  | [] => by simp [sumQ]
  | x :: L => by
    show (if q x then lo x else 0) + sumQ q lo (L ++ M) = (if q x then lo x else 0) + sumQ q lo L + sumQ q lo M
    rw [sumQ_append M L]; omega
theorem sumQ_none {q : Nat → Bool} {lo : Nat → Int} : ∀ (L : List Nat), (∀ x ∈ L, q x = false) → sumQ q lo L = 0
  | [], _ => rfl
  | x :: L, h => by unfold sumQ; rw [h x (by simp), sumQ_none L fun y hy => h y (by simp [hy])]; rfl
theorem sumQ_range {q : Nat → Bool} {lo : Nat → Int} (n : Nat) : sumQ q lo (List.range n) = loadN q lo n := by
  induction n with
  | zero => rfl
  | succ n ih =>
    rw [List.range_succ, sumQ_append, ih]
    show loadN q lo n + ((if q n then lo n else 0) + 0) = if q n then loadN q lo n + lo n else loadN q lo n
    split <;> omega
theorem fold_sum (ok : Nat → Bool) (lo : Nat → Int) : ∀ (L : List Nat), L.Nodup → ∀ (r : Int) (S : Nat → Bool), (∀ x ∈ L, ok x = true → S x = false) →
    (L.foldl (stS ok lo) (r, S)).1 = r - sumQ (fun x => ok x && (L.foldl (stS ok lo) (r, S)).2 x) lo L ∧ (∀ j, j ∉ L ∨ ok j = false → (L.foldl (stS ok lo) (r, S)).2 j = S j) ∧ (0 ≤ r → 0 ≤ (L.foldl (stS ok lo) (r, S)).1)
  | [], _, r, S, _ => ⟨by simp [sumQ], fun _ _ => rfl, id⟩
  | x :: L, hd, r, S, h => by
    obtain ⟨hx, hL⟩ := List.nodup_cons.1 hd
    simp only [List.foldl_cons]
    by_cases q : (ok x && decide (lo x ≤ r)) = true
    · have q1 := q
      simp only [Bool.and_eq_true, decide_eq_true_eq] at q1
      have e : stS ok lo (r, S) x = (r - lo x, fun j => S j || decide (j = x)) := by unfold stS; rw [if_pos q]
      rw [e]
      obtain ⟨h1, h2, h3⟩ := fold_sum ok lo L hL (r - lo x) (fun j => S j || decide (j = x)) (fun y hy hk => by
        have : y ≠ x := fun e => hx (e ▸ hy)
        simp [h y (by simp [hy]) hk, this])
      refine ⟨?_, fun j hj => ?_, fun h0 => h3 (by omega)⟩
      · have hxx := h2 x (.inl hx)
        simp only [decide_true, Bool.or_true] at hxx
        generalize (L.foldl (stS ok lo) (r - lo x, fun j => S j || decide (j = x))) = st at *
        show st.1 = r - ((if ok x && st.2 x then lo x else 0) + sumQ (fun x => ok x && st.2 x) lo L)
        rw [q1.1, hxx, h1]; simp; omega
      · have hj' : j ≠ x := by
          rcases hj with hj | hj
          · exact fun e => hj (by simp [e])
          · intro e; rw [e, q1.1] at hj; cases hj
        rw [h2 j (hj.imp (fun a b => a (by simp [b])) id)]
        simp [hj']
    · have e : stS ok lo (r, S) x = (r, S) := by unfold stS; rw [if_neg q]
      rw [e]
      obtain ⟨h1, h2, h3⟩ := fold_sum ok lo L hL r S (fun y hy hk => h y (by simp [hy]) hk)
      refine ⟨?_, fun j hj => h2 j (hj.imp (fun a b => a (by simp [b])) id), h3⟩
      have hxx := h2 x (.inl hx)
      have hz : (ok x && (L.foldl (stS ok lo) (r, S)).2 x) = false := by
        rw [hxx]
        cases ek : ok x with
        | false => rfl
        | true => rw [h x (by simp) ek]; rfl
      generalize (L.foldl (stS ok lo) (r, S)) = st at *
      show st.1 = r - ((if ok x && st.2 x then lo x else 0) + sumQ (fun x => ok x && st.2 x) lo L)
      rw [hz, h1]; simp
theorem fold_left (ok : Nat → Bool) (lo : Nat → Int) (A B : List Nat) (f : Nat) (hd : (A ++ f :: B).Nodup) (r : Int) (S : Nat → Bool) (h : ∀ x ∈ A ++ f :: B, ok x = true → S x = false)
    (hf : ok f = true) (hn : ((A ++ f :: B).foldl (stS ok lo) (r, S)).2 f = false) : r - sumQ (fun x => ok x && ((A ++ f :: B).foldl (stS ok lo) (r, S)).2 x) lo A < lo f := by
  obtain ⟨dA, dB, dAB⟩ := List.nodup_append.1 hd
  rw [List.foldl_append] at hn ⊢
  obtain ⟨a1, a2, _⟩ := fold_sum ok lo A dA r S (fun x hx => h x (by simp [hx]))
  have hAB : ∀ x ∈ f :: B, x ∉ A := fun x hx hA => dAB x hA x hx rfl
  generalize A.foldl (stS ok lo) (r, S) = sA at *
  have b := fold_sum ok lo (f :: B) dB sA.1 sA.2 (fun x hx hk => by
    rw [a2 x (.inl (hAB x hx))]; exact h x (by simp at hx ⊢; exact .inr hx) hk)
  have b2 := b.2.1
  rw [sumQ_congr (q' := fun x => ok x && sA.2 x) A (fun x hx => by rw [b2 x (.inl fun hb => hAB x hb hx)]), ← a1]
  refine Int.not_le.1 fun hl => ?_
  have hg := fold_grow ok lo B (stS ok lo sA f) f (by unfold stS; rw [if_pos (by rw [hf]; simp [hl])]; simp)
  rw [List.foldl_cons, hg] at hn
  cases hn
theorem want_off (ok : Nat → Nat → Bool) (lo : Nat → Int) (mo : Nat → Int) (L : List Nat) (s x : Nat) (h : ∀ t, t < s → ok t x = false) : wantS ok lo mo L s x = false := by
  induction s with
  | zero => rfl
  | succ s ih =>
    cases e : wantS ok lo mo L (s + 1) x with
    | false => rfl
    | true =>
      rcases fold_ok (ok s) lo L _ _ x e with h1 | h1
      · rw [ih fun t ht => h t (by omega)] at h1; cases h1
      · rw [h s (by omega)] at h1; cases h1
theorem want_stay (ok : Nat → Nat → Bool) (lo : Nat → Int) (mo : Nat → Int) (L : List Nat) (hL : L.Nodup) (uq : ∀ t s x, ok t x = true → ok s x = true → t = s) (s x : Nat) (hx : ok s x = true) (d : Nat) : wantS ok lo mo L (s + 1 + d) x = wantS ok lo mo L (s + 1) x := by
  have off : ∀ t, t ≠ s → ok t x = false := fun t ht => by
    cases e : ok t x with
    | false => rfl
    | true => exact absurd (uq t s x e hx) ht
  induction d with
  | zero => rfl
  | succ d ih =>
    rw [← ih]
    refine (fold_sum (ok (s + 1 + d)) lo L hL (mo (s + 1 + d)) (wantS ok lo mo L (s + 1 + d)) (fun y hy hk => ?_)).2.1 x (.inr (off _ (by omega)))
    refine want_off ok lo mo L _ y fun t ht => ?_
    cases e : ok t y with
    | false => rfl
    | true => exact absurd (uq t _ y e hk) (by omega)
/-- What a source feeds keeps its most. -/
theorem want_room (ok : Nat → Nat → Bool) (lo : Nat → Int) (mo : Nat → Int) (L : List Nat) (hL : L.Nodup) (uq : ∀ t s x, ok t x = true → ok s x = true → t = s) (s : Nat) (hs : s < 4) (hm : 0 ≤ mo s) :
    sumQ (fun x => ok s x && wantS ok lo mo L 4 x) lo L ≤ mo s ∧
    ∀ A f B, L = A ++ f :: B → ok s f = true → wantS ok lo mo L 4 f = false → mo s - sumQ (fun x => ok s x && wantS ok lo mo L 4 x) lo A < lo f := by
  obtain ⟨d, hd⟩ : ∃ d, 4 = s + 1 + d := ⟨3 - s, by omega⟩
  have key : ∀ x, (ok s x && wantS ok lo mo L 4 x) = (ok s x && (L.foldl (stS (ok s) lo) (mo s, wantS ok lo mo L s)).2 x) := fun x => by
    cases e : ok s x with
    | false => rfl
    | true => rw [hd, want_stay ok lo mo L hL uq s x e d]; rfl
  have off : ∀ x ∈ L, ok s x = true → wantS ok lo mo L s x = false := fun y _ hk => want_off ok lo mo L s y fun t ht => by
    cases e : ok t y with
    | false => rfl
    | true => exact absurd (uq t _ y e hk) (by omega)
  constructor
  · rw [sumQ_congr L fun x _ => key x]
    obtain ⟨h1, _, h3⟩ := fold_sum (ok s) lo L hL (mo s) (wantS ok lo mo L s) off
    have := h3 hm
    omega
  · intro A f B e hf hn
    rw [sumQ_congr A fun x _ => key x]
    have kf := key f
    rw [hf, hn] at kf
    simp only [Bool.true_and] at kf
    generalize hS : wantS ok lo mo L s = S0 at *
    clear hS
    subst e
    exact fold_left (ok s) lo A B f hL (mo s) _ off hf kf.symm
theorem ord_perm (k : Int) (n : Nat) (hn : n ≤ 6) : (ordL (prioI k) n).Perm (List.range n) := by
  rw [prioR]
  have h0 : 0 ≤ k / 120 % 4 := by omega
  have h3 : k / 120 % 4 < 4 := by omega
  generalize k / 120 % 4 = r at *
  rcases (show r = 0 ∨ r = 1 ∨ r = 2 ∨ r = 3 by omega) with rfl | rfl | rfl | rfl
  all_goals
    rcases (show n = 0 ∨ n = 1 ∨ n = 2 ∨ n = 3 ∨ n = 4 ∨ n = 5 ∨ n = 6 by omega) with rfl | rfl | rfl | rfl | rfl | rfl | rfl <;> decide +kernel
/-- Who is fed ahead of whom. -/
def dearB (pr : Nat → Int) (f x : Nat) : Bool := decide (pr x < pr f) || (decide (pr x = pr f) && decide (x < f))
theorem ord_split (k : Int) (n : Nat) (hn : n ≤ 6) : ∀ f, f < n → ∃ A B, ordL (prioI k) n = A ++ f :: B ∧ (∀ x ∈ A, dearB (prioI k) f x = true) ∧ (∀ x ∈ f :: B, dearB (prioI k) f x = false) := by
  intro f hf
  refine ⟨(ordL (prioI k) n).takeWhile (fun x => !decide (x = f)), ((ordL (prioI k) n).dropWhile (fun x => !decide (x = f))).tail, ?_⟩
  rw [prioR]
  have h0 : 0 ≤ k / 120 % 4 := by omega
  have h3 : k / 120 % 4 < 4 := by omega
  generalize k / 120 % 4 = r at *
  revert f
  rcases (show r = 0 ∨ r = 1 ∨ r = 2 ∨ r = 3 by omega) with rfl | rfl | rfl | rfl
  all_goals
    rcases (show n = 0 ∨ n = 1 ∨ n = 2 ∨ n = 3 ∨ n = 4 ∨ n = 5 ∨ n = 6 by omega) with rfl | rfl | rfl | rfl | rfl | rfl | rfl <;> decide +kernel
theorem div_val : ∀ (m : Fin 64) (n : Fin 7), (∀ j : Fin 6, n.val ≤ j.val → m.val.testBit j.val = false) → (m.val : Int) / 2 ^ n.val = 0 := by decide +kernel
theorem onBV_lt (b : Nat → Bool) (n : Nat) (hn : n ≤ 6) : onBV b n / 2 ^ n = 0 := by
  rw [onBV_six b n hn]
  obtain ⟨m, hm⟩ := six_bits (fun j => b j && decide (j < n))
  rw [onBV_congr 6 hm, six_val]
  exact div_val m ⟨n, by omega⟩ fun j hj => by
    rw [← hm j.val j.isLt]
    have hj' : ¬ j.val < n := Nat.not_lt.2 hj
    simp [hj']
end Go.Proofs.YtbeemfkndpandaaDoor
