/- What has tripped is not wanted, with few alone those of the first rank are. Conditions: the table of ends lies as the text lays it. -/
import Derived.Test.YtbeemfkndpandaaDoorShedL
import Derived.Test.YtbeemfkndpandaaDoorShedY
import Derived.Test.YtbeemfkndpandaaDoorBitS
namespace Go.Proofs.YtbeemfkndpandaaDoor
open Go Go.RowKit
set_option linter.unusedVariables false
set_option maxRecDepth 20000
/-- What is fed, as a set. -/
def stS (ok : Nat → Bool) (lo : Nat → Int) (st : Int × (Nat → Bool)) (i : Nat) : Int × (Nat → Bool) := if ok i && decide (lo i ≤ st.1) then (st.1 - lo i, fun j => st.2 j || decide (j = i)) else st
def wantS (ok : Nat → Nat → Bool) (lo : Nat → Int) (mo : Nat → Int) (L : List Nat) : Nat → (Nat → Bool)
  | 0 => fun _ => false
  | s + 1 => (L.foldl (stS (ok s) lo) (mo s, wantS ok lo mo L s)).2
theorem fold_set (ok : Nat → Bool) (lo : Nat → Int) (n : Nat) (hn : n ≤ 6) : ∀ (L : List Nat), (∀ x ∈ L, x < n) → ∀ (r : Int) (S : Nat → Bool),
    L.foldl (stW ok lo) (r, onBV S n) = ((L.foldl (stS ok lo) (r, S)).1, onBV (L.foldl (stS ok lo) (r, S)).2 n)
  | [], _, _, _ => rfl
  | x :: L, h, r, S => by
    show L.foldl (stW ok lo) (stW ok lo (r, onBV S n) x) = ((L.foldl (stS ok lo) (stS ok lo (r, S) x)).1, onBV (L.foldl (stS ok lo) (stS ok lo (r, S) x)).2 n)
    have hL : ∀ y ∈ L, y < n := fun y hy => h y (by simp [hy])
    unfold stW stS
    by_cases q : (ok x && decide (lo x ≤ r)) = true
    · rw [if_pos q, if_pos q]
      show L.foldl _ (r - lo x, orI (onBV S n) x) = _
      rw [or_set S n x hn (h x (by simp))]
      exact fold_set ok lo n hn L hL _ _
    · rw [if_neg q, if_neg q]
      exact fold_set ok lo n hn L hL _ _
theorem onBV_none (n : Nat) : onBV (fun _ => false) n = 0 := by
  induction n with
  | zero => rfl
  | succ n ih => unfold onBV; simpa using ih
theorem want_set (ok : Nat → Nat → Bool) (lo : Nat → Int) (mo : Nat → Int) (L : List Nat) (n : Nat) (hn : n ≤ 6) (hL : ∀ x ∈ L, x < n) (s : Nat) : wantN ok lo mo L s = onBV (wantS ok lo mo L s) n := by
  induction s with
  | zero => exact (onBV_none n).symm
  | succ s ih =>
    show (L.foldl (stW (ok s) lo) (mo s, wantN ok lo mo L s)).2 = _
    rw [ih, fold_set (ok s) lo n hn L hL]
    rfl
theorem fold_ok (ok : Nat → Bool) (lo : Nat → Int) : ∀ (L : List Nat) (r : Int) (S : Nat → Bool) (j : Nat), (L.foldl (stS ok lo) (r, S)).2 j = true → S j = true ∨ ok j = true
  | [], _, _, _, h => .inl h
  | x :: L, r, S, j, h => by
    have h' : (L.foldl (stS ok lo) (stS ok lo (r, S) x)).2 j = true := h
    unfold stS at h'
    by_cases q : (ok x && decide (lo x ≤ r)) = true
    · rw [if_pos q] at h'
      rcases fold_ok ok lo L _ _ j h' with h1 | h1
      · simp only [Bool.or_eq_true, decide_eq_true_eq] at h1
        rcases h1 with h1 | rfl
        · exact .inl h1
        · simp only [Bool.and_eq_true] at q; exact .inr q.1
      · exact .inr h1
    · rw [if_neg q] at h'
      exact fold_ok ok lo L _ _ j h'
theorem want_ok (ok : Nat → Nat → Bool) (lo : Nat → Int) (mo : Nat → Int) (L : List Nat) (s j : Nat) : wantS ok lo mo L s j = true → ∃ t, ok t j = true := by
  induction s with
  | zero => intro h; cases h
  | succ s ih =>
    intro h
    rcases fold_ok (ok s) lo L _ _ j h with h1 | h1
    · exact ih h1
    · exact ⟨s, h1⟩
theorem fold_none (ok : Nat → Bool) (lo : Nat → Int) : ∀ (L : List Nat), (∀ x ∈ L, ok x = false) → ∀ st, L.foldl (stS ok lo) st = st
  | [], _, _ => rfl
  | x :: L, h, st => by
    show L.foldl (stS ok lo) (stS ok lo st x) = st
    rw [show stS ok lo st x = st by unfold stS; rw [h x (by simp)]; simp]
    exact fold_none ok lo L (fun y hy => h y (by simp [hy])) st
theorem fold_grow (ok : Nat → Bool) (lo : Nat → Int) : ∀ (L : List Nat) (st : Int × (Nat → Bool)) (j : Nat), st.2 j = true → (L.foldl (stS ok lo) st).2 j = true
  | [], _, _, h => h
  | x :: L, st, j, h => by
    refine fold_grow ok lo L (stS ok lo st x) j ?_
    unfold stS
    split
    · simp [h]
    · exact h
theorem fold_same (ok ok' : Nat → Bool) (lo : Nat → Int) : ∀ (L : List Nat), (∀ x ∈ L, ok x = ok' x) → ∀ (r : Int) (S S' : Nat → Bool), (∀ j, S j = true → S' j = true) →
    (L.foldl (stS ok lo) (r, S)).1 = (L.foldl (stS ok' lo) (r, S')).1 ∧ ∀ j, (L.foldl (stS ok lo) (r, S)).2 j = true → (L.foldl (stS ok' lo) (r, S')).2 j = true
  | [], _, _, _, _, h => ⟨rfl, h⟩
  | x :: L, hx, r, S, S', h => by
    have hL : ∀ y ∈ L, ok y = ok' y := fun y hy => hx y (by simp [hy])
    show (L.foldl (stS ok lo) (stS ok lo (r, S) x)).1 = (L.foldl (stS ok' lo) (stS ok' lo (r, S') x)).1 ∧ ∀ j, (L.foldl (stS ok lo) (stS ok lo (r, S) x)).2 j = true → (L.foldl (stS ok' lo) (stS ok' lo (r, S') x)).2 j = true
    unfold stS
    rw [← hx x (by simp)]
    by_cases q : (ok x && decide (lo x ≤ r)) = true
    · rw [if_pos q, if_pos q]
      refine fold_same ok ok' lo L hL _ _ _ (fun j hj => ?_)
      simp only [Bool.or_eq_true, decide_eq_true_eq] at hj ⊢
      exact hj.imp (h j) id
    · rw [if_neg q, if_neg q]
      exact fold_same ok ok' lo L hL _ _ _ h
/-- With few alone, what is fed is fed of all. -/
theorem few_sub (ok ok' : Nat → Nat → Bool) (lo pr : Nat → Int) (mo : Nat → Int) (L A B : List Nat) (hL : L = A ++ B) (hA : ∀ x ∈ A, pr x = 0) (hB : ∀ x ∈ B, pr x ≠ 0)
    (h1 : ∀ s x, pr x = 0 → ok s x = ok' s x) (h2 : ∀ s x, pr x ≠ 0 → ok s x = false) (s : Nat) : ∀ j, wantS ok lo mo L s j = true → wantS ok' lo mo L s j = true := by
  induction s with
  | zero => intro j h; cases h
  | succ s ih =>
    intro j h
    show (L.foldl (stS (ok' s) lo) (mo s, wantS ok' lo mo L s)).2 j = true
    have h' : (L.foldl (stS (ok s) lo) (mo s, wantS ok lo mo L s)).2 j = true := h
    rw [hL, List.foldl_append] at h' ⊢
    rw [fold_none (ok s) lo B (fun x hx => h2 s x (hB x hx))] at h'
    rw [← hL] at h' ⊢
    exact fold_grow _ _ _ _ _ ((fold_same (ok s) (ok' s) lo A (fun x hx => h1 s x (hA x hx)) (mo s) _ _ ih).2 j h')
theorem ord_parts (k : Int) (n : Nat) (hn : n ≤ 6) : ∃ A B, ordL (prioI k) n = A ++ B ∧ (∀ x ∈ A, prioI k x = 0) ∧ (∀ x ∈ B, prioI k x ≠ 0) := by
  refine ⟨(ordL (prioI k) n).filter (fun i => decide (prioI k i = 0)), (ordL (prioI k) n).filter (fun i => !decide (prioI k i = 0)), ?_, fun x hx => by simpa using (List.mem_filter.1 hx).2, fun x hx => by simpa using (List.mem_filter.1 hx).2⟩
  rw [prioR]
  have h0 : 0 ≤ k / 120 % 4 := by omega
  have h3 : k / 120 % 4 < 4 := by omega
  generalize k / 120 % 4 = r at *
  rcases (show r = 0 ∨ r = 1 ∨ r = 2 ∨ r = 3 by omega) with rfl | rfl | rfl | rfl
  all_goals
    rcases (show n = 0 ∨ n = 1 ∨ n = 2 ∨ n = 3 ∨ n = 4 ∨ n = 5 ∨ n = 6 by omega) with rfl | rfl | rfl | rfl | rfl | rfl | rfl <;> decide +kernel
theorem ord_lt (k : Int) (n : Nat) (hn : n ≤ 6) : ∀ x ∈ ordL (prioI k) n, x < n := by
  rw [prioR]
  have h0 : 0 ≤ k / 120 % 4 := by omega
  have h3 : k / 120 % 4 < 4 := by omega
  generalize k / 120 % 4 = r at *
  rcases (show r = 0 ∨ r = 1 ∨ r = 2 ∨ r = 3 by omega) with rfl | rfl | rfl | rfl
  all_goals
    rcases (show n = 0 ∨ n = 1 ∨ n = 2 ∨ n = 3 ∨ n = 4 ∨ n = 5 ∨ n = 6 by omega) with rfl | rfl | rfl | rfl | rfl | rfl | rfl <;> decide +kernel
theorem not_val : ∀ m m' : Fin 64, (∀ j : Fin 6, m.val.testBit j.val = true → m'.val.testBit j.val = true) → bits BinOp.andNot IntKind.i64 (m.val : Int) (m'.val : Int) = 0 := by decide +kernel
theorem not_set (F S : Nat → Bool) (n : Nat) (hn : n ≤ 6) (h : ∀ j, F j = true → S j = true) : bits BinOp.andNot IntKind.i64 (onBV F n) (onBV S n) = 0 := by
  rw [onBV_six F n hn, onBV_six S n hn]
  obtain ⟨m, hm⟩ := six_bits (fun j => F j && decide (j < n))
  obtain ⟨m', hm'⟩ := six_bits (fun j => S j && decide (j < n))
  rw [onBV_congr 6 hm, six_val, onBV_congr 6 hm', six_val]
  refine not_val m m' fun j hj => ?_
  rw [← hm j.val j.isLt] at hj
  rw [← hm' j.val j.isLt]
  simp only [Bool.and_eq_true] at hj ⊢
  exact ⟨h _ hj.1, hj.2⟩
theorem and_set (S : Nat → Bool) (n : Nat) (hn : n ≤ 6) (t : Int) (h : ∀ j, j < n → S j = true → tb t j = false) : bits BinOp.and IntKind.i64 (onBV S n) t = 0 := by
  rw [onBV_six S n hn]
  obtain ⟨m, hm⟩ := six_bits (fun j => S j && decide (j < n))
  rw [onBV_congr 6 hm, six_val]
  have hmn : (BitVec.ofInt 64 (m.val : Int)).toNat = m.val := by
    rw [BitVec.toNat_ofInt]; omega
  have key : (BitVec.ofInt 64 (m.val : Int) &&& BitVec.ofInt 64 t).toNat = 0 := by
    rw [BitVec.toNat_and, hmn, BitVec.toNat_ofInt]
    refine Nat.eq_of_testBit_eq fun j => ?_
    rw [Nat.testBit_and, Nat.zero_testBit]
    by_cases hj : j < 6
    · cases e : m.val.testBit j with
      | false => rfl
      | true =>
        rw [← hm j hj] at e
        simp only [Bool.and_eq_true, decide_eq_true_eq] at e
        have := h j e.2 e.1
        unfold tb at this
        rw [i64_and1] at this
        rw [Bool.true_and, Nat.testBit_eq_decide_div_mod_eq, decide_eq_false_iff_not]
        simp only [beq_eq_false_iff_ne] at this
        rcases (show j = 0 ∨ j = 1 ∨ j = 2 ∨ j = 3 ∨ j = 4 ∨ j = 5 by omega) with rfl | rfl | rfl | rfl | rfl | rfl
        all_goals simp only [Nat.reducePow, Int.reducePow] at *; omega
    · rw [Nat.testBit_lt_two_pow (show m.val < 2 ^ j from Nat.lt_of_lt_of_le (show m.val < 2 ^ 6 from m.isLt) (Nat.pow_le_pow_right (by omega) (by omega)))]
      rfl
  show IntKind.i64.wrap ((BitVec.ofInt 64 (m.val : Int) &&& BitVec.ofInt 64 t).toNat : Nat) = 0
  rw [key]; rfl
theorem mostCB2 {c : CF} : ∀ s, s < 4 → 0 ≤ mostV c.cg s ∧ mostV c.cg s ≤ 1073741824 := by
  intro s hs
  rcases (show s = 0 ∨ s = 1 ∨ s = 2 ∨ s = 3 by omega) with rfl | rfl | rfl | rfl <;> first | exact ⟨show (0 : Int) ≤ 3000 by omega, show (3000 : Int) ≤ 1073741824 by omega⟩ | exact ⟨show (0 : Int) ≤ 500 by omega, show (500 : Int) ≤ 1073741824 by omega⟩
set_option maxHeartbeats 16000000 in
theorem walkShedTrips (a0 : Int) (a1 : Int) (a2 : Int) (a3 : Int) (a4 : Int) (w : World) (w0 : (Lit.int .i64 a0).wf = true) (w1 : (Lit.int .i64 a1).wf = true) (w2 : (Lit.int .i64 a2).wf = true) (w3 : (Lit.int .i64 a3).wf = true) (w4 : (Lit.int .i64 a4).wf = true) (hT : Tab w) :
    Calls Tryd.prog 6 #[.int .i64 a0, .int .i64 a1, .int .i64 a2, .int .i64 a3, .int .i64 a4] w fun e w' => e = .returned (.bool true) ∧ Below w.heap.size w w' := by
  have HT := Lib.hid hT
  clear w0 w1 w2 w3 w4 hT
  go_enter Tryd.func6, Tryd.ntmps6
  go_wp2_with fail
  refine (first25 w HT.out).mono ?_
  rintro e wa ⟨rfl, hba⟩
  have HA := Lib.hid hba
  clear hba
  go_wp2_with fail
  refine (configF a0 a1 a2 wa).mono ?_
  rintro e w4 ⟨O, fa, fc, rfl, hO, ho, hf, hb⟩
  have L4 := Lib.hid (HA.out.trans (hb.mono HA.out.size))
  have hn : (a1 % 1048576 / 20 % 7).toNat ≤ 6 := by omega
  have F4 := Lib.hid hf.g
  have LB := Lib.hid (loB (a2 % 1048576) (by omega) (a1 % 1048576 / 20 % 7).toNat)
  have MB := Lib.hid (mostCB2 (c := cfgOf (a0 % 1048576) (a1 % 1048576) (a2 % 1048576)))
  unfold cfgV
  rw [cgA_of]
  clear hb ho hf hO
  generalize (a1 % 1048576 / 20 % 7).toNat = n at *
  have OP := Lib.hid (ord_parts (a2 % 1048576) n hn)
  have OL := Lib.hid (ord_lt (a2 % 1048576) n hn)
  generalize (cfgOf (a0 % 1048576) (a1 % 1048576) (a2 % 1048576)).cg = c at *
  generalize busI (a2 % 1048576) = bu at *
  generalize loadI (a2 % 1048576) = lo at *
  generalize prioI (a2 % 1048576) = pr at *
  go_wp2_with fail
  refine upon_fresh (by simp) rfl (by kernel_rfl) ?_
  intro W1 b1 s1 h1
  have R8 := Lib.hid (show Rw W1 w4.heap.size c (.slice (some ⟨O, 0, none⟩) 4 4) (.slice fa n fc) from h1)
  have L1 := Lib.hid (L4.out.trans (b1.mono L4.out.size))
  have F1 := Lib.hid (F4.out.below b1)
  have hlt := Lib.hid (show w4.heap.size < W1.heap.size by omega)
  clear h1 b1 s1 F4 L4
  go_wp2_with fail
  refine (numbC a3 128 (by omega) (by omega) W1).mono ?_
  rintro e w' ⟨rfl, rfl⟩
  generalize a3 % 128 = sh at *
  have B8 := Lib.hid (Below.refl W1.heap.size W1)
  have RW := Lib.hid fun (u : World) (hu : Below W1.heap.size W1 u) => R8.out.below hu hlt.out
  have LO := Lib.hid fun (u : World) (hu : Below W1.heap.size W1 u) => L1.out.trans (hu.mono L1.out.size)
  have KW := Lib.hid (show ∀ (shut trips : Int) (few : Bool) (u : World), Below W1.heap.size W1 u → Calls Tryd.prog 16 #[.agg (cgA c (.slice (some ⟨O, 0, none⟩) 4 4) (.slice fa n fc)), .int .i64 shut, .int .i64 trips, .bool few] u fun e w' => e = .returned (.int .i64 (onBV (wantS (okW trips few shut bu pr) lo (mostV c) (ordL pr n) 4) n)) ∧ Below u.heap.size u w' by
    intro shut trips few u hu
    rw [← want_set _ lo (mostV c) (ordL pr n) n hn OL.out 4]
    exact wantC c (.slice (some ⟨O, 0, none⟩) 4 4) fa n fc bu lo pr hn LB.out MB.out shut trips few u (F1.out.below hu) (HT.out.below (L1.out.trans (hu.mono L1.out.size))))
  have KA := Lib.hid (KW.out sh 0 false)
  have KS := Lib.hid (KW.out sh a4 false)
  have KF := Lib.hid (KW.out sh a4 true)
  have K0 := Lib.hid (show ∀ (u : World), Below W1.heap.size W1 u → Calls Tryd.prog 16 #[.agg (cgA c (.slice (some ⟨O, 0, none⟩) 4 4) (.slice fa n fc)), .int .i64 0, .int .i64 a4, .bool false] u fun e w' => e = .returned (.int .i64 0) ∧ Below u.heap.size u w' by
    intro u hu
    have := KW.out 0 a4 false u hu
    rwa [show onBV (wantS (okW a4 false 0 bu pr) lo (mostV c) (ordL pr n) 4) n = 0 from (onBV_congr n fun j hj => by
      cases e : wantS (okW a4 false 0 bu pr) lo (mostV c) (ordL pr n) 4 j with
      | false => rfl
      | true =>
        obtain ⟨t, ht⟩ := want_ok _ _ _ _ _ _ e
        unfold okW at ht
        rw [fv_none] at ht
        simp only [Bool.and_eq_true, beq_iff_eq] at ht
        have := ht.2
        omega).trans (onBV_none n)] at this)
  have KX := Lib.hid (show ∀ (u : World), Below W1.heap.size W1 u → Calls Tryd.prog 16 #[.agg (cgA c (.slice (some ⟨O, 0, none⟩) 4 4) (.slice fa n fc)), .int .i64 sh, .int .i64 65535, .bool false] u fun e w' => e = .returned (.int .i64 0) ∧ Below u.heap.size u w' by
    intro u hu
    have := KW.out sh 65535 false u hu
    rwa [show onBV (wantS (okW 65535 false sh bu pr) lo (mostV c) (ordL pr n) 4) n = 0 from (onBV_congr n fun j hj => by
      cases e : wantS (okW 65535 false sh bu pr) lo (mostV c) (ordL pr n) 4 j with
      | false => rfl
      | true =>
        obtain ⟨t, ht⟩ := want_ok _ _ _ _ _ _ e
        unfold okW at ht
        rw [tbAll j (by omega)] at ht
        simp at ht).trans (onBV_none n)] at this)
  have AP := (onBV_pos (wantS (okW 0 false sh bu pr) lo (mostV c) (ordL pr n) 4) n hn).1
  have SP := and_set (wantS (okW a4 false sh bu pr) lo (mostV c) (ordL pr n) 4) n hn a4 (fun j hj e => by
    obtain ⟨t, ht⟩ := want_ok _ _ _ _ _ _ e
    unfold okW at ht
    simp only [Bool.and_eq_true, Bool.not_eq_true'] at ht
    exact ht.1.1)
  have FP := not_set (wantS (okW a4 true sh bu pr) lo (mostV c) (ordL pr n) 4) (wantS (okW a4 false sh bu pr) lo (mostV c) (ordL pr n) 4) n hn (by
    obtain ⟨A, B, hL, hA, hB⟩ := OP.out
    refine few_sub _ _ lo pr (mostV c) (ordL pr n) A B hL hA hB (fun s x hx => ?_) (fun s x hx => ?_) 4
    · unfold okW; simp [hx]
    · unfold okW; simp [hx])
  have TF := Lib.hid fun i (hi : i < n) => tb_set (wantS (okW a4 true sh bu pr) lo (mostV c) (ordL pr n) 4) n i hn hi
  have PF := Lib.hid (show ∀ j, wantS (okW a4 true sh bu pr) lo (mostV c) (ordL pr n) 4 j = true → pr j = 0 from fun j e => by
    obtain ⟨t, ht⟩ := want_ok _ _ _ _ _ _ e
    unfold okW at ht
    simp at ht
    exact ht.1.2)
  generalize wantS (okW a4 true sh bu pr) lo (mostV c) (ordL pr n) 4 = SF at *
  generalize onBV SF n = vf at *
  generalize onBV (wantS (okW a4 false sh bu pr) lo (mostV c) (ordL pr n) 4) n = vs at *
  generalize onBV (wantS (okW 0 false sh bu pr) lo (mostV c) (ordL pr n) 4) n = va at *
  have g1 : decide (0 ≤ va) = true := decide_eq_true AP
  have g2 : (bits BinOp.and IntKind.i64 vs a4 == 0) = true := by rw [SP]; rfl
  have g3 : (bits BinOp.andNot IntKind.i64 vf vs == 0) = true := by rw [FP]; rfl
  clear AP SP FP KW OP OL
  go_wp2_with (refine wpList_load_row_g (by kernel_rfl) 31 _ rfl w4.heap.size rfl 31 _ (0, 0) _ R8.out Tryd.underlying31 rfl (by kernel_rfl) ?_)
  refine (KA.out _ B8.out).mono ?_
  rintro e u1 ⟨rfl, hb⟩
  have B1 := Lib.hid (B8.out.trans (hb.mono B8.out.size))
  have Ru1 := Lib.hid (RW.out u1 B1.out)
  clear hb
  go_wp2_with (refine wpList_load_row_g (by kernel_rfl) 31 _ rfl w4.heap.size rfl 31 _ (0, 0) _ Ru1.out Tryd.underlying31 rfl (by kernel_rfl) ?_)
  refine (KS.out _ B1.out).mono ?_
  rintro e u2 ⟨rfl, hb⟩
  have B2 := Lib.hid (B1.out.trans (hb.mono B1.out.size))
  have Ru2 := Lib.hid (RW.out u2 B2.out)
  clear hb
  go_wp2_with (refine wpList_load_row_g (by kernel_rfl) 31 _ rfl w4.heap.size rfl 31 _ (0, 0) _ Ru2.out Tryd.underlying31 rfl (by kernel_rfl) ?_)
  refine (KF.out _ B2.out).mono ?_
  rintro e u3 ⟨rfl, hb⟩
  have B3 := Lib.hid (B2.out.trans (hb.mono B2.out.size))
  have Ru3 := Lib.hid (RW.out u3 B3.out)
  clear hb
  have c26 : u3.cell? ⟨w4.heap.size, 26, none⟩ = some (.slice fa n fc) := Ru3.out.cell 26 rfl
  go_wp2_with fail
  go_loopw [16] (fun v wr => ∃ i : Nat, i ≤ n ∧ v = .int .i64 i ∧ wr = u3) (fun v _ => n - (intOf v).toNat)
  case atStart => exact ⟨0, by omega, rfl, rfl⟩
  case round =>
    obtain ⟨i, hi, rfl, rfl⟩ := hrel
    by_cases hl : i < n
    · have i1 : (i : Int) < (n : Int) := by omega
      obtain ⟨p, rfl, c0, c1, c2⟩ := (F1.out.below B3.out) i hl
      have gt : (bits BinOp.and IntKind.i64 (vf / 2 ^ i) 1 == 1) = SF i := TF.out i hl
      cases e : SF i
      · rw [e] at gt
        clear e c0 c1
        go_wp2_with fail
        go_roundw
        case rel => exact ⟨i + 1, by omega, by go_num, trivial⟩
        case measure => simp [intOf]; omega
      · have hp := PF.out i e
        rw [e] at gt
        rw [hp] at c2
        clear e hp c0 c1
        go_wp2_with fail
        go_roundw
        case rel => exact ⟨i + 1, by omega, by go_num, trivial⟩
        case measure => simp [intOf]; omega
    · obtain rfl : i = n := by omega
      clear hl hi
      go_wp2_with (refine wpList_load_row_g (by kernel_rfl) 31 _ rfl w4.heap.size rfl 31 _ (0, 0) _ Ru3.out Tryd.underlying31 rfl (by kernel_rfl) ?_)
      refine (K0.out _ B3.out).mono ?_
      rintro e u4 ⟨rfl, hb⟩
      have B4 := Lib.hid (B3.out.trans (hb.mono B3.out.size))
      have Ru4 := Lib.hid (RW.out u4 B4.out)
      clear hb
      go_wp2_with (refine wpList_load_row_g (by kernel_rfl) 31 _ rfl w4.heap.size rfl 31 _ (0, 0) _ Ru4.out Tryd.underlying31 rfl (by kernel_rfl) ?_)
      refine (KX.out _ B4.out).mono ?_
      rintro e u5 ⟨rfl, hb⟩
      have B5 := Lib.hid (B4.out.trans (hb.mono B4.out.size))
      clear hb
      go_wp2_with fail
      go_returns
      exact ⟨rfl, LO.out u5 B5.out⟩
end Go.Proofs.YtbeemfkndpandaaDoor
