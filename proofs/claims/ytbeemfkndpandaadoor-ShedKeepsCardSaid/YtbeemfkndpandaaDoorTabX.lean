/- What is amiss with any points, and where: table.Check. Conditions: the seven errors lie apart; the numbers are of 64 bits. -/
import Derived.Test.YtbeemfkndpandaaDoorErrF
import Derived.Test.YtbeemfkndpandaaDoorTab
namespace Go.Proofs.YtbeemfkndpandaaDoor
open Go.RowKit
set_option linter.unusedVariables false
def outI (v : Int) : Bool := decide (v < -1073741824) || decide (1073741824 < v)
theorem outI_no {v : Int} : outI v = false ↔ -1073741824 ≤ v ∧ v ≤ 1073741824 := by
  unfold outI
  rw [Bool.or_eq_false_iff, decide_eq_false_iff_not, decide_eq_false_iff_not]
  omega
theorem outsideG (n : Int) (w : World) : Calls Tryd.prog 69 #[.int .i64 n] w fun e w' => e = .returned (.bool (outI n)) ∧ w = w' := by
  unfold outI
  go_enter Tryd.func69, Tryd.ntmps69
  go_wp2_with fail
  all_goals
    go_ret
    refine ⟨?_, rfl⟩
    first | rfl | (simp_all; done) | (simp; omega)
/-- The code of what is amiss with the point i; 0: nothing. -/
def badAt (x y : Nat → Int) (i : Nat) : Int :=
  if (outI (x i) || outI (y i)) = true then 101 else if 0 < i ∧ (x i ≤ x (i - 1) ∨ y i < y (i - 1)) then 105 else 0
inductive Verd (n : Nat) (x y : Nat → Int) : Int → Bool → Int → Prop
  | short (h : n < 2) : Verd n x y 103 false 0
  | long (h : 64 < n) : Verd n x y 102 false 0
  | bad (h1 : 2 ≤ n) (h2 : n ≤ 64) (i : Nat) (hi : i < n) (hb : badAt x y i ≠ 0) (hj : ∀ j, j < i → badAt x y j = 0) : Verd n x y (badAt x y i) true i
  | fine (h1 : 2 ≤ n) (h2 : n ≤ 64) (hj : ∀ j, j < n → badAt x y j = 0) : Verd n x y 0 false 0
theorem Verd.same {n : Nat} {x y : Nat → Int} {c c' k k' : Int} {p p' : Bool} (h : Verd n x y c p k) (g : Verd n x y c' p' k') : c = c' ∧ p = p' ∧ k = k' := by
  cases h with
  | short h => cases g <;> first | exact ⟨rfl, rfl, rfl⟩ | omega
  | long h => cases g <;> first | exact ⟨rfl, rfl, rfl⟩ | omega
  | bad h1 h2 i hi hb hj =>
    cases g with
    | short h => omega
    | long h => omega
    | fine g1 g2 gj => exact absurd (gj i hi) hb
    | bad g1 g2 i' gi gb gj =>
      rcases Nat.lt_trichotomy i i' with h | h | h
      · exact absurd (gj i h) hb
      · subst h; exact ⟨rfl, rfl, rfl⟩
      · exact absurd (hj i' h) gb
  | fine h1 h2 hj =>
    cases g with
    | short h => omega
    | long h => omega
    | fine g1 g2 gj => exact ⟨rfl, rfl, rfl⟩
    | bad g1 g2 i' gi gb gj => exact absurd (hj i' gi) gb
theorem bad_zero {x y : Nat → Int} {i : Nat} (h : badAt x y i = 0) : (-1073741824 ≤ x i ∧ x i ≤ 1073741824) ∧ (-1073741824 ≤ y i ∧ y i ≤ 1073741824) ∧ (0 < i → x (i - 1) < x i ∧ y (i - 1) ≤ y i) := by
  unfold badAt at h
  split at h
  · omega
  · rename_i h1
    split at h
    · omega
    · rename_i h2
      rw [Bool.not_eq_true, Bool.or_eq_false_iff, outI_no, outI_no] at h1
      refine ⟨h1.1, h1.2, fun h3 => ?_⟩
      have := fun q => h2 ⟨h3, q⟩
      omega
theorem Verd.ok {n : Nat} {x y : Nat → Int} {p : Bool} {k : Int} (h : Verd n x y 0 p k) : TabOk n x y := by
  generalize hc : (0 : Int) = c at h
  cases h with
  | short h => omega
  | long h => omega
  | bad h1 h2 i hi hb hj => exact absurd hc.symm hb
  | fine h1 h2 hj =>
    refine ⟨h1, h2, fun i hi => (bad_zero (hj i hi)).1, fun i hi => (bad_zero (hj i hi)).2.1, fun i hi => ?_, fun i hi => ?_⟩
    · exact ((bad_zero (hj (i + 1) hi)).2.2 (by omega)).1
    · exact ((bad_zero (hj (i + 1) hi)).2.2 (by omega)).2
theorem ok_zero {n : Nat} {x y : Nat → Int} (T : TabOk n x y) (i : Nat) (hi : i < n) : badAt x y i = 0 := by
  have h1 := T.bx i hi
  have h2 := T.by' i hi
  unfold badAt
  rw [if_neg (by rw [Bool.not_eq_true, Bool.or_eq_false_iff, outI_no, outI_no]; exact ⟨h1, h2⟩), if_neg]
  rintro ⟨h3, h4⟩
  obtain ⟨k, rfl⟩ : ∃ k, i = k + 1 := ⟨i - 1, by omega⟩
  have h5 := T.mx k hi
  have h6 := T.my k hi
  simp only [Nat.add_sub_cancel] at h4
  omega
theorem bad_1 {x y : Nat → Int} {i : Nat} (h : (outI (x i) || outI (y i)) = true) : badAt x y i = 101 := by unfold badAt; rw [if_pos h]
theorem bad_2 {x y : Nat → Int} {k : Nat} (h : (outI (x (k + 1)) || outI (y (k + 1))) = false) (h2 : x (k + 1) ≤ x k ∨ y (k + 1) < y k) : badAt x y (k + 1) = 105 := by
  unfold badAt
  rw [if_neg (by rw [h]; simp), if_pos ⟨by omega, h2⟩]
theorem bad_3 {x y : Nat → Int} {k : Nat} (h : (outI (x (k + 1)) || outI (y (k + 1))) = false) (h2 : ¬ (x (k + 1) ≤ x k ∨ y (k + 1) < y k)) : badAt x y (k + 1) = 0 := by
  unfold badAt
  rw [if_neg (by rw [h]; simp), if_neg (fun q => h2 q.2)]
theorem bad_4 {x y : Nat → Int} (h : (outI (x 0) || outI (y 0)) = false) : badAt x y 0 = 0 := by
  unfold badAt
  rw [if_neg (by rw [h]; simp), if_neg (fun q => by omega)]
set_option maxHeartbeats 8000000 in
theorem checkG {E : Nat → Addr} (a : Option Addr) (n cap : Nat) (hn : n < 4611686018427387904) (x y : Nat → Int) (w : World) (he : Ers E w) (h : ∀ i, i < n → ∃ p, a = some p ∧ w.cell? (p.add (i * 2)) = some (.int .i64 (x i)) ∧ w.cell? ⟨(p.add (i * 2)).block, (p.add (i * 2)).off + 1, none⟩ = some (.int .i64 (y i))) :
    Calls Tryd.prog 66 #[.slice a n cap] w fun e w' => ∃ v c p k, e = .returned v ∧ ErrIs E w' v c p k ∧ Verd n x y c p k ∧ Below w.heap.size w w' := by
  have HE := Lib.hid he
  have e0 := he.g2
  have e1 := he.g1
  unfold errV at e0 e1
  clear he
  by_cases n2 : n < 2
  · have g1 : decide ((n : Int) < 2) = true := decide_eq_true (by omega)
    clear h
    go_enter Tryd.func66, Tryd.ntmps66
    go_wp2_with fail
    go_returns
    exact ⟨_, _, _, _, rfl, .bare 2 (by omega), .short n2, Below.refl _ _⟩
  by_cases n3 : 64 < n
  · have g1 : decide ((n : Int) < 2) = false := decide_eq_false (by omega)
    have g2 : decide ((64 : Int) < (n : Int)) = true := decide_eq_true (by omega)
    clear h
    go_enter Tryd.func66, Tryd.ntmps66
    go_wp2_with fail
    go_returns
    exact ⟨_, _, _, _, rfl, .bare 1 (by omega), .long n3, Below.refl _ _⟩
  clear e0 e1
  obtain ⟨ad, rfl, -⟩ := h 0 (by omega)
  have H := Lib.hid (show Pts w ad n x y from fun i hi => by obtain ⟨p, hp, h1, h2⟩ := h i hi; cases hp; exact ⟨h1, h2⟩)
  clear h
  go_enter Tryd.func66, Tryd.ntmps66
  go_wp2_with fail
  go_loopw [15] (fun v wr => ∃ i : Nat, i ≤ n ∧ v = .int .i64 i ∧ (∀ j, j < i → badAt x y j = 0) ∧ Below w.heap.size w wr) (fun v _ => n - (intOf v).toNat)
  case atStart => exact ⟨0, by omega, rfl, fun j h => by omega, Below.refl _ _⟩
  case round =>
    obtain ⟨i, hi, rfl, hj, hb⟩ := hrel
    have HB := Lib.hid hb
    have HJ := Lib.hid hj
    clear hb hj
    by_cases hl : i < n
    · have P := Lib.hid (H.out.below HB.out)
      have EB := Lib.hid (HE.out.below HB.out)
      obtain ⟨c0, c1⟩ := P.out i hl
      have K1 := Lib.hid fun (w : World) => outsideG (x i) w
      have K2 := Lib.hid fun (w : World) => outsideG (y i) w
      go_upto_region 8 with fail
      generalize hW : World.alloc wr _ = W
      have hrow : W.heap[wr.heap.size]? = some (.cells #[.int .i64 (x i), .int .i64 (y i)] 67 (0, 0)) := by rw [← hW]; exact heap_alloc_new _ _
      have hbw : Below wr.heap.size wr W := by rw [← hW]; exact (Below.refl _ _).alloc (Nat.le_refl _) _
      have z0 : W.cell? ⟨wr.heap.size, 0, none⟩ = some (.int .i64 (x i)) := cell_of_row _ _ 0 _ _ _ hrow
      have z1 : W.cell? ⟨wr.heap.size, 1, none⟩ = some (.int .i64 (y i)) := cell_of_row _ _ 1 _ _ _ hrow
      have P2 := Lib.hid (P.out.below hbw)
      have E2 := Lib.hid (EB.out.below hbw)
      have HB2 := Lib.hid (HB.out.trans (hbw.mono HB.out.size))
      have r0 := fun d => below_cell (reach_below W.heap.size W d) z0
      have r1 := fun d => below_cell (reach_below W.heap.size W d) z1
      have BR := Lib.hid fun d => HB2.out.trans ((reach_below W.heap.size W d).mono HB2.out.size)
      have ER := Lib.hid fun d => E2.out.below (reach_below W.heap.size W d)
      clear hW hrow hbw c0 c1 HB P EB
      cases ox : outI (x i)
      · rw [ox] at K1
        cases oy : outI (y i)
        · rw [oy] at K2
          have oo : (outI (x i) || outI (y i)) = false := by rw [ox, oy]; rfl
          have OO := Lib.hid oo
          clear ox oy oo
          rcases (show i = 0 ∨ ∃ k, i = k + 1 by cases i; exact .inl rfl; exact .inr ⟨_, rfl⟩) with h0 | ⟨k, hk⟩
          · subst h0
            go_wp2_with fail
            refine (K1.out _).mono ?_
            rintro e w' ⟨rfl, rfl⟩
            go_wp2_with fail
            refine (K2.out _).mono ?_
            rintro e w' ⟨rfl, rfl⟩
            go_upto_region 10 with fail
            refine wp_region_reach W.heap.size (by kernel_rfl) (by kernel_rfl) ?_
            repeat (go_big_quiet_step (fail))
            refine wpQuiet_nil ?_
            rintro w' ⟨d, rfl⟩
            go_wp2_with fail
            go_roundw
            case rel => exact ⟨1, by omega, by go_num, fun j h => by cases (show j = 0 by omega); exact bad_4 OO.out, BR.out d⟩
            case measure => simp [intOf]; omega
          · subst hk
            obtain ⟨d0, d1⟩ := P2.out k (by omega)
            have s0 := fun d => below_cell (reach_below W.heap.size W d) d0
            have s1 := fun d => below_cell (reach_below W.heap.size W d) d1
            clear d0 d1
            have i11 : IntKind.i64.wrap ((k : Int) + 1 - 1) = (k : Int) := by rw [show (k : Int) + 1 - 1 = k by omega]; exact IntWalk.i64_in _ (by omega)
            have i1 : (k : Int) + 1 < (n : Int) := by omega
            have i2 : (k : Int) < (n : Int) := by omega
            by_cases m1 : x (k + 1) ≤ x k
            · have g1 : decide (x (k + 1) ≤ x k) = true := decide_eq_true m1
              have BT := Lib.hid (bad_2 OO.out (Or.inl m1))
              go_wp2_with fail
              refine (K1.out _).mono ?_
              rintro e w' ⟨rfl, rfl⟩
              go_wp2_with fail
              refine (K2.out _).mono ?_
              rintro e w' ⟨rfl, rfl⟩
              go_upto_region 10 with fail
              refine wp_region_reach W.heap.size (by kernel_rfl) (by kernel_rfl) ?_
              repeat (go_big_quiet_step (fail))
              refine wpQuiet_nil ?_
              rintro w' ⟨d, rfl⟩
              have q0 := (ER.out d).g4
              unfold errV at q0
              have BD := Lib.hid (BR.out d)
              clear r0 r1 s0 s1
              generalize reach W.heap.size W d = W2 at *
              go_wp2_with fail
              go_returns
              refine ⟨_, 105, true, ((k + 1 : Nat) : Int), rfl, .placed 4 (by omega) W2.heap.size _ (heap_alloc_new _ _), ?_, BD.out.alloc BD.out.size _⟩
              rw [← BT.out]
              exact .bad (by omega) (by omega) (k + 1) hl (by rw [BT.out]; omega) HJ.out
            by_cases m2 : y (k + 1) < y k
            · have g1 : decide (x (k + 1) ≤ x k) = false := decide_eq_false m1
              have g2 : decide (y (k + 1) < y k) = true := decide_eq_true m2
              have BT := Lib.hid (bad_2 OO.out (Or.inr m2))
              go_wp2_with fail
              refine (K1.out _).mono ?_
              rintro e w' ⟨rfl, rfl⟩
              go_wp2_with fail
              refine (K2.out _).mono ?_
              rintro e w' ⟨rfl, rfl⟩
              go_upto_region 10 with fail
              refine wp_region_reach W.heap.size (by kernel_rfl) (by kernel_rfl) ?_
              repeat (go_big_quiet_step (fail))
              refine wpQuiet_nil ?_
              rintro w' ⟨d, rfl⟩
              have q0 := (ER.out d).g4
              unfold errV at q0
              have BD := Lib.hid (BR.out d)
              clear r0 r1 s0 s1
              generalize reach W.heap.size W d = W2 at *
              go_wp2_with fail
              go_returns
              refine ⟨_, 105, true, ((k + 1 : Nat) : Int), rfl, .placed 4 (by omega) W2.heap.size _ (heap_alloc_new _ _), ?_, BD.out.alloc BD.out.size _⟩
              rw [← BT.out]
              exact .bad (by omega) (by omega) (k + 1) hl (by rw [BT.out]; omega) HJ.out
            have g1 : decide (x (k + 1) ≤ x k) = false := decide_eq_false m1
            have g2 : decide (y (k + 1) < y k) = false := decide_eq_false m2
            go_wp2_with fail
            refine (K1.out _).mono ?_
            rintro e w' ⟨rfl, rfl⟩
            go_wp2_with fail
            refine (K2.out _).mono ?_
            rintro e w' ⟨rfl, rfl⟩
            go_upto_region 10 with fail
            refine wp_region_reach W.heap.size (by kernel_rfl) (by kernel_rfl) ?_
            repeat (go_big_quiet_step (fail))
            refine wpQuiet_nil ?_
            rintro w' ⟨d, rfl⟩
            go_wp2_with fail
            go_roundw
            case rel => exact ⟨k + 2, by omega, by go_num, fun j h => by
              by_cases hj : j = k + 1
              · subst hj; exact bad_3 OO.out (by omega)
              · exact HJ.out j (by omega), BR.out d⟩
            case measure => simp [intOf]; omega
        · rw [oy] at K2
          have oo : (outI (x i) || outI (y i)) = true := by rw [oy]; simp
          have OO := Lib.hid (bad_1 oo)
          clear ox oy oo
          have q0 := E2.out.g0
          unfold errV at q0
          go_wp2_with fail
          refine (K1.out _).mono ?_
          rintro e w' ⟨rfl, rfl⟩
          go_wp2_with fail
          refine (K2.out _).mono ?_
          rintro e w' ⟨rfl, rfl⟩
          go_wp2_with fail
          go_returns
          refine ⟨_, 101, true, i, rfl, .placed 0 (by omega) W.heap.size i (heap_alloc_new _ _), ?_, HB2.out.alloc HB2.out.size _⟩
          rw [← OO.out]
          exact .bad (by omega) (by omega) i hl (by rw [OO.out]; omega) HJ.out
      · rw [ox] at K1
        have oo : (outI (x i) || outI (y i)) = true := by rw [ox]; rfl
        have OO := Lib.hid (bad_1 oo)
        clear ox oo
        have q0 := E2.out.g0
        unfold errV at q0
        go_wp2_with fail
        refine (K1.out _).mono ?_
        rintro e w' ⟨rfl, rfl⟩
        go_wp2_with fail
        go_returns
        refine ⟨_, 101, true, i, rfl, .placed 0 (by omega) W.heap.size i (heap_alloc_new _ _), ?_, HB2.out.alloc HB2.out.size _⟩
        rw [← OO.out]
        exact .bad (by omega) (by omega) i hl (by rw [OO.out]; omega) HJ.out
    · go_wp2_with fail
      go_returns
      exact ⟨_, _, _, _, rfl, .fine, .fine (by omega) (by omega) (fun j h => HJ.out j (by omega)), HB.out⟩
end Go.Proofs.YtbeemfkndpandaaDoor
