/- What is amiss with any points, and where, as the document says it. Conditions: the numbers are of 64 bits. -/
import Derived.Test.YtbeemfkndpandaaDoorTabX
namespace Go.Proofs.YtbeemfkndpandaaDoor
open Go.RowKit
set_option linter.unusedVariables false
theorem add_0 (a : Addr) : a.add 0 = a := by
  obtain ⟨b, o, s⟩ := a
  unfold Addr.add
  split <;> simp_all
set_option maxHeartbeats 8000000 in
theorem refCheckG (a : Option Addr) (n cap : Nat) (hn : n < 4611686018427387904) (x y : Nat → Int) (w : World) (h : ∀ i, i < n → ∃ p, a = some p ∧ w.cell? (p.add (i * 2)) = some (.int .i64 (x i)) ∧ w.cell? ⟨(p.add (i * 2)).block, (p.add (i * 2)).off + 1, none⟩ = some (.int .i64 (y i))) :
    Calls Tryd.prog 49 #[.slice a n cap] w fun e w' => ∃ c p k, e = .returned (.agg #[.int .i64 c, .bool p, .int .i64 k]) ∧ Verd n x y c p k ∧ Below w.heap.size w w' := by
  by_cases n2 : n < 2
  · have g1 : decide ((n : Int) < 2) = true := decide_eq_true (by omega)
    clear h
    go_enter Tryd.func49, Tryd.ntmps49
    go_wp2_with fail
    have BB := Lib.hid (Bx.new w #[.int .i64 0, .bool false, .int .i64 0] 61)
    generalize World.alloc w _ = W0 at *
    refine (bareC _ _).mono ?_
    rintro e w2 ⟨rfl, hb2⟩
    have HB2 := Lib.hid (BB.out.below hb2)
    clear hb2
    have x0 := HB2.out.cell 0 rfl
    have x1 := HB2.out.cell 1 rfl
    have x2 := HB2.out.cell 2 rfl
    have xf := HB2.out.froz
    go_wp2_with fail
    have HB3 := Lib.hid (((HB2.out.set 0 (.int .i64 (103))).set 1 (.bool false)).set 2 (.int .i64 (0)))
    clear x0 x1 x2 xf
    generalize World.setCell _ _ _ = W3 at *
    have q0 : W3.cell? ⟨w.heap.size, 0, none⟩ = some (.int .i64 (103)) := HB3.out.cell 0 rfl
    have q1 : W3.cell? ⟨w.heap.size, 1, none⟩ = some (.bool false) := HB3.out.cell 1 rfl
    have q2 : W3.cell? ⟨w.heap.size, 2, none⟩ = some (.int .i64 (0)) := HB3.out.cell 2 rfl
    refine bodyPost_ret (v := .agg #[.int .i64 (103), .bool false, .int .i64 (0)]) (by simp [results, Tryd.results49, go_sem, q0, q1, q2]) rfl ?_
    refine ⟨_, _, _, rfl, ?_, HB3.out.lo⟩
    exact .short n2
  by_cases n3 : 64 < n
  · have g1 : decide ((n : Int) < 2) = false := decide_eq_false (by omega)
    have g2 : decide ((64 : Int) < (n : Int)) = true := decide_eq_true (by omega)
    clear h
    go_enter Tryd.func49, Tryd.ntmps49
    go_wp2_with fail
    have BB := Lib.hid (Bx.new w #[.int .i64 0, .bool false, .int .i64 0] 61)
    generalize World.alloc w _ = W0 at *
    refine (bareC _ _).mono ?_
    rintro e w2 ⟨rfl, hb2⟩
    have HB2 := Lib.hid (BB.out.below hb2)
    clear hb2
    have x0 := HB2.out.cell 0 rfl
    have x1 := HB2.out.cell 1 rfl
    have x2 := HB2.out.cell 2 rfl
    have xf := HB2.out.froz
    go_wp2_with fail
    have HB3 := Lib.hid (((HB2.out.set 0 (.int .i64 (102))).set 1 (.bool false)).set 2 (.int .i64 (0)))
    clear x0 x1 x2 xf
    generalize World.setCell _ _ _ = W3 at *
    have q0 : W3.cell? ⟨w.heap.size, 0, none⟩ = some (.int .i64 (102)) := HB3.out.cell 0 rfl
    have q1 : W3.cell? ⟨w.heap.size, 1, none⟩ = some (.bool false) := HB3.out.cell 1 rfl
    have q2 : W3.cell? ⟨w.heap.size, 2, none⟩ = some (.int .i64 (0)) := HB3.out.cell 2 rfl
    refine bodyPost_ret (v := .agg #[.int .i64 (102), .bool false, .int .i64 (0)]) (by simp [results, Tryd.results49, go_sem, q0, q1, q2]) rfl ?_
    refine ⟨_, _, _, rfl, ?_, HB3.out.lo⟩
    exact .long n3
  obtain ⟨ad, rfl, -⟩ := h 0 (by omega)
  have H := Lib.hid (show Pts w ad n x y from fun i hi => by obtain ⟨p, hp, h1, h2⟩ := h i hi; cases hp; exact ⟨h1, h2⟩)
  clear h
  go_enter Tryd.func49, Tryd.ntmps49
  go_wp2_with fail
  have B0 := Lib.hid (Bx.new w #[.int .i64 0, .bool false, .int .i64 0] 61)
  generalize World.alloc w _ = W0 at *
  go_loopw [3] (fun v wr => ∃ i : Nat, i ≤ n ∧ v = .int .i64 i ∧ (∀ j, j < i → badAt x y j = 0) ∧ Bx w wr #[.int .i64 0, .bool false, .int .i64 0] 61) (fun v _ => n - (intOf v).toNat)
  case atStart => exact ⟨0, by omega, rfl, fun j h => by omega, B0.out⟩
  case round =>
    obtain ⟨i, hi, rfl, hj, hb⟩ := hrel
    have BB := Lib.hid hb
    have HJ := Lib.hid hj
    clear hb hj
    by_cases hl : i < n
    · have P := Lib.hid (H.out.below BB.out.lo)
      obtain ⟨c0, c1⟩ := P.out i hl
      by_cases o1 : x i < -1073741824
      · have g1 : decide (x i < -1073741824) = true := decide_eq_true o1
        have OO := Lib.hid (bad_1 (x := x) (y := y) (i := i) (by unfold outI; simp [o1]))
        clear P
        rcases (show i = 0 ∨ 0 < i by omega) with rfl | hi0
        · rw [Nat.zero_mul, add_0] at c0 c1
          go_wp2_with fail
          refine (placedC 101 _ (by omega) _).mono ?_
          rintro e w2 ⟨rfl, hb2⟩
          have HB2 := Lib.hid (BB.out.below hb2)
          clear hb2
          have x0 := HB2.out.cell 0 rfl
          have x1 := HB2.out.cell 1 rfl
          have x2 := HB2.out.cell 2 rfl
          have xf := HB2.out.froz
          go_wp2_with fail
          have HB3 := Lib.hid (((HB2.out.set 0 (.int .i64 (101))).set 1 (.bool true)).set 2 (.int .i64 (((0 : Nat) : Int))))
          clear x0 x1 x2 xf
          generalize World.setCell _ _ _ = W3 at *
          have q0 : W3.cell? ⟨w.heap.size, 0, none⟩ = some (.int .i64 (101)) := HB3.out.cell 0 rfl
          have q1 : W3.cell? ⟨w.heap.size, 1, none⟩ = some (.bool true) := HB3.out.cell 1 rfl
          have q2 : W3.cell? ⟨w.heap.size, 2, none⟩ = some (.int .i64 (((0 : Nat) : Int))) := HB3.out.cell 2 rfl
          refine bodyPost_ret (v := .agg #[.int .i64 (101), .bool true, .int .i64 (((0 : Nat) : Int))]) (by simp [results, Tryd.results49, go_sem, q0, q1, q2]) rfl ?_
          refine ⟨_, _, _, rfl, ?_, HB3.out.lo⟩
          rw [← OO.out]
          exact .bad (by omega) (by omega) 0 hl (by rw [OO.out]; omega) HJ.out
        · go_wp2_with fail
          refine (placedC 101 _ (by omega) _).mono ?_
          rintro e w2 ⟨rfl, hb2⟩
          have HB2 := Lib.hid (BB.out.below hb2)
          clear hb2
          have x0 := HB2.out.cell 0 rfl
          have x1 := HB2.out.cell 1 rfl
          have x2 := HB2.out.cell 2 rfl
          have xf := HB2.out.froz
          go_wp2_with fail
          have HB3 := Lib.hid (((HB2.out.set 0 (.int .i64 (101))).set 1 (.bool true)).set 2 (.int .i64 ((i : Int))))
          clear x0 x1 x2 xf
          generalize World.setCell _ _ _ = W3 at *
          have q0 : W3.cell? ⟨w.heap.size, 0, none⟩ = some (.int .i64 (101)) := HB3.out.cell 0 rfl
          have q1 : W3.cell? ⟨w.heap.size, 1, none⟩ = some (.bool true) := HB3.out.cell 1 rfl
          have q2 : W3.cell? ⟨w.heap.size, 2, none⟩ = some (.int .i64 ((i : Int))) := HB3.out.cell 2 rfl
          refine bodyPost_ret (v := .agg #[.int .i64 (101), .bool true, .int .i64 ((i : Int))]) (by simp [results, Tryd.results49, go_sem, q0, q1, q2]) rfl ?_
          refine ⟨_, _, _, rfl, ?_, HB3.out.lo⟩
          rw [← OO.out]
          exact .bad (by omega) (by omega) i hl (by rw [OO.out]; omega) HJ.out
      have g1 : decide (x i < -1073741824) = false := decide_eq_false o1
      by_cases o2 : 1073741824 < x i
      · have g2 : decide (1073741824 < x i) = true := decide_eq_true o2
        have OO := Lib.hid (bad_1 (x := x) (y := y) (i := i) (by unfold outI; simp [o2]))
        clear P
        rcases (show i = 0 ∨ 0 < i by omega) with rfl | hi0
        · rw [Nat.zero_mul, add_0] at c0 c1
          go_wp2_with fail
          refine (placedC 101 _ (by omega) _).mono ?_
          rintro e w2 ⟨rfl, hb2⟩
          have HB2 := Lib.hid (BB.out.below hb2)
          clear hb2
          have x0 := HB2.out.cell 0 rfl
          have x1 := HB2.out.cell 1 rfl
          have x2 := HB2.out.cell 2 rfl
          have xf := HB2.out.froz
          go_wp2_with fail
          have HB3 := Lib.hid (((HB2.out.set 0 (.int .i64 (101))).set 1 (.bool true)).set 2 (.int .i64 (((0 : Nat) : Int))))
          clear x0 x1 x2 xf
          generalize World.setCell _ _ _ = W3 at *
          have q0 : W3.cell? ⟨w.heap.size, 0, none⟩ = some (.int .i64 (101)) := HB3.out.cell 0 rfl
          have q1 : W3.cell? ⟨w.heap.size, 1, none⟩ = some (.bool true) := HB3.out.cell 1 rfl
          have q2 : W3.cell? ⟨w.heap.size, 2, none⟩ = some (.int .i64 (((0 : Nat) : Int))) := HB3.out.cell 2 rfl
          refine bodyPost_ret (v := .agg #[.int .i64 (101), .bool true, .int .i64 (((0 : Nat) : Int))]) (by simp [results, Tryd.results49, go_sem, q0, q1, q2]) rfl ?_
          refine ⟨_, _, _, rfl, ?_, HB3.out.lo⟩
          rw [← OO.out]
          exact .bad (by omega) (by omega) 0 hl (by rw [OO.out]; omega) HJ.out
        · go_wp2_with fail
          refine (placedC 101 _ (by omega) _).mono ?_
          rintro e w2 ⟨rfl, hb2⟩
          have HB2 := Lib.hid (BB.out.below hb2)
          clear hb2
          have x0 := HB2.out.cell 0 rfl
          have x1 := HB2.out.cell 1 rfl
          have x2 := HB2.out.cell 2 rfl
          have xf := HB2.out.froz
          go_wp2_with fail
          have HB3 := Lib.hid (((HB2.out.set 0 (.int .i64 (101))).set 1 (.bool true)).set 2 (.int .i64 ((i : Int))))
          clear x0 x1 x2 xf
          generalize World.setCell _ _ _ = W3 at *
          have q0 : W3.cell? ⟨w.heap.size, 0, none⟩ = some (.int .i64 (101)) := HB3.out.cell 0 rfl
          have q1 : W3.cell? ⟨w.heap.size, 1, none⟩ = some (.bool true) := HB3.out.cell 1 rfl
          have q2 : W3.cell? ⟨w.heap.size, 2, none⟩ = some (.int .i64 ((i : Int))) := HB3.out.cell 2 rfl
          refine bodyPost_ret (v := .agg #[.int .i64 (101), .bool true, .int .i64 ((i : Int))]) (by simp [results, Tryd.results49, go_sem, q0, q1, q2]) rfl ?_
          refine ⟨_, _, _, rfl, ?_, HB3.out.lo⟩
          rw [← OO.out]
          exact .bad (by omega) (by omega) i hl (by rw [OO.out]; omega) HJ.out
      have g2 : decide (1073741824 < x i) = false := decide_eq_false o2
      by_cases o3 : y i < -1073741824
      · have g3 : decide (y i < -1073741824) = true := decide_eq_true o3
        have OO := Lib.hid (bad_1 (x := x) (y := y) (i := i) (by unfold outI; simp [o3]))
        clear P
        rcases (show i = 0 ∨ 0 < i by omega) with rfl | hi0
        · rw [Nat.zero_mul, add_0] at c0 c1
          go_wp2_with fail
          refine (placedC 101 _ (by omega) _).mono ?_
          rintro e w2 ⟨rfl, hb2⟩
          have HB2 := Lib.hid (BB.out.below hb2)
          clear hb2
          have x0 := HB2.out.cell 0 rfl
          have x1 := HB2.out.cell 1 rfl
          have x2 := HB2.out.cell 2 rfl
          have xf := HB2.out.froz
          go_wp2_with fail
          have HB3 := Lib.hid (((HB2.out.set 0 (.int .i64 (101))).set 1 (.bool true)).set 2 (.int .i64 (((0 : Nat) : Int))))
          clear x0 x1 x2 xf
          generalize World.setCell _ _ _ = W3 at *
          have q0 : W3.cell? ⟨w.heap.size, 0, none⟩ = some (.int .i64 (101)) := HB3.out.cell 0 rfl
          have q1 : W3.cell? ⟨w.heap.size, 1, none⟩ = some (.bool true) := HB3.out.cell 1 rfl
          have q2 : W3.cell? ⟨w.heap.size, 2, none⟩ = some (.int .i64 (((0 : Nat) : Int))) := HB3.out.cell 2 rfl
          refine bodyPost_ret (v := .agg #[.int .i64 (101), .bool true, .int .i64 (((0 : Nat) : Int))]) (by simp [results, Tryd.results49, go_sem, q0, q1, q2]) rfl ?_
          refine ⟨_, _, _, rfl, ?_, HB3.out.lo⟩
          rw [← OO.out]
          exact .bad (by omega) (by omega) 0 hl (by rw [OO.out]; omega) HJ.out
        · go_wp2_with fail
          refine (placedC 101 _ (by omega) _).mono ?_
          rintro e w2 ⟨rfl, hb2⟩
          have HB2 := Lib.hid (BB.out.below hb2)
          clear hb2
          have x0 := HB2.out.cell 0 rfl
          have x1 := HB2.out.cell 1 rfl
          have x2 := HB2.out.cell 2 rfl
          have xf := HB2.out.froz
          go_wp2_with fail
          have HB3 := Lib.hid (((HB2.out.set 0 (.int .i64 (101))).set 1 (.bool true)).set 2 (.int .i64 ((i : Int))))
          clear x0 x1 x2 xf
          generalize World.setCell _ _ _ = W3 at *
          have q0 : W3.cell? ⟨w.heap.size, 0, none⟩ = some (.int .i64 (101)) := HB3.out.cell 0 rfl
          have q1 : W3.cell? ⟨w.heap.size, 1, none⟩ = some (.bool true) := HB3.out.cell 1 rfl
          have q2 : W3.cell? ⟨w.heap.size, 2, none⟩ = some (.int .i64 ((i : Int))) := HB3.out.cell 2 rfl
          refine bodyPost_ret (v := .agg #[.int .i64 (101), .bool true, .int .i64 ((i : Int))]) (by simp [results, Tryd.results49, go_sem, q0, q1, q2]) rfl ?_
          refine ⟨_, _, _, rfl, ?_, HB3.out.lo⟩
          rw [← OO.out]
          exact .bad (by omega) (by omega) i hl (by rw [OO.out]; omega) HJ.out
      have g3 : decide (y i < -1073741824) = false := decide_eq_false o3
      by_cases o4 : 1073741824 < y i
      · have g4 : decide (1073741824 < y i) = true := decide_eq_true o4
        have OO := Lib.hid (bad_1 (x := x) (y := y) (i := i) (by unfold outI; simp [o4]))
        clear P
        rcases (show i = 0 ∨ 0 < i by omega) with rfl | hi0
        · rw [Nat.zero_mul, add_0] at c0 c1
          go_wp2_with fail
          refine (placedC 101 _ (by omega) _).mono ?_
          rintro e w2 ⟨rfl, hb2⟩
          have HB2 := Lib.hid (BB.out.below hb2)
          clear hb2
          have x0 := HB2.out.cell 0 rfl
          have x1 := HB2.out.cell 1 rfl
          have x2 := HB2.out.cell 2 rfl
          have xf := HB2.out.froz
          go_wp2_with fail
          have HB3 := Lib.hid (((HB2.out.set 0 (.int .i64 (101))).set 1 (.bool true)).set 2 (.int .i64 (((0 : Nat) : Int))))
          clear x0 x1 x2 xf
          generalize World.setCell _ _ _ = W3 at *
          have q0 : W3.cell? ⟨w.heap.size, 0, none⟩ = some (.int .i64 (101)) := HB3.out.cell 0 rfl
          have q1 : W3.cell? ⟨w.heap.size, 1, none⟩ = some (.bool true) := HB3.out.cell 1 rfl
          have q2 : W3.cell? ⟨w.heap.size, 2, none⟩ = some (.int .i64 (((0 : Nat) : Int))) := HB3.out.cell 2 rfl
          refine bodyPost_ret (v := .agg #[.int .i64 (101), .bool true, .int .i64 (((0 : Nat) : Int))]) (by simp [results, Tryd.results49, go_sem, q0, q1, q2]) rfl ?_
          refine ⟨_, _, _, rfl, ?_, HB3.out.lo⟩
          rw [← OO.out]
          exact .bad (by omega) (by omega) 0 hl (by rw [OO.out]; omega) HJ.out
        · go_wp2_with fail
          refine (placedC 101 _ (by omega) _).mono ?_
          rintro e w2 ⟨rfl, hb2⟩
          have HB2 := Lib.hid (BB.out.below hb2)
          clear hb2
          have x0 := HB2.out.cell 0 rfl
          have x1 := HB2.out.cell 1 rfl
          have x2 := HB2.out.cell 2 rfl
          have xf := HB2.out.froz
          go_wp2_with fail
          have HB3 := Lib.hid (((HB2.out.set 0 (.int .i64 (101))).set 1 (.bool true)).set 2 (.int .i64 ((i : Int))))
          clear x0 x1 x2 xf
          generalize World.setCell _ _ _ = W3 at *
          have q0 : W3.cell? ⟨w.heap.size, 0, none⟩ = some (.int .i64 (101)) := HB3.out.cell 0 rfl
          have q1 : W3.cell? ⟨w.heap.size, 1, none⟩ = some (.bool true) := HB3.out.cell 1 rfl
          have q2 : W3.cell? ⟨w.heap.size, 2, none⟩ = some (.int .i64 ((i : Int))) := HB3.out.cell 2 rfl
          refine bodyPost_ret (v := .agg #[.int .i64 (101), .bool true, .int .i64 ((i : Int))]) (by simp [results, Tryd.results49, go_sem, q0, q1, q2]) rfl ?_
          refine ⟨_, _, _, rfl, ?_, HB3.out.lo⟩
          rw [← OO.out]
          exact .bad (by omega) (by omega) i hl (by rw [OO.out]; omega) HJ.out
      have g4 : decide (1073741824 < y i) = false := decide_eq_false o4
      have OO := Lib.hid (show (outI (x i) || outI (y i)) = false by rw [Bool.or_eq_false_iff, outI_no, outI_no]; omega)
      clear o1 o2 o3 o4
      rcases (show i = 0 ∨ ∃ k, i = k + 1 by cases i; exact .inl rfl; exact .inr ⟨_, rfl⟩) with h0 | ⟨k, hk⟩
      · subst h0
        rw [Nat.zero_mul, add_0] at c0 c1
        have r0 := fun d => below_cell (reach_below wr.heap.size wr d) c0
        have r1 := fun d => below_cell (reach_below wr.heap.size wr d) c1
        go_upto_region 10 with fail
        refine wp_region_reach wr.heap.size (by kernel_rfl) (by kernel_rfl) ?_
        repeat (go_big_quiet_step (fail))
        refine wpQuiet_nil ?_
        rintro w' ⟨d, rfl⟩
        go_wp2_with fail
        go_roundw
        case rel => exact ⟨1, by omega, by go_num, fun j h => by cases (show j = 0 by omega); exact bad_4 OO.out, BB.out.reach d⟩
        case measure => simp [intOf]; omega
      · subst hk
        obtain ⟨d0, d1⟩ := P.out k (by omega)
        have i11 : IntKind.i64.wrap ((k : Int) + 1 - 1) = (k : Int) := by rw [show (k : Int) + 1 - 1 = k by omega]; exact IntWalk.i64_in _ (by omega)
        have i1 : (k : Int) + 1 < (n : Int) := by omega
        have i2 : (k : Int) < (n : Int) := by omega
        have r0 := fun d => below_cell (reach_below wr.heap.size wr d) c0
        have r1 := fun d => below_cell (reach_below wr.heap.size wr d) c1
        have s0 := fun d => below_cell (reach_below wr.heap.size wr d) d0
        have s1 := fun d => below_cell (reach_below wr.heap.size wr d) d1
        by_cases m1 : x (k + 1) ≤ x k
        · have m3 : decide (x (k + 1) ≤ x k) = true := decide_eq_true m1
          have BT := Lib.hid (bad_2 OO.out (Or.inl m1))
          go_upto_region 10 with fail
          refine wp_region_reach wr.heap.size (by kernel_rfl) (by kernel_rfl) ?_
          repeat (go_big_quiet_step (fail))
          refine wpQuiet_nil ?_
          rintro w' ⟨d, rfl⟩
          have BC := Lib.hid (BB.out.reach d)
          clear r0 r1 s0 s1 c0 c1 d0 d1 BB P
          have BB := Lib.hid BC.out
          clear BC
          generalize reach wr.heap.size wr d = wd at *
          go_wp2_with fail
          refine (placedC 105 _ (by omega) _).mono ?_
          rintro e w2 ⟨rfl, hb2⟩
          have HB2 := Lib.hid (BB.out.below hb2)
          clear hb2
          have x0 := HB2.out.cell 0 rfl
          have x1 := HB2.out.cell 1 rfl
          have x2 := HB2.out.cell 2 rfl
          have xf := HB2.out.froz
          go_wp2_with fail
          have HB3 := Lib.hid (((HB2.out.set 0 (.int .i64 (105))).set 1 (.bool true)).set 2 (.int .i64 ((k : Int) + 1)))
          clear x0 x1 x2 xf
          generalize World.setCell _ _ _ = W3 at *
          have q0 : W3.cell? ⟨w.heap.size, 0, none⟩ = some (.int .i64 (105)) := HB3.out.cell 0 rfl
          have q1 : W3.cell? ⟨w.heap.size, 1, none⟩ = some (.bool true) := HB3.out.cell 1 rfl
          have q2 : W3.cell? ⟨w.heap.size, 2, none⟩ = some (.int .i64 ((k : Int) + 1)) := HB3.out.cell 2 rfl
          refine bodyPost_ret (v := .agg #[.int .i64 (105), .bool true, .int .i64 ((k : Int) + 1)]) (by simp [results, Tryd.results49, go_sem, q0, q1, q2]) rfl ?_
          refine ⟨_, _, _, rfl, ?_, HB3.out.lo⟩
          rw [← BT.out, show ((k : Int) + 1) = ((k + 1 : Nat) : Int) by omega]
          exact .bad (by omega) (by omega) (k + 1) hl (by rw [BT.out]; omega) HJ.out
        have m3 : decide (x (k + 1) ≤ x k) = false := decide_eq_false m1
        by_cases m2 : y (k + 1) < y k
        · have m4 : decide (y (k + 1) < y k) = true := decide_eq_true m2
          have BT := Lib.hid (bad_2 OO.out (Or.inr m2))
          go_upto_region 10 with fail
          refine wp_region_reach wr.heap.size (by kernel_rfl) (by kernel_rfl) ?_
          repeat (go_big_quiet_step (fail))
          refine wpQuiet_nil ?_
          rintro w' ⟨d, rfl⟩
          have BC := Lib.hid (BB.out.reach d)
          clear r0 r1 s0 s1 c0 c1 d0 d1 BB P
          have BB := Lib.hid BC.out
          clear BC
          generalize reach wr.heap.size wr d = wd at *
          go_wp2_with fail
          refine (placedC 105 _ (by omega) _).mono ?_
          rintro e w2 ⟨rfl, hb2⟩
          have HB2 := Lib.hid (BB.out.below hb2)
          clear hb2
          have x0 := HB2.out.cell 0 rfl
          have x1 := HB2.out.cell 1 rfl
          have x2 := HB2.out.cell 2 rfl
          have xf := HB2.out.froz
          go_wp2_with fail
          have HB3 := Lib.hid (((HB2.out.set 0 (.int .i64 (105))).set 1 (.bool true)).set 2 (.int .i64 ((k : Int) + 1)))
          clear x0 x1 x2 xf
          generalize World.setCell _ _ _ = W3 at *
          have q0 : W3.cell? ⟨w.heap.size, 0, none⟩ = some (.int .i64 (105)) := HB3.out.cell 0 rfl
          have q1 : W3.cell? ⟨w.heap.size, 1, none⟩ = some (.bool true) := HB3.out.cell 1 rfl
          have q2 : W3.cell? ⟨w.heap.size, 2, none⟩ = some (.int .i64 ((k : Int) + 1)) := HB3.out.cell 2 rfl
          refine bodyPost_ret (v := .agg #[.int .i64 (105), .bool true, .int .i64 ((k : Int) + 1)]) (by simp [results, Tryd.results49, go_sem, q0, q1, q2]) rfl ?_
          refine ⟨_, _, _, rfl, ?_, HB3.out.lo⟩
          rw [← BT.out, show ((k : Int) + 1) = ((k + 1 : Nat) : Int) by omega]
          exact .bad (by omega) (by omega) (k + 1) hl (by rw [BT.out]; omega) HJ.out
        have m4 : decide (y (k + 1) < y k) = false := decide_eq_false m2
        go_upto_region 10 with fail
        refine wp_region_reach wr.heap.size (by kernel_rfl) (by kernel_rfl) ?_
        repeat (go_big_quiet_step (fail))
        refine wpQuiet_nil ?_
        rintro w' ⟨d, rfl⟩
        go_wp2_with fail
        go_roundw
        case rel => exact ⟨k + 2, by omega, by go_num, fun j h => by
          by_cases hj : j = k + 1
          · subst hj; exact bad_3 OO.out (by omega)
          · exact HJ.out j (by omega), BB.out.reach d⟩
        case measure => simp [intOf]; omega
    · go_wp2_with fail
      refine (noneF _).mono ?_
      rintro e w2 ⟨rfl, hb2⟩
      have HB2 := Lib.hid (BB.out.below hb2)
      clear hb2
      have x0 := HB2.out.cell 0 rfl
      have x1 := HB2.out.cell 1 rfl
      have x2 := HB2.out.cell 2 rfl
      have xf := HB2.out.froz
      go_wp2_with fail
      have HB3 := Lib.hid (((HB2.out.set 0 (.int .i64 (0))).set 1 (.bool false)).set 2 (.int .i64 (0)))
      clear x0 x1 x2 xf
      generalize World.setCell _ _ _ = W3 at *
      have q0 : W3.cell? ⟨w.heap.size, 0, none⟩ = some (.int .i64 (0)) := HB3.out.cell 0 rfl
      have q1 : W3.cell? ⟨w.heap.size, 1, none⟩ = some (.bool false) := HB3.out.cell 1 rfl
      have q2 : W3.cell? ⟨w.heap.size, 2, none⟩ = some (.int .i64 (0)) := HB3.out.cell 2 rfl
      refine bodyPost_ret (v := .agg #[.int .i64 (0), .bool false, .int .i64 (0)]) (by simp [results, Tryd.results49, go_sem, q0, q1, q2]) rfl ?_
      refine ⟨_, _, _, rfl, ?_, HB3.out.lo⟩
      exact .fine (by omega) (by omega) (fun j h => HJ.out j (by omega))
end Go.Proofs.YtbeemfkndpandaaDoor
