/- ContactSets holds: each call returns true. Conditions: the arguments are bools and slices of bools. -/
import Derived.Test.YtbgjfcnaiahehaaConM
namespace Go.Proofs.Ytbgjfcnaiahehaa
open Go.RowKit
set_option linter.unusedVariables false
/-- One that was set, and was wrong i times at most. -/
def Set2 (a b : Bool) (i : Nat) (k : CK) : Prop := -2 ≤ k.s ∧ k.s ≤ 1000 ∧ 0 ≤ k.g ∧ k.g ≤ i ∧ k.L = 1000 ∧ k.p = a ∧ k.q = b
theorem Set2.step {a b : Bool} {i : Nat} {k : CK} (h : Set2 a b i k) (hi : i < 100) (t : Bool) (v : Int) (f : Bool) : Set2 a b (i + 1) (k.step t v f) := by
  obtain ⟨h1, h2, h3, h4, h5, h6, h7⟩ := h
  obtain ⟨r1, r2, r3, r4, _, r6⟩ := k.run t v f h1 h2 h3
  obtain ⟨b1, b2⟩ := k.calm t v f (by omega) (by omega)
  exact ⟨r1, r2, r3, by omega, r6.trans h5, b1.trans h6, b2.trans h7⟩
set_option maxRecDepth 100000 in
set_option maxHeartbeats 4000000 in
theorem walkContactSets (a0 a1 : Bool) (a2 : Option Addr) (len2 cap2 : Nat) (z2 : Nat → Bool) (a3 : Option Addr) (len3 cap3 : Nat) (z3 : Nat → Bool) (w : World) (w2 : CameB w a2 len2 cap2 z2) (w3 : CameB w a3 len3 cap3 z3) :
    Calls Try.prog 6 #[.bool a0, .bool a1, .slice a2 len2 cap2, .slice a3 len3 cap3] w fun e w' => e = .returned (.bool true) ∧ Below w.heap.size w w' := by
  have C2 := Lib.hid fun i hi => w2.at i hi
  have C3 := Lib.hid fun i hi => w3.at i hi
  clear w2 w3
  by_cases h1 : 50 < len2
  · go_enter Try.func6, Try.ntmps6
    go_wp2_with fail
    refine (first16 _).mono ?_
    rintro e w0 ⟨rfl, hb0⟩
    have T0 := Lib.hid hb0
    clear hb0
    go_wp2_with fail
    go_ret
    exact ⟨rfl, T0.out⟩
  by_cases h2 : len3 < len2
  · go_enter Try.func6, Try.ntmps6
    go_wp2_with fail
    refine (first16 _).mono ?_
    rintro e w0 ⟨rfl, hb0⟩
    have T0 := Lib.hid hb0
    clear hb0
    go_wp2_with fail
    go_ret
    exact ⟨rfl, T0.out⟩
  have q1 : (a0 != a0) = false := by simp
  have q2 : (a1 != a1) = false := by simp
  have q3 : (a0 == a0) = true := by simp
  go_enter Try.func6, Try.ntmps6
  go_wp2_with fail
  refine (first16 _).mono ?_
  rintro e w0 ⟨rfl, hb0⟩
  have T0 := Lib.hid hb0
  clear hb0
  go_wp2_with fail
  refine (newC 3 1000 _).mono ?_
  rintro e w1 ⟨rfl, H1, hb⟩
  rw [cutc_in 3 (by omega) (by omega), cutc_in 1000 (by omega) (by omega)] at H1
  have F1 := Lib.hid H1
  have T1 := Lib.hid (T0.out.trans (hb.mono T0.out.size))
  have SB := Lib.hid T0.out.size
  clear H1 hb T0
  generalize w0.heap.size = B at *
  go_wp2_with fail
  refine (setC' B _ a0 a1 _ F1.out).mono ?_
  rintro e w2 ⟨rfl, H2, hb⟩
  have F2 : Hid (Ct w2 B ⟨3, 1000, false, -2, 0, 0, false, a0, a1⟩) := Lib.hid H2
  have T2 := Lib.hid (T1.out.trans (hb.below SB.out T1.out.size))
  clear H2 hb F1 T1
  go_wp2_with fail
  go_loopw [11] (fun v wr => ∃ i : Nat, ∃ k : CK, i ≤ len2 ∧ v = .int .i64 i ∧ Set2 a0 a1 i k ∧ Ct wr B k ∧ Below w.heap.size w wr) (fun v _ => len2 - (intOf v).toNat)
  case atStart => exact ⟨0, _, by omega, rfl, ⟨show (-2 : Int) ≤ -2 by omega, show (-2 : Int) ≤ 1000 by omega, show (0 : Int) ≤ 0 by omega, show (0 : Int) ≤ 0 by omega, rfl, rfl, rfl⟩, F2.out, T2.out⟩
  case round =>
    obtain ⟨i, k, hi, rfl, hk, hf, hb⟩ := hrel
    clear F2 T2
    have F := Lib.hid hf
    have T := Lib.hid hb
    have KK := Lib.hid hk
    clear hf hb hk
    by_cases hl : i < len2
    · obtain ⟨x2, rfl, c2⟩ := C2.out i hl
      obtain ⟨x3, rfl, c3⟩ := C3.out i (by omega)
      have NE := Lib.hid (Nat.ne_of_lt F.out.lt)
      generalize z2 i = x at *
      have c4 := below_cell (T.out.alloc T.out.size (.cells #[.int .i64 0, .bool true] 27)) c3
      cases hy : z3 i
      · rw [hy] at c4
        clear hy
        have F2 := Lib.hid (F.out.alloc (.cells #[.int .i64 0, .bool true] 27))
        have T2 := Lib.hid (T.out.alloc T.out.size (.cells #[.int .i64 0, .bool true] 27))
        have M := Lib.hid (Sm.new wr 0 true)
        have KS := Lib.hid (stepC B k x 0 true KK.out.1 KK.out.2.1 KK.out.2.2.1 (by have := KK.out.2.2.2.1; omega) _ F2.out.drew)
        have KD := Lib.hid (KK.out.step (by omega) x 0 true)
        have c2' := below_cell T2.out.drew c2
        have m0 : (World.drew (wr.alloc (.cells #[.int .i64 0, .bool true] 27))).cell? ⟨wr.heap.size, 0, none⟩ = some (.int .i64 0) := M.out.cells.1
        have m1 : (World.drew (wr.alloc (.cells #[.int .i64 0, .bool true] 27))).cell? ⟨wr.heap.size, 1, none⟩ = some (.bool true) := M.out.cells.2.1
        go_wp2_with fail
        clear c4
        refine wp_region_still_tail 6 (by kernel_rfl) (by kernel_rfl) ?_
        change wpStill _ _ (World.drew _) (fun a' => wpList _ _ _ _ a' (World.drew _)) _ _
        simp only [List.take_succ_cons, List.take_zero, List.drop_succ_cons, List.drop_zero]
        repeat still_step
        refine wpStill_nil ?_
        clear c2' m0 m1
        go_wp2_with fail
        refine KS.out.mono ?_
        rintro e w5 ⟨rfl, H5, hb⟩
        have F5 := Lib.hid H5
        have T5 := Lib.hid ((T2.out.drew).trans (hb.below SB.out T2.out.drew.size))
        clear H5 hb
        go_wp2_with fail
        refine (jamC B _ _ F5.out).mono ?_
        rintro e w6 ⟨he, hb⟩
        rw [KD.out.2.2.2.2.2.1, KD.out.2.2.2.2.2.2] at he
        subst he
        have F6 := Lib.hid (F5.out.below hb)
        have T6 := Lib.hid (T5.out.trans (hb.mono T5.out.size))
        clear hb
        go_wp2_with fail
        go_roundw
        case rel => exact ⟨i + 1, _, by omega, by go_num, KD.out, F6.out, T6.out⟩
        case measure => simp [intOf]; omega
      · rw [hy] at c4
        clear hy
        have F2 := Lib.hid (F.out.alloc (.cells #[.int .i64 1, .bool true] 27))
        have T2 := Lib.hid (T.out.alloc T.out.size (.cells #[.int .i64 1, .bool true] 27))
        have M := Lib.hid (Sm.new wr 1 true)
        have KS := Lib.hid (stepC B k x 1 true KK.out.1 KK.out.2.1 KK.out.2.2.1 (by have := KK.out.2.2.2.1; omega) _ F2.out.drew)
        have KD := Lib.hid (KK.out.step (by omega) x 1 true)
        have c2' := below_cell T2.out.drew c2
        have m0 : (World.drew (wr.alloc (.cells #[.int .i64 1, .bool true] 27))).cell? ⟨wr.heap.size, 0, none⟩ = some (.int .i64 1) := M.out.cells.1
        have m1 : (World.drew (wr.alloc (.cells #[.int .i64 1, .bool true] 27))).cell? ⟨wr.heap.size, 1, none⟩ = some (.bool true) := M.out.cells.2.1
        go_wp2_with fail
        clear c4
        refine wp_region_still_tail 6 (by kernel_rfl) (by kernel_rfl) ?_
        change wpStill _ _ (World.drew _) (fun a' => wpList _ _ _ _ a' (World.drew _)) _ _
        simp only [List.take_succ_cons, List.take_zero, List.drop_succ_cons, List.drop_zero]
        repeat still_step
        refine wpStill_nil ?_
        clear c2' m0 m1
        go_wp2_with fail
        refine KS.out.mono ?_
        rintro e w5 ⟨rfl, H5, hb⟩
        have F5 := Lib.hid H5
        have T5 := Lib.hid ((T2.out.drew).trans (hb.below SB.out T2.out.drew.size))
        clear H5 hb
        go_wp2_with fail
        refine (jamC B _ _ F5.out).mono ?_
        rintro e w6 ⟨he, hb⟩
        rw [KD.out.2.2.2.2.2.1, KD.out.2.2.2.2.2.2] at he
        subst he
        have F6 := Lib.hid (F5.out.below hb)
        have T6 := Lib.hid (T5.out.trans (hb.mono T5.out.size))
        clear hb
        go_wp2_with fail
        go_roundw
        case rel => exact ⟨i + 1, _, by omega, by go_num, KD.out, F6.out, T6.out⟩
        case measure => simp [intOf]; omega
    · go_wp2_with fail
      refine (setC' B _ false true _ F.out).mono ?_
      rintro e w5 ⟨rfl, H5, hb⟩
      have F5 := Lib.hid H5
      have T5 := Lib.hid (T.out.trans (hb.below SB.out T.out.size))
      clear H5 hb
      go_wp2_with fail
      refine (jamC B _ _ F5.out).mono ?_
      rintro e w6 ⟨he, hb⟩
      simp only [Bool.or_false, Bool.or_true, KK.out.2.2.2.2.2.1] at he
      subst he
      have T6 := Lib.hid (T5.out.trans (hb.mono T5.out.size))
      clear hb
      go_wp2_with fail
      go_ret
      exact ⟨rfl, T6.out⟩
end Go.Proofs.Ytbgjfcnaiahehaa
