/- On a line what stands at each place is as high as it is. Conditions: none. -/
import Derived.Test.YtppomdpppidbaaaDoorTabL
namespace Go.Proofs.YtppomdpppidbaaaDoor
open Go.RowKit
set_option linter.unusedVariables false
theorem tmod_t (a : Int) (b : Int) (hb : 0 < b) : -b < a.tmod b ∧ a.tmod b < b := by
  have h1 := Int.tmod_lt_of_pos a hb
  have h2 := Int.tmod_lt_of_pos (-a) hb
  rw [Int.neg_tmod] at h2
  omega
set_option maxRecDepth 20000 in
set_option maxHeartbeats 4000000 in
theorem walkTableLines (a0 : Int) (a1 : Int) (a2 : Int) (a3 : Int) (a4 : Int) (w : World) (w0 : (Lit.int .i64 a0).wf = true) (w1 : (Lit.int .i64 a1).wf = true) (w2 : (Lit.int .i64 a2).wf = true) (w3 : (Lit.int .i64 a3).wf = true) (w4 : (Lit.int .i64 a4).wf = true) :
    Calls Tryd.prog 7 #[.int .i64 a0, .int .i64 a1, .int .i64 a2, .int .i64 a3, .int .i64 a4] w fun e w' => e = .returned (.bool true) ∧ Below w.heap.size w w' := by
  obtain ⟨b0, b0'⟩ := bounds_i64 w0
  obtain ⟨b1, b1'⟩ := bounds_i64 w1
  obtain ⟨b2, b2'⟩ := bounds_i64 w2
  obtain ⟨b3, b3'⟩ := bounds_i64 w3
  obtain ⟨b4, b4'⟩ := bounds_i64 w4
  clear w0 w1 w2 w3 w4
  have t0 := tmod_t a0 100000 (by omega)
  have t1 := tmod_t a1 100000 (by omega)
  have t2 := tmod_t a2 1000 (by omega)
  have t3 := tmod_t a3 1000 (by omega)
  go_enter Tryd.func7, Tryd.ntmps7
  go_wp2_with fail
  refine (tabFirst _).mono ?_
  rintro e wa ⟨rfl, hb1⟩
  have HB := Lib.hid hb1
  clear hb1
  go_upto_region 8 with fail
  have u2 : 0 ≤ a2.tmod 1000 % 1000 ∧ a2.tmod 1000 % 1000 < 1000 := ⟨Int.emod_nonneg _ (by omega), Int.emod_lt_of_pos _ (by omega)⟩
  have u3 : 0 ≤ (a3.tmod 1000 + 1000) % 1000 ∧ (a3.tmod 1000 + 1000) % 1000 < 1000 := ⟨Int.emod_nonneg _ (by omega), Int.emod_lt_of_pos _ (by omega)⟩
  obtain ⟨W, hW⟩ : ∃ W, a2.tmod 1000 % 1000 + 1 = W := ⟨_, rfl⟩
  rw [hW]
  have w1 : 1 ≤ W := by omega
  have w2 : W ≤ 1000 := by omega
  generalize (a3.tmod 1000 + 1000) % 1000 = S at *
  generalize a0.tmod 100000 = X at *
  generalize a1.tmod 100000 = Y at *
  clear hW u2 t2 t3
  have t4 := tmod_t a4 (W + 1) (by omega)
  have e0 : ((W + 1 : Int) == 0) = false := by rw [beq_eq_false_iff_ne]; omega
  go_upto_region 9 with fail
  have u4 : 0 ≤ (a4.tmod (W + 1) + W + 1) % (W + 1) ∧ (a4.tmod (W + 1) + W + 1) % (W + 1) < W + 1 := ⟨Int.emod_nonneg _ (by omega), Int.emod_lt_of_pos _ (by omega)⟩
  generalize (a4.tmod (W + 1) + W + 1) % (W + 1) = C at *
  clear t4 e0
  have m1 : 0 ≤ W * S := Int.mul_nonneg (by omega) (by omega)
  have m2 : W * S ≤ 1000 * 1000 := Int.mul_le_mul (by omega) (by omega) (by omega) (by omega)
  have m3 : 0 ≤ C * S := Int.mul_nonneg (by omega) (by omega)
  have m4 : C * S ≤ 1000 * 1000 := Int.mul_le_mul (by omega) (by omega) (by omega) (by omega)
  have T := f2_ok (a := X) (b := X + W) (c := Y) (d := Y + W * S) (by omega) (by omega) (by omega) (by omega) (by omega) (by omega)
  have la := line_at T w1 (c := C) (by omega) (by omega)
  obtain ⟨P, hP⟩ : ∃ P, W * S = P := ⟨_, rfl⟩
  obtain ⟨Q, hQ⟩ : ∃ Q, C * S = Q := ⟨_, rfl⟩
  have v1 : IntKind.i64.wrap (W * S) = P := by rw [hP]; exact IntWalk.i64_in _ (by omega)
  have v2 : IntKind.i64.wrap (C * S) = Q := by rw [hQ]; exact IntWalk.i64_in _ (by omega)
  rw [hQ] at la m3 m4
  have EP := Lib.hid hP
  have EQ := Lib.hid hQ
  rw [hP] at T la m1 m2
  clear hP hQ
  have v3 : IntKind.i64.wrap (Y + P) = Y + P := IntWalk.i64_in _ (by omega)
  have v4 : IntKind.i64.wrap (Y + Q) = Y + Q := IntWalk.i64_in _ (by omega)
  have TT := Lib.hid T
  have LA := Lib.hid la
  clear la T m1 m2 m3 m4
  go_wp2_with fail
  have B1 := Lib.hid (Bx.new wa #[.int .i64 X, .int .i64 Y, .int .i64 (X + W), .int .i64 (Y + P)] 24)
  generalize World.alloc wa _ = W1 at *
  refine (tabAtC ⟨wa.heap.size, 0, none⟩ 2 2 (f2 X (X + W)) (f2 Y (Y + P)) (X + C) TT.out _ (pts2 B1.out.row)).mono ?_
  rintro e wb ⟨rfl, hb⟩
  rw [LA.out.1, LA.out.2]
  have B2 := Lib.hid (B1.out.below hb)
  clear hb B1
  go_upto_region 11 with fail
  have B3 := Lib.hid (B2.out.below ((Below.refl _ _).alloc (Nat.le_refl _) (.cells #[.int .i64 (Y + Q), .int .i64 (Y + Q)] 27)))
  have S3 := Lib.hid (Bx.new wb #[.int .i64 (Y + Q), .int .i64 (Y + Q)] 27)
  clear B2
  generalize World.alloc wb _ = W3 at *
  go_wp2_with fail
  refine (backC ⟨wa.heap.size, 0, none⟩ 2 2 (f2 X (X + W)) (f2 Y (Y + P)) (Y + Q) TT.out _ (pts2 B3.out.row)).mono ?_
  rintro e wc ⟨rfl, hb⟩
  have B4 := Lib.hid (B3.out.below hb)
  have S4 := Lib.hid (S3.out.below hb)
  clear hb B3 S3
  by_cases hS : S = 0
  · subst hS
    have hP : P = W * 0 := EP.out.symm
    have hQ : Q = 0 := by rw [← EQ.out]; simp
    have T0 := TT.out
    rw [hP] at T0
    have lb := line_back0 T0 w1
    rw [← hP] at lb
    subst hQ
    rw [show Y + 0 = Y by omega] at *
    rw [lb.1, lb.2]
    clear lb hP T0 LA TT
    have BB := Lib.hid (HB.out.trans ((B4.out.lo.alloc B4.out.lo.size (.cells #[.int .i64 X, .int .i64 (X + W)] 27)).mono HB.out.size))
    have p0 := ((S4.out.below ((Below.refl _ _).alloc (Nat.le_refl _) (.cells #[.int .i64 X, .int .i64 (X + W)] 27))).cell 0 rfl)
    have p1 := ((S4.out.below ((Below.refl _ _).alloc (Nat.le_refl _) (.cells #[.int .i64 X, .int .i64 (X + W)] 27))).cell 1 rfl)
    have q0 := (Bx.new wc #[.int .i64 X, .int .i64 (X + W)] 27).cell 0 rfl
    have q1 := (Bx.new wc #[.int .i64 X, .int .i64 (X + W)] 27).cell 1 rfl
    go_upto_region 12 with fail
    generalize World.alloc wc _ = W5 at *
    go_wp2_with fail
    go_returns
    exact ⟨rfl, BB.out⟩
  · have T1 : TabOk 2 (f2 X (X + W)) (f2 Y (Y + W * S)) := by rw [EP.out]; exact TT.out
    have lb := line_back T1 w1 (show 1 ≤ S by omega) (c := C) (by omega) (by omega)
    rw [EP.out, EQ.out] at lb
    rw [lb.1, lb.2]
    clear lb T1 LA TT
    have BB := Lib.hid (HB.out.trans ((B4.out.lo.alloc B4.out.lo.size (.cells #[.int .i64 (X + C), .int .i64 (X + C)] 27)).mono HB.out.size))
    have p0 := ((S4.out.below ((Below.refl _ _).alloc (Nat.le_refl _) (.cells #[.int .i64 (X + C), .int .i64 (X + C)] 27))).cell 0 rfl)
    have p1 := ((S4.out.below ((Below.refl _ _).alloc (Nat.le_refl _) (.cells #[.int .i64 (X + C), .int .i64 (X + C)] 27))).cell 1 rfl)
    have q0 := (Bx.new wc #[.int .i64 (X + C), .int .i64 (X + C)] 27).cell 0 rfl
    have q1 := (Bx.new wc #[.int .i64 (X + C), .int .i64 (X + C)] 27).cell 1 rfl
    go_upto_region 12 with fail
    generalize World.alloc wc _ = W5 at *
    go_wp2_with fail
    go_returns
    exact ⟨rfl, BB.out⟩
end Go.Proofs.YtppomdpppidbaaaDoor
