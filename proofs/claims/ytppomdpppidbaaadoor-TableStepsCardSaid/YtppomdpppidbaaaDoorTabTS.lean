/- Where a table is level, a height comes back to all of it. Conditions: none. -/
import Derived.Test.YtppomdpppidbaaaDoorTabL
import Derived.Test.YtppomdpppidbaaaDoorNumb
namespace Go.Proofs.YtppomdpppidbaaaDoor
open Go.RowKit
set_option linter.unusedVariables false
theorem tmod_s (a : Int) (b : Int) (hb : 0 < b) : -b < a.tmod b ∧ a.tmod b < b := by
  have h1 := Int.tmod_lt_of_pos a hb
  have h2 := Int.tmod_lt_of_pos (-a) hb
  rw [Int.neg_tmod] at h2
  omega
theorem Bx.alloc' {w wr : World} {cs : Array Value} {t : TypeId} (h : Bx w wr cs t) (o : Obj) : Bx w (wr.alloc o) cs t := h.below ((Below.refl _ _).alloc (Nat.le_refl _) o)
set_option maxRecDepth 20000 in
set_option maxHeartbeats 4000000 in
theorem walkTableSteps (a0 : Int) (a1 : Int) (a2 : Int) (a3 : Int) (w : World) (w0 : (Lit.int .i64 a0).wf = true) (w1 : (Lit.int .i64 a1).wf = true) (w2 : (Lit.int .i64 a2).wf = true) (w3 : (Lit.int .i64 a3).wf = true) :
    Calls Tryd.prog 3 #[.int .i64 a0, .int .i64 a1, .int .i64 a2, .int .i64 a3] w fun e w' => e = .returned (.bool true) ∧ Below w.heap.size w w' := by
  obtain ⟨b0, b0'⟩ := bounds_i64 w0
  obtain ⟨b1, b1'⟩ := bounds_i64 w1
  obtain ⟨b2, b2'⟩ := bounds_i64 w2
  obtain ⟨b3, b3'⟩ := bounds_i64 w3
  clear w0 w1 w2 w3
  have t0 := tmod_s a0 100000 (by omega)
  have t1 := tmod_s a1 1000 (by omega)
  have t2 := tmod_s a2 100000 (by omega)
  have t3 := tmod_s a3 1000 (by omega)
  go_enter Tryd.func3, Tryd.ntmps3
  go_wp2_with fail
  refine (tabFirst _).mono ?_
  rintro e wa ⟨rfl, hb1⟩
  have HB := Lib.hid hb1
  clear hb1
  go_upto_region 8 with fail
  have u1 : 0 ≤ a1.tmod 1000 % 1000 ∧ a1.tmod 1000 % 1000 < 1000 := ⟨Int.emod_nonneg _ (by omega), Int.emod_lt_of_pos _ (by omega)⟩
  have u3 : 0 ≤ a3.tmod 1000 % 1000 ∧ a3.tmod 1000 % 1000 < 1000 := ⟨Int.emod_nonneg _ (by omega), Int.emod_lt_of_pos _ (by omega)⟩
  obtain ⟨W, hW⟩ : ∃ W, a1.tmod 1000 % 1000 + 1 = W := ⟨_, rfl⟩
  obtain ⟨U, hU⟩ : ∃ U, a3.tmod 1000 % 1000 + 1 = U := ⟨_, rfl⟩
  rw [hW, hU]
  have w1 : 1 ≤ W := by omega
  have w2 : W ≤ 1000 := by omega
  have z1 : 1 ≤ U := by omega
  have z2 : U ≤ 1000 := by omega
  generalize a0.tmod 100000 = X at *
  generalize a2.tmod 100000 = Y at *
  clear hW hU u1 u3 t1 t3
  have m1 : 1 ≤ U * W := by
    have := Int.mul_le_mul z1 w1 (by omega) (by omega)
    omega
  have m2 : U * W ≤ 1000 * 1000 := Int.mul_le_mul z2 w2 (by omega) (by omega)
  have T := f3_ok (a := X) (b := X + W) (c := X + 2 * W) (p := Y) (q := Y) (r := Y + U * W) (by omega) (by omega) (by omega) (by omega) (by omega) (by omega) (by omega) (by omega)
  have sb := step_back T w1 z1 m1
  obtain ⟨P, hP⟩ : ∃ P, U * W = P := ⟨_, rfl⟩
  have v1 : IntKind.i64.wrap (U * W) = P := by rw [hP]; exact IntWalk.i64_in _ (by omega)
  rw [hP] at T sb m1 m2
  have v3 : IntKind.i64.wrap (Y + P) = Y + P := IntWalk.i64_in _ (by omega)
  have v4 : IntKind.i64.wrap (Y + P + 1) = Y + P + 1 := IntWalk.i64_in _ (by omega)
  have TT := Lib.hid T
  have SB := Lib.hid sb
  clear sb T m1 m2 hP
  go_upto_region 9 with fail
  have B1 := Lib.hid (Bx.new wa #[.int .i64 X, .int .i64 Y, .int .i64 (X + W), .int .i64 Y, .int .i64 (X + 2 * W), .int .i64 (Y + P)] 24)
  generalize World.alloc wa _ = W1 at *
  go_wp2_with fail
  refine (backC ⟨wa.heap.size, 0, none⟩ 3 3 (f3 X (X + W) (X + 2 * W)) (f3 Y Y (Y + P)) Y TT.out _ (pts3 B1.out.row)).mono ?_
  rintro e wb ⟨rfl, hb⟩
  rw [SB.out.1.1, SB.out.1.2]
  have B2 := Lib.hid ((B1.out.below hb).alloc' (.cells #[.int .i64 X, .int .i64 (X + W)] 27))
  have S2 := Lib.hid (Bx.new wb #[.int .i64 X, .int .i64 (X + W)] 27)
  clear hb B1
  go_upto_region 10 with fail
  generalize World.alloc wb _ = W2 at *
  go_wp2_with fail
  refine (backC ⟨wa.heap.size, 0, none⟩ 3 3 (f3 X (X + W) (X + 2 * W)) (f3 Y Y (Y + P)) (Y - 1) TT.out _ (pts3 B2.out.row)).mono ?_
  rintro e wc ⟨rfl, hb⟩
  rw [SB.out.2.1.1, SB.out.2.1.2]
  have B3 := Lib.hid ((B2.out.below hb).alloc' (.cells #[.int .i64 X, .int .i64 X] 27))
  have S3 := Lib.hid ((S2.out.below hb).alloc' (.cells #[.int .i64 X, .int .i64 X] 27))
  have P3 := Lib.hid (Bx.new wc #[.int .i64 X, .int .i64 X] 27)
  clear hb B2 S2
  go_upto_region 11 with fail
  generalize World.alloc wc _ = W3 at *
  go_wp2_with fail
  refine (backC ⟨wa.heap.size, 0, none⟩ 3 3 (f3 X (X + W) (X + 2 * W)) (f3 Y Y (Y + P)) (Y + P + 1) TT.out _ (pts3 B3.out.row)).mono ?_
  rintro e wd ⟨rfl, hb⟩
  rw [SB.out.2.2.1, SB.out.2.2.2]
  have B4 := Lib.hid ((B3.out.below hb).alloc' (.cells #[.int .i64 (X + 2 * W), .int .i64 (X + 2 * W)] 27))
  have S4 := Lib.hid ((S3.out.below hb).alloc' (.cells #[.int .i64 (X + 2 * W), .int .i64 (X + 2 * W)] 27))
  have P4 := Lib.hid ((P3.out.below hb).alloc' (.cells #[.int .i64 (X + 2 * W), .int .i64 (X + 2 * W)] 27))
  have Q4 := Lib.hid (Bx.new wd #[.int .i64 (X + 2 * W), .int .i64 (X + 2 * W)] 27)
  clear hb B3 S3 P3
  go_upto_region 12 with fail
  generalize World.alloc wd _ = W4 at *
  have p0 := S4.out.cell 0 rfl
  have p1 := S4.out.cell 1 rfl
  have q0 := P4.out.cell 0 rfl
  have q1 := P4.out.cell 1 rfl
  have r0 := Q4.out.cell 0 rfl
  have r1 := Q4.out.cell 1 rfl
  have KN := Lib.hid fun (w : World) => numbC 0 1 (by omega) (by omega) w
  go_wp2_with fail
  refine (KN.out _).mono ?_
  rintro e we ⟨rfl, rfl⟩
  go_wp2_with fail
  go_returns
  exact ⟨rfl, HB.out.trans (B4.out.lo.mono HB.out.size)⟩
end Go.Proofs.YtppomdpppidbaaaDoor
