/- CoulombRows holds: each call returns true. Conditions: the arguments are numbers of 64 bits. -/
import Derived.Test.YtomjhoaffbjkgaaCoul
import Derived.Test.YtomjhoaffbjkgaaCfg
namespace Go.Proofs.Ytomjhoaffbjkgaa
open Go.RowKit
set_option linter.unusedVariables false
def CF.k0 (c : CF) : CK := ⟨100000, 500, c.err, 0, 0⟩
theorem ctrNew (c : CF) (oc fe : Value) (a b : Int) (w : World) :
    Calls Try.prog 29 #[.agg (cfgA c oc fe), .agg #[.int .i64 a, .int .i64 b]] w fun e w' => ∃ B, e = .returned (.pointer (some ⟨B, 0, none⟩)) ∧ w.heap.size ≤ B ∧ Ctr w' B (c.k0.set a b) ∧ Below w.heap.size w w' := by
  have g5 : (cfgA c oc fe)[5]? = some (.int .i64 100000) := rfl
  have g7 : (cfgA c oc fe)[7]? = some (.int .i64 500) := rfl
  have g18 : (cfgA c oc fe)[18]? = some (.int .i64 c.err) := rfl
  go_enter Try.func29, Try.ntmps29
  go_wp2_with fail
  refine (ctrSet _ c.k0 a b _ ?_).mono ?_
  · have h := heap_alloc_new ((w.alloc (.cells (cfgA c oc fe) 34)).alloc (.cells #[.int .i64 a, .int .i64 b] 23)) (.cells #[.int .i64 100000, .int .i64 500, .int .i64 c.err, .int .i64 0, .int .i64 0] 85)
    simp only [World.size_alloc] at h
    exact h
  rintro e w1 ⟨rfl, h1, ho⟩
  have hb0 := (((Below.refl w.heap.size w).alloc (Nat.le_refl _) (.cells (cfgA c oc fe) 34)).alloc (by simp) (.cells #[.int .i64 a, .int .i64 b] 23)).alloc (by simp; omega) (.cells #[.int .i64 100000, .int .i64 500, .int .i64 c.err, .int .i64 0, .int .i64 0] 85)
  have HB := Lib.hid (hb0.trans (ho.below (by omega) hb0.size))
  have H1 := Lib.hid h1
  clear hb0 ho h1
  go_wp2_with fail
  go_ret
  exact ⟨_, rfl, by omega, H1.out, HB.out⟩
theorem first18 (w : World) : Calls Try.prog 28 #[] w fun e w' => e = .returned (.bool true) ∧ Below w.heap.size w w' := by
  go_enter Try.func28, Try.ntmps28
  go_wp2_with fail
  refine (configC _ _ _ _).mono ?_
  rintro e w1 ⟨O, fa, fl, fc, rfl, hO, hv, hb⟩
  have he : (cfgOf (0 % 1048576) (0 % 1048576) (0 % 1048576)).err = 0 := rfl
  generalize cfgOf (0 % 1048576) (0 % 1048576) (0 % 1048576) = c at *
  simp only [cfgV]
  go_wp2_with fail
  refine upon_fresh (by simp) rfl (cfgA_one rfl rfl) ?_
  intro W1 b1 s1 h1
  have HC := Lib.hid h1
  have HB := Lib.hid (hb.trans (b1.mono hb.size))
  clear h1 b1 hb hv
  go_wp2_with (refine wpList_load_row_g rfl 34 _ rfl w1.heap.size rfl 34 _ (0, 0) _ HC.out Try.underlying34 rfl (by kernel_rfl) ?_)
  refine (ctrNew _ _ _ _ _ _).mono ?_
  rintro e w2 ⟨B, rfl, hB, hk, hb2⟩
  have hk5 : c.k0.set 5 5 = ⟨100000, 500, 0, 5, 5⟩ := by unfold CF.k0 CK.set clampI; rw [he]; rfl
  rw [hk5] at hk
  have HK := Lib.hid hk
  have HB2 := Lib.hid (HB.out.trans (hb2.mono HB.out.size))
  have hBn := Nat.le_trans HB.out.size hB
  clear hk hb2 HB
  go_wp2_with fail
  refine (ctrStepT B _ (by constructor <;> (unfold I64; simp)) 1 (by unfold I64; omega) _ HK.out).mono ?_
  rw [show (CK.mk 100000 500 0 5 5).step 1 true = ⟨100000, 500, 0, 4, 4⟩ from rfl]
  rintro e w3 ⟨rfl, hk3, ho⟩
  have HB3 := Lib.hid (HB2.out.trans (ho.below hBn HB2.out.size))
  clear hk3 ho
  go_wp2_with fail
  go_ret
  exact ⟨rfl, HB3.out.alloc HB3.out.size _⟩
end Go.Proofs.Ytomjhoaffbjkgaa
