/- The statements of chapter 26: each call returns true. Conditions: the arguments are numbers of 64 bits and bools. -/
import Derived.Test.YtomjhoaffbjkgaaMode
import Derived.Test.YtomjhoaffbjkgaaCfg
import Derived.Test.YtomjhoaffbjkgaaBase
namespace Go.Proofs.Ytomjhoaffbjkgaa
open Go.RowKit
structure CF.Ok (c : CF) : Prop where
  d : 1 ≤ c.D ∧ c.D ≤ 4
  b : 1 ≤ c.B ∧ c.B ≤ 3
  s : 1 ≤ c.S ∧ c.S ≤ 4
  p : 1 ≤ c.P ∧ c.P ≤ 9
  h : 1 ≤ c.H ∧ c.H ≤ 5
  e : 0 ≤ c.err ∧ c.err ≤ 4
  l : 0 ≤ c.eland ∧ c.eland ≤ 7000
  m : 500 ≤ c.margin ∧ c.margin ≤ 2000
theorem cfgOf_ok (n m k : Int) : (cfgOf n m k).Ok := by
  unfold cfgOf
  constructor <;> simp only <;> omega
theorem satId2 (a : Int) (h : I64 a) : sat a = a := by unfold sat; unfold I64 at h; omega
theorem nextCfg (c : CF) (hc : c.Ok) (oc fe : Value) (mode : Int) (i : MI) (w : World) :
    Calls Try.prog 18 #[.agg (cfgA c oc fe), .int .i64 mode, i.v] w fun e w' => e = .returned (.int .i64 (nextI (c.eland + c.margin) mode i)) ∧ Below w.heap.size w w' := by
  have := hc.l; have := hc.m
  have h := nextC (.int .i64 c.D) (.int .i64 c.B) (.int .i64 c.S) (.int .i64 c.P) (.int .i64 c.H) (.int .i64 100000) (.int .i64 0) (.int .i64 500) (.int .i64 20000) (.int .i64 10000) (.int .i64 12000) (.int .i64 3000) (.int .i64 4200) (.int .i64 300) (.int .i64 600) (.int .i64 1000) (.int .i64 20) (.int .i64 100) (.int .i64 c.err) (.int .i64 50) oc (.int .i64 3000) (.int .i64 500) (.int .i64 3000) c.eland c.margin fe (by unfold I64; omega) (by unfold I64; omega) mode i w
  rw [satId2 _ (by unfold I64; omega)] at h
  exact h
def mi0 : MI := ⟨false, false, false, false, 0, false, false, false, false, false, false, false, 0⟩
def miL : MI := ⟨false, false, true, false, 0, false, false, false, false, false, false, false, 0⟩
set_option maxRecDepth 100000 in
theorem first26 (w : World) : Calls Try.prog 15 #[] w fun e w' => e = .returned (.bool true) ∧ Below w.heap.size w w' := by
  go_enter Try.func15, Try.ntmps15
  go_wp2_with fail
  refine (configC _ _ _ _).mono ?_
  rintro e w1 ⟨O, fa, fl, fc, rfl, hO, hv, hb⟩
  have hk := cfgOf_ok (0 % 1048576) (0 % 1048576) (0 % 1048576)
  generalize cfgOf (0 % 1048576) (0 % 1048576) (0 % 1048576) = c at *
  simp only [cfgV]
  go_wp2_with fail
  refine upon_fresh (by simp) rfl (cfgA_one rfl rfl) ?_
  intro W1 b1 s1 h1
  have K1 := Lib.hid fun oc fe w => nextCfg c hk oc fe 4 mi0 w
  have K2 := Lib.hid fun oc fe w => nextCfg c hk oc fe 1 miL w
  have n1 : nextI (c.eland + c.margin) 4 mi0 = 4 := rfl
  have n2 : nextI (c.eland + c.margin) 1 miL = 4 := rfl
  rw [n1] at K1
  rw [n2] at K2
  have HC := Lib.hid h1
  have HB := Lib.hid (hb.trans (b1.mono hb.size))
  clear h1 b1 hb hv
  go_wp2_with (refine wpList_load_row rfl 34 _ rfl w1.heap.size rfl 34 _ (0, 0) _ HC.out Try.underlying34 rfl (by kernel_rfl) ?_)
  refine (K1.out _ _ _).mono ?_
  rintro e w2 ⟨rfl, hb2⟩
  have HC2 := Lib.hid (Cfg.below HC.out hb2 (Array.getElem?_eq_some_iff.1 HC.out).1)
  have HB2 := Lib.hid (HB.out.trans (hb2.mono HB.out.size))
  clear HC HB hb2
  go_wp2_with (refine wpList_load_row_g rfl 34 _ rfl w1.heap.size rfl 34 _ (0, 0) _ HC2.out Try.underlying34 rfl (by kernel_rfl) ?_)
  refine (K2.out _ _ _).mono ?_
  rintro e w3 ⟨rfl, hb3⟩
  go_wp2_with fail
  go_ret
  exact ⟨rfl, HB2.out.trans (hb3.mono HB2.out.size)⟩
def z0 : Int := 0
set_option maxRecDepth 100000 in
set_option maxHeartbeats 4000000 in
theorem walkModeReserves (a0_0 : Int) (a0_1 : Int) (a1_0 : Int) (a1_1 : Int) (a2 : Int) (w : World) (w0_0 : (Lit.int .i64 a0_0).wf = true) (_w0_1 : (Lit.int .i64 a0_1).wf = true) (w1_0 : (Lit.int .i64 a1_0).wf = true) (_w1_1 : (Lit.int .i64 a1_1).wf = true) (w2 : (Lit.int .i64 a2).wf = true) :
    Calls Try.prog 3 #[.agg #[.int .i64 a0_0, .int .i64 a0_1], .agg #[.int .i64 a1_0, .int .i64 a1_1], .int .i64 a2] w fun e w' => e = .returned (.bool true) ∧ Below w.heap.size w w' := by
  have u0 := bounds_i64 w0_0
  have u1 := bounds_i64 w1_0
  have u2 := bounds_i64 w2
  clear w0_0 w1_0 w2 _w0_1 _w1_1
  by_cases h1 : a0_0 < 0
  · go_enter Try.func3, Try.ntmps3
    go_wp2_with fail
    refine (first26 _).mono ?_
    rintro e w1 ⟨rfl, hb⟩
    obtain ⟨r0, r1, B1, s1⟩ := boxes2 hb
    have p0 : w1.cell? ⟨w.heap.size, 0, none⟩ = some (.int .i64 a0_0) := cell_of_row w1 _ 0 _ _ _ r0
    clear hb r0 r1
    have BB := Lib.hid B1
    clear B1
    go_wp2_with fail
    go_ret
    exact ⟨rfl, BB.out⟩
  by_cases h2 : a1_0 < 0
  · go_enter Try.func3, Try.ntmps3
    go_wp2_with fail
    refine (first26 _).mono ?_
    rintro e w1 ⟨rfl, hb⟩
    obtain ⟨r0, r1, B1, s1⟩ := boxes2 hb
    have p0 : w1.cell? ⟨w.heap.size, 0, none⟩ = some (.int .i64 a0_0) := cell_of_row w1 _ 0 _ _ _ r0
    have q0 : w1.cell? ⟨w.heap.size + 1, 0, none⟩ = some (.int .i64 a1_0) := cell_of_row w1 _ 0 _ _ _ r1
    clear hb r0 r1
    have BB := Lib.hid B1
    clear B1
    go_wp2_with fail
    go_ret
    exact ⟨rfl, BB.out⟩
  have t1 : a2 < 0 → -1073741824 < (a2 + 1).tmod 1073741824 ∧ (a2 + 1).tmod 1073741824 ≤ 0 := fun h => by
    have := Int.tmod_lt_of_pos (-(a2 + 1)) (show (0 : Int) < 1073741824 by omega)
    have := Int.tmod_nonneg 1073741824 (show 0 ≤ -(a2 + 1) by omega)
    rw [Int.neg_tmod] at *; omega
  have t2 : 0 ≤ a2 → 0 ≤ a2.tmod 1073741824 ∧ a2.tmod 1073741824 < 1073741824 := fun h => ⟨Int.tmod_nonneg _ h, Int.tmod_lt_of_pos _ (by omega)⟩
  by_cases h3 : a2 < 0 <;> by_cases h4 : a0_0 < 1152921504606846976 <;> by_cases h5 : a0_0 ≤ a1_0
  all_goals
    go_enter Try.func3, Try.ntmps3
    go_wp2_with fail
    refine (first26 _).mono ?_
    rintro e w1 ⟨rfl, hb⟩
    obtain ⟨r0, r1, B1, s1⟩ := boxes2 hb
    have p0 : w1.cell? ⟨w.heap.size, 0, none⟩ = some (.int .i64 a0_0) := cell_of_row w1 _ 0 _ _ _ r0
    have p1 : w1.cell? ⟨w.heap.size, 1, none⟩ = some (.int .i64 a0_1) := cell_of_row w1 _ 1 _ _ _ r0
    have q0 : w1.cell? ⟨w.heap.size + 1, 0, none⟩ = some (.int .i64 a1_0) := cell_of_row w1 _ 0 _ _ _ r1
    have q1 : w1.cell? ⟨w.heap.size + 1, 1, none⟩ = some (.int .i64 a1_1) := cell_of_row w1 _ 1 _ _ _ r1
    clear hb r0 r1
    have BB := Lib.hid B1
    clear B1
    go_wp2_with fail
    refine (reserveC _ _ _ _ _ _ _).mono ?_
    rintro e w2 ⟨rfl, hb2⟩
    replace p0 := below_cell hb2 p0
    replace p1 := below_cell hb2 p1
    replace q0 := below_cell hb2 q0
    replace q1 := below_cell hb2 q1
    replace BB := Lib.hid (BB.out.trans (hb2.mono BB.out.size))
    replace s1 := Nat.le_trans s1 hb2.size
    clear hb2
    go_wp2_with fail
    refine (reserveC _ _ _ _ _ _ _).mono ?_
    rintro e w3 ⟨rfl, hb2⟩
    replace p0 := below_cell hb2 p0
    replace p1 := below_cell hb2 p1
    replace q0 := below_cell hb2 q0
    replace q1 := below_cell hb2 q1
    replace BB := Lib.hid (BB.out.trans (hb2.mono BB.out.size))
    replace s1 := Nat.le_trans s1 hb2.size
    clear hb2
    go_wp2_with fail
    refine (reserveC _ _ _ _ _ _ _).mono ?_
    rintro e w4 ⟨rfl, hb2⟩
    replace p0 := below_cell hb2 p0
    replace p1 := below_cell hb2 p1
    replace q0 := below_cell hb2 q0
    replace q1 := below_cell hb2 q1
    replace BB := Lib.hid (BB.out.trans (hb2.mono BB.out.size))
    replace s1 := Nat.le_trans s1 hb2.size
    clear hb2
    have qa := fun o => cell_alloc q0 o
    have qb := fun o => cell_alloc q1 o
    go_wp2_with fail
    refine (reserveC _ _ _ _ _ _ _).mono ?_
    rintro e w5 ⟨rfl, hb2⟩
    have p0' := below_cell hb2 (cell_alloc p0 _)
    have q0' := below_cell hb2 (cell_alloc q0 _)
    have B5 := Lib.hid ((BB.out.alloc BB.out.size _).trans (hb2.mono (by simp; have := BB.out.size; omega)))
    clear hb2 p0 p1 q0 q1 qa qb
    have pa := fun o => cell_alloc p0' o
    have qa := fun o => cell_alloc q0' o
    go_wp2_with fail
    all_goals
      go_ret
      exact ⟨by first | rfl | (simp; done) | (simp; omega), B5.out.alloc B5.out.size _⟩
end Go.Proofs.Ytomjhoaffbjkgaa
