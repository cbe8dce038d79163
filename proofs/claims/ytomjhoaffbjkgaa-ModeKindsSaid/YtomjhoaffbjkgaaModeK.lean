/- ModeKinds holds: each call returns true. Conditions: the arguments are numbers of 64 bits. -/
import Derived.Test.YtomjhoaffbjkgaaModeL
import Derived.Deep.DeepCutAuto
import Derived.Deep.CutBlock
namespace Go.Proofs.Ytomjhoaffbjkgaa
open Go.RowKit
set_option linter.unusedVariables false
def goodI (N : Int) : MI := ⟨false, false, false, false, 0, true, true, true, true, false, true, false, 2 * N⟩
/-- What one thing alone that is amiss makes of the mode. -/
def Wants (N : Int) (i : MI) (v : Int) : Prop := nextI N 2 i = v ∧ nextI N 4 i = 4
theorem wants0 (N : Int) (h : 500 ≤ N ∧ N ≤ 9000) : Wants N ⟨false, false, true, false, 0, true, true, true, true, false, true, false, 2 * N⟩ 4 := by
  unfold Wants nextI belowI
  rw [satId2 _ (by unfold I64; omega)]
  constructor
  · simp <;> omega
  · simp
theorem wants1 (N : Int) (h : 500 ≤ N ∧ N ≤ 9000) : Wants N ⟨false, false, false, false, 0, true, true, true, true, false, true, false, N - 1⟩ 4 := by
  unfold Wants nextI belowI
  rw [satId2 _ (by unfold I64; omega)]
  constructor
  · simp <;> omega
  · simp
theorem wants2 (N : Int) (h : 500 ≤ N ∧ N ≤ 9000) : Wants N ⟨false, false, false, false, 0, true, true, true, true, false, true, false, 2 * N - 1⟩ 3 := by
  unfold Wants nextI belowI
  rw [satId2 _ (by unfold I64; omega)]
  constructor
  · simp <;> omega
  · simp
theorem wants3 (N : Int) (h : 500 ≤ N ∧ N ≤ 9000) : Wants N ⟨false, false, false, true, 0, true, true, true, true, false, true, false, 2 * N⟩ 3 := by
  unfold Wants nextI belowI
  rw [satId2 _ (by unfold I64; omega)]
  constructor
  · simp <;> omega
  · simp
theorem wants4 (N : Int) (h : 500 ≤ N ∧ N ≤ 9000) : Wants N ⟨false, false, false, false, 0, true, true, true, true, false, false, false, 2 * N⟩ 3 := by
  unfold Wants nextI belowI
  rw [satId2 _ (by unfold I64; omega)]
  constructor
  · simp <;> omega
  · simp
theorem wants5 (N : Int) (h : 500 ≤ N ∧ N ≤ 9000) : Wants N ⟨false, false, false, false, 0, true, true, true, true, true, true, false, 2 * N⟩ 2 := by
  unfold Wants nextI belowI
  rw [satId2 _ (by unfold I64; omega)]
  constructor
  · simp <;> omega
  · simp
theorem wants6 (N : Int) (h : 500 ≤ N ∧ N ≤ 9000) : Wants N ⟨false, false, false, false, 0, true, true, false, true, false, true, false, 2 * N⟩ 2 := by
  unfold Wants nextI belowI
  rw [satId2 _ (by unfold I64; omega)]
  constructor
  · simp <;> omega
  · simp
theorem wants7 (N : Int) (h : 500 ≤ N ∧ N ≤ 9000) : Wants N ⟨true, false, false, false, 0, true, true, true, true, false, true, false, 2 * N⟩ 5 := by
  unfold Wants nextI belowI
  rw [satId2 _ (by unfold I64; omega)]
  constructor
  · simp <;> omega
  · simp
theorem wants8 (N : Int) (h : 500 ≤ N ∧ N ≤ 9000) : Wants N ⟨false, false, false, false, 0, true, true, true, false, false, true, false, 2 * N⟩ 1 := by
  unfold Wants nextI belowI
  rw [satId2 _ (by unfold I64; omega)]
  constructor
  · simp <;> omega
  · simp
theorem wants9 (N : Int) (h : 500 ≤ N ∧ N ≤ 9000) : Wants N ⟨false, false, false, false, 0, true, true, true, true, false, true, true, 0⟩ 1 := by
  unfold Wants nextI belowI
  rw [satId2 _ (by unfold I64; omega)]
  constructor
  · simp <;> omega
  · simp
theorem leafK {W1 w : World} {n : Nat} {c : CF} {oc fe : Value} (N v : Int) (i : MI) (h : Wants N i v) (hs : W1.heap.size = n + 1) (hC : Cfg W1 n c oc fe) (hB : Below w.heap.size w W1) :
    ∃ (j : MI) (u : Int), Value.int .i64 v = .int .i64 u ∧ Wants N j u ∧ InC ((W1.alloc (.cells #[.bool false, .bool false, .bool false, .bool false, .int .i64 0, .bool true, .bool true, .bool true, .bool true, .bool false, .bool true, .bool false, .int .i64 (2 * N)] 38)).alloc (.cells #[.bool i.ext, .bool i.shed, .bool i.land, .bool i.ret, .int .i64 i.clears, .bool i.u0, .bool i.u1, .bool i.u2, .bool i.u3, .bool i.locks, .bool i.way, .bool i.boot, .int .i64 i.res] 38)) (n + 1 + 1) j ∧
      InC ((W1.alloc (.cells #[.bool false, .bool false, .bool false, .bool false, .int .i64 0, .bool true, .bool true, .bool true, .bool true, .bool false, .bool true, .bool false, .int .i64 (2 * N)] 38)).alloc (.cells #[.bool i.ext, .bool i.shed, .bool i.land, .bool i.ret, .int .i64 i.clears, .bool i.u0, .bool i.u1, .bool i.u2, .bool i.u3, .bool i.locks, .bool i.way, .bool i.boot, .int .i64 i.res] 38)) (n + 1) (goodI N) ∧
      Cfg ((W1.alloc (.cells #[.bool false, .bool false, .bool false, .bool false, .int .i64 0, .bool true, .bool true, .bool true, .bool true, .bool false, .bool true, .bool false, .int .i64 (2 * N)] 38)).alloc (.cells #[.bool i.ext, .bool i.shed, .bool i.land, .bool i.ret, .int .i64 i.clears, .bool i.u0, .bool i.u1, .bool i.u2, .bool i.u3, .bool i.locks, .bool i.way, .bool i.boot, .int .i64 i.res] 38)) n c oc fe ∧
      Below w.heap.size w ((W1.alloc (.cells #[.bool false, .bool false, .bool false, .bool false, .int .i64 0, .bool true, .bool true, .bool true, .bool true, .bool false, .bool true, .bool false, .int .i64 (2 * N)] 38)).alloc (.cells #[.bool i.ext, .bool i.shed, .bool i.land, .bool i.ret, .int .i64 i.clears, .bool i.u0, .bool i.u1, .bool i.u2, .bool i.u3, .bool i.locks, .bool i.way, .bool i.boot, .int .i64 i.res] 38)) := by
  have b := boxes2 (w := W1) (A := #[.bool false, .bool false, .bool false, .bool false, .int .i64 0, .bool true, .bool true, .bool true, .bool true, .bool false, .bool true, .bool false, .int .i64 (2 * N)]) (B := #[.bool i.ext, .bool i.shed, .bool i.land, .bool i.ret, .int .i64 i.clears, .bool i.u0, .bool i.u1, .bool i.u2, .bool i.u3, .bool i.locks, .bool i.way, .bool i.boot, .int .i64 i.res]) (s := 38) (t := 38) (Below.refl _ _)
  rw [hs] at b
  exact ⟨i, v, rfl, h, b.2.1, b.1, Cfg.below hC b.2.2.1 (by omega), hB.trans (b.2.2.1.mono (by have := hB.size; omega))⟩
set_option maxRecDepth 100000 in
set_option maxHeartbeats 4000000 in
theorem walkModeKinds (a0 : Int) (a1 : Int) (a2 : Int) (a3 : Int) (w : World) (w0 : (Lit.int .i64 a0).wf = true) (w1 : (Lit.int .i64 a1).wf = true) (w2 : (Lit.int .i64 a2).wf = true) (w3 : (Lit.int .i64 a3).wf = true) :
    Calls Try.prog 4 #[.int .i64 a0, .int .i64 a1, .int .i64 a2, .int .i64 a3] w fun e w' => e = .returned (.bool true) ∧ Below w.heap.size w w' := by
  have u3 := bounds_i64 w3
  clear w0 w1 w2 w3
  have t1 : -10 < a3.tmod 10 := by
    have := Int.tmod_lt_of_pos (-a3) (show (0 : Int) < 10 by omega)
    rw [Int.neg_tmod] at this; omega
  have t2 : a3.tmod 10 < 10 := Int.tmod_lt_of_pos a3 (by omega)
  go_enter Try.func4, Try.ntmps4
  go_wp2_with fail
  refine (first26 _).mono ?_
  rintro e w1 ⟨rfl, hb0⟩
  go_wp2_with fail
  refine (configC _ _ _ _).mono ?_
  rintro e w2 ⟨O, fa, fl, fc, rfl, hO, hv, hb1⟩
  have hk := cfgOf_ok (a0 % 1048576) (a1 % 1048576) (a2 % 1048576)
  generalize cfgOf (a0 % 1048576) (a1 % 1048576) (a2 % 1048576) = c at *
  simp only [cfgV]
  go_wp2_with fail
  refine upon_fresh (by simp) rfl (cfgA_one rfl rfl) ?_
  intro W1 b1 s1 h1
  have hN1 : 500 ≤ c.eland + c.margin ∧ c.eland + c.margin ≤ 9000 := by have := hk.l; have := hk.m; omega
  have ce : W1.cell? ⟨w2.heap.size, 24, none⟩ = some (.int .i64 c.eland) := cell_of_row W1 _ 24 _ _ _ h1
  have cm : W1.cell? ⟨w2.heap.size, 25, none⟩ = some (.int .i64 c.margin) := cell_of_row W1 _ 25 _ _ _ h1
  have hl := hk.l
  have hm := hk.m
  have HC := Lib.hid h1
  have BB := hb0.trans (hb1.mono hb0.size)
  have HB := Lib.hid (BB.trans (b1.mono BB.size))
  have HK := Lib.hid hk
  clear h1 b1 hb0 hb1 hv BB hk
  have hlt : w2.heap.size < W1.heap.size := (Array.getElem?_eq_some_iff.1 HC.out).1
  go_upto_block 0 with fail
  go_cut [14] (fun s14 wx => ∃ (i : MI) (v : Int), s14 = .int .i64 v ∧ Wants (c.eland + c.margin) i v ∧ InC wx (w2.heap.size + 1 + 1) i ∧ InC wx (w2.heap.size + 1) (goodI (c.eland + c.margin)) ∧ Cfg wx w2.heap.size c (.slice (some ⟨O, 0, none⟩) 4 4) (.slice fa fl fc) ∧ Below w.heap.size w wx)
  case first =>
    go_wp2_with fail
    all_goals
      go_meet
      first
        | exact leafK _ _ _ (wants0 _ hN1) s1 HC.out HB.out
        | exact leafK _ _ _ (wants1 _ hN1) s1 HC.out HB.out
        | exact leafK _ _ _ (wants2 _ hN1) s1 HC.out HB.out
        | exact leafK _ _ _ (wants3 _ hN1) s1 HC.out HB.out
        | exact leafK _ _ _ (wants4 _ hN1) s1 HC.out HB.out
        | exact leafK _ _ _ (wants5 _ hN1) s1 HC.out HB.out
        | exact leafK _ _ _ (wants6 _ hN1) s1 HC.out HB.out
        | exact leafK _ _ _ (wants7 _ hN1) s1 HC.out HB.out
        | exact leafK _ _ _ (wants8 _ hN1) s1 HC.out HB.out
        | exact leafK _ _ _ (wants9 _ hN1) s1 HC.out HB.out
  case rest =>
    obtain ⟨i, v, rfl, ⟨hw1, hw2⟩, hx, hg, hc, hb⟩ := hcut
    have k1 := fun (oc fe : Value) (w : World) => nextCfg c HK.out oc fe 1 (goodI (c.eland + c.margin)) w
    rw [show nextI (c.eland + c.margin) 1 (goodI (c.eland + c.margin)) = 1 by unfold nextI belowI goodI; rw [satId2 _ (by unfold I64; omega)]; simp <;> omega] at k1
    have k2 := fun (oc fe : Value) (w : World) => nextCfg c HK.out oc fe 2 i w
    rw [hw1] at k2
    have k3 := fun (oc fe : Value) (w : World) => nextCfg c HK.out oc fe 4 i w
    rw [hw2] at k3
    have K1 := Lib.hid k1
    have K2 := Lib.hid k2
    have K3 := Lib.hid k3
    have FX := Lib.hid hx
    have FG := Lib.hid hg
    have FC := Lib.hid hc
    have FB := Lib.hid hb
    have qq : (v == v) = true := by simp
    clear k1 k2 k3 hw1 hw2 hx hg hc hb HC HB HK ce cm
    go_wp2_with (first | refine wpList_load_row_g rfl 34 _ rfl w2.heap.size rfl 34 _ (0, 0) _ FC.out Try.underlying34 rfl (by kernel_rfl) ?_ | refine wpList_load_row_g rfl 38 _ rfl (w2.heap.size + 1) rfl 38 _ (0, 0) _ FG.out Try.underlying38 rfl (by kernel_rfl) ?_)
    refine (K1.out _ _ _).mono ?_
    rintro e w3 ⟨rfl, hb⟩
    have GX := Lib.hid (InC.below FX.out hb)
    have GC := Lib.hid (Cfg.below FC.out hb (Array.getElem?_eq_some_iff.1 FC.out).1)
    have GB := Lib.hid (FB.out.trans (hb.mono FB.out.size))
    clear hb FX FG FC FB
    go_wp2_with (first | refine wpList_load_row_g rfl 34 _ rfl w2.heap.size rfl 34 _ (0, 0) _ GC.out Try.underlying34 rfl (by kernel_rfl) ?_ | refine wpList_load_row_g rfl 38 _ rfl (w2.heap.size + 1 + 1) rfl 38 _ (0, 0) _ GX.out Try.underlying38 rfl (by kernel_rfl) ?_)
    refine (K2.out _ _ _).mono ?_
    rintro e w4 ⟨rfl, hb⟩
    have HX := Lib.hid (InC.below GX.out hb)
    have HC := Lib.hid (Cfg.below GC.out hb (Array.getElem?_eq_some_iff.1 GC.out).1)
    have HB := Lib.hid (GB.out.trans (hb.mono GB.out.size))
    clear hb GX GC GB
    go_wp2_with (first | refine wpList_load_row_g rfl 34 _ rfl w2.heap.size rfl 34 _ (0, 0) _ HC.out Try.underlying34 rfl (by kernel_rfl) ?_ | refine wpList_load_row_g rfl 38 _ rfl (w2.heap.size + 1 + 1) rfl 38 _ (0, 0) _ HX.out Try.underlying38 rfl (by kernel_rfl) ?_)
    refine (K3.out _ _ _).mono ?_
    rintro e w5 ⟨rfl, hb⟩
    have IB := Lib.hid (HB.out.trans (hb.mono HB.out.size))
    clear hb HX HC HB
    go_wp2_with fail
    go_ret
    exact ⟨rfl, IB.out⟩
end Go.Proofs.Ytomjhoaffbjkgaa
