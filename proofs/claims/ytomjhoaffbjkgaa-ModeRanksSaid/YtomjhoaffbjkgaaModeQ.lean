/- ModeRanks holds: each call returns true. Conditions: the arguments are numbers of 64 bits and bools. -/
import Derived.Test.YtomjhoaffbjkgaaModeL
import Derived.Test.YtomjhoaffbjkgaaCame
import Derived.Deep.DeepCutAuto
namespace Go.Proofs.Ytomjhoaffbjkgaa
open Go.RowKit
set_option linter.unusedVariables false
theorem rowB {w w' : World} {B : Nat} {o : Obj} (hb : Below w.heap.size w w') (h : w.heap[B]? = some o) : w'.heap[B]? = some o := (hb.block B (Array.getElem?_eq_some_iff.1 h).1).trans h
theorem InC.set2 {w : World} {B : Nat} {i : MI} (h : InC w B i) (b : Bool) (r : Int) : InC ((w.setCell ⟨B, 11, none⟩ (.bool b)).setCell ⟨B, 12, none⟩ (.int .i64 r)) B ⟨i.ext, i.shed, i.land, i.ret, i.clears, i.u0, i.u1, i.u2, i.u3, i.locks, i.way, b, r⟩ := by
  unfold InC at *
  simp [World.setCell, Array.getElem?_modify, h]
theorem InC.ne {w : World} {B C : Nat} {i : MI} (h : InC w B i) (hn : B ≠ C) (v u : Value) (o p : Nat) : InC ((w.setCell ⟨C, o, none⟩ v).setCell ⟨C, p, none⟩ u) B i :=
  (heap_setCell_other _ ⟨_, _, _⟩ _ _ hn).trans ((heap_setCell_other _ ⟨_, _, _⟩ _ _ hn).trans h)
theorem Cfg.ne {w : World} {B C : Nat} {c : CF} {oc fe : Value} (h : Cfg w B c oc fe) (hn : B ≠ C) (v u : Value) (o p : Nat) : Cfg ((w.setCell ⟨C, o, none⟩ v).setCell ⟨C, p, none⟩ u) B c oc fe :=
  (heap_setCell_other _ ⟨_, _, _⟩ _ _ hn).trans ((heap_setCell_other _ ⟨_, _, _⟩ _ _ hn).trans h)
theorem low1 {w : World} {B : Nat} {i : MI} (h : InC w B i) (r : Int) (A : Obj) : InC (((w.setCell ⟨B, 12, none⟩ (.int .i64 r)).setCell ⟨B, 0, none⟩ (.bool false)).alloc A) B ⟨false, i.shed, i.land, i.ret, i.clears, i.u0, i.u1, i.u2, i.u3, i.locks, i.way, i.boot, r⟩ := by
  have hl : B < w.heap.size := (Array.getElem?_eq_some_iff.1 h).1
  refine (((Below.refl _ _).alloc (Nat.le_refl _) A).block B (by simpa using hl)).trans ?_
  unfold InC at h
  simp [World.setCell, Array.getElem?_modify, h]
theorem nextMono (N : Int) (hN : 0 ≤ N ∧ N ≤ 9000) (shed land ret : Bool) (clears : Int) (u0 u1 u2 u3 locks way boot : Bool) (r L : Int) (hL : 0 ≤ L) :
    nextI N 1 ⟨false, shed, land, ret, clears, u0, u1, u2, u3, locks, way, boot, r⟩ ≤ nextI N 1 ⟨false, shed, land, ret, clears, u0, u1, u2, u3, locks, way, boot, r - L⟩ := by
  unfold nextI belowI
  rw [satId2 _ (by unfold I64; omega)]
  simp only
  generalize (locks || !u0 || !u1 || !u2) = X
  cases land <;> cases ret <;> cases way <;> cases boot <;> cases X <;> simp <;> (repeat' split) <;> omega
theorem nextRange (N m : Int) (shed land ret : Bool) (clears : Int) (u0 u1 u2 u3 locks way boot : Bool) (r : Int) : 1 ≤ nextI N m ⟨false, shed, land, ret, clears, u0, u1, u2, u3, locks, way, boot, r⟩ ∧ nextI N m ⟨false, shed, land, ret, clears, u0, u1, u2, u3, locks, way, boot, r⟩ ≤ 4 := by
  unfold nextI
  simp only [Bool.false_and, Bool.false_eq_true, if_false]
  (repeat' split) <;> omega
theorem nextLow (N m : Int) (ext shed land ret : Bool) (clears : Int) (u0 u1 u2 u3 locks way : Bool) (r : Int) (h : r < N) : nextI N m ⟨ext, shed, land, ret, clears, u0, u1, u2, u3, locks, way, false, r⟩ = 4 := by
  unfold nextI belowI
  simp [h]
theorem nextLand (N : Int) (i : MI) : nextI N 4 i = 4 := by
  unfold nextI
  simp
set_option maxRecDepth 100000 in
set_option maxHeartbeats 8000000 in
theorem walkModeRanks (a0 : Int) (a1 : Int) (a2 : Int) (a3_0 : Bool) (a3_1 : Bool) (a3_2 : Bool) (a3_3 : Bool) (a3_4 : Int) (a3_5 : Bool) (a3_6 : Bool) (a3_7 : Bool) (a3_8 : Bool) (a3_9 : Bool) (a3_10 : Bool) (a3_11 : Bool) (a3_12 : Int) (a4 : Int) (w : World) (w0 : (Lit.int .i64 a0).wf = true) (w1 : (Lit.int .i64 a1).wf = true) (w2 : (Lit.int .i64 a2).wf = true) (w3_4 : (Lit.int .i64 a3_4).wf = true) (w3_12 : (Lit.int .i64 a3_12).wf = true) (w4 : (Lit.int .i64 a4).wf = true) :
    Calls Try.prog 5 #[.int .i64 a0, .int .i64 a1, .int .i64 a2, .agg #[.bool a3_0, .bool a3_1, .bool a3_2, .bool a3_3, .int .i64 a3_4, .bool a3_5, .bool a3_6, .bool a3_7, .bool a3_8, .bool a3_9, .bool a3_10, .bool a3_11, .int .i64 a3_12], .int .i64 a4] w fun e w' => e = .returned (.bool true) ∧ Below w.heap.size w w' := by
  have u4 := bounds_i64 w4
  clear w0 w1 w2 w3_4 w3_12 w4
  have tr : -1099511627776 < a3_12.tmod 1099511627776 ∧ a3_12.tmod 1099511627776 < 1099511627776 := by
    have h1 := Int.tmod_lt_of_pos (-a3_12) (show (0 : Int) < 1099511627776 by omega)
    have h2 := Int.tmod_lt_of_pos a3_12 (show (0 : Int) < 1099511627776 by omega)
    rw [Int.neg_tmod] at h1; omega
  obtain ⟨L, hL1, hL2, hLn, hLp⟩ : ∃ L : Int, 0 ≤ L ∧ L < 1099511627776 ∧ (a4 < 0 → (-(a4 + 1)).tmod 1099511627776 = L) ∧ (0 ≤ a4 → a4.tmod 1099511627776 = L) := by
    by_cases h : a4 < 0
    · exact ⟨(-(a4 + 1)).tmod 1099511627776, Int.tmod_nonneg _ (by omega), Int.tmod_lt_of_pos _ (by omega), fun _ => rfl, fun h' => by omega⟩
    · exact ⟨a4.tmod 1099511627776, Int.tmod_nonneg _ (by omega), Int.tmod_lt_of_pos _ (by omega), fun h' => by omega, fun _ => rfl⟩
  have hLn' : a4 < 0 → -(a4 + 1).tmod 1099511627776 = L := fun h => by rw [← hLn h, Int.neg_tmod]
  have hLe : 0 ≤ a4 → a4 % 1099511627776 = L := fun h => by rw [← hLp h, Int.tmod_eq_emod_of_nonneg h]
  go_enter Try.func5, Try.ntmps5
  go_wp2_with fail
  refine (first26 _).mono ?_
  rintro e w1 ⟨rfl, hb⟩
  obtain ⟨r0, B1, s1⟩ := boxes1 hb
  have BB := Lib.hid B1
  have R0 := Lib.hid r0
  clear hb r0 B1
  go_wp2_with fail
  refine (configC _ _ _ _).mono ?_
  rintro e w2 ⟨O, fa, fl, fc, rfl, hO, hv, hb1⟩
  have hk := cfgOf_ok (a0 % 1048576) (a1 % 1048576) (a2 % 1048576)
  generalize cfgOf (a0 % 1048576) (a1 % 1048576) (a2 % 1048576) = c at *
  simp only [cfgV]
  go_wp2_with fail
  refine upon_fresh (by simp) rfl (cfgA_one rfl rfl) ?_
  intro W1 b1 s1' h1
  have hr0 := rowB b1 (rowB hb1 R0.out)
  have BX := BB.out.trans (hb1.mono BB.out.size)
  have BY := Lib.hid (BX.trans (b1.mono BX.size))
  have hC : w2.heap.size < W1.heap.size := (Array.getElem?_eq_some_iff.1 h1).1
  have n0 : w.heap.size < w2.heap.size := Nat.lt_of_lt_of_le (Array.getElem?_eq_some_iff.1 R0.out).1 hb1.size
  have ZI := Lib.hid (show InC W1 w.heap.size ⟨a3_0, a3_1, a3_2, a3_3, a3_4, a3_5, a3_6, a3_7, a3_8, a3_9, a3_10, a3_11, a3_12⟩ from hr0)
  obtain ⟨y0, y1, y2, y3, y4, y5, y6, y7, y8, y9, y10, y11, y12⟩ := ZI.out.cells
  have yf : ∀ j, W1.frozen? ⟨w.heap.size, j, none⟩ = false := fun j => by simp [World.frozen?, hr0]
  have HC := Lib.hid h1
  have hl := hk.l
  have hm := hk.m
  have HK := Lib.hid hk
  clear h1 hr0 b1 hb1 hv BX BB R0 hO hk
  go_upto_region 7 with fail
  all_goals
    go_cut [4] (fun s4 wx => s4 = .int .i64 L ∧ wx = W1)
    case first =>
      go_wp2_with fail
      all_goals
        go_meet
        first
          | exact ⟨rfl, rfl⟩
          | exact ⟨by rw [hLn (by omega)], rfl⟩
          | exact ⟨by rw [hLn' (by omega)], rfl⟩
          | exact ⟨by rw [hLp (by omega)], rfl⟩
          | exact ⟨by rw [hLe (by omega)], rfl⟩
    case rest =>
    obtain ⟨rfl, rfl⟩ := hcut
    go_upto_region 11 with fail
    go_cut [] (fun wx => InC wx w.heap.size ⟨false, a3_1, a3_2, a3_3, a3_4, a3_5, a3_6, a3_7, a3_8, a3_9, a3_10, a3_11, a3_12.tmod 1099511627776⟩ ∧ InC wx (w2.heap.size + 1) ⟨false, a3_1, a3_2, a3_3, a3_4, a3_5, a3_6, a3_7, a3_8, a3_9, a3_10, a3_11, a3_12.tmod 1099511627776 - L⟩ ∧ Cfg wx w2.heap.size c (.slice (some ⟨O, 0, none⟩) 4 4) (.slice fa fl fc) ∧ Below w.heap.size w wx)
    case first =>
      go_wp2_with fail
      all_goals
        go_meet
        refine ⟨low1 ZI.out _ _, ?_, ?_, ?_⟩
        · have q := heap_alloc_new ((wc.setCell ⟨w.heap.size, 12, none⟩ (.int .i64 (a3_12.tmod 1099511627776))).setCell ⟨w.heap.size, 0, none⟩ (.bool false)) (.cells #[.bool false, .bool a3_1, .bool a3_2, .bool a3_3, .int .i64 a3_4, .bool a3_5, .bool a3_6, .bool a3_7, .bool a3_8, .bool a3_9, .bool a3_10, .bool a3_11, .int .i64 (a3_12.tmod 1099511627776 - L)] 38)
          rw [show ((wc.setCell ⟨w.heap.size, 12, none⟩ (.int .i64 (a3_12.tmod 1099511627776))).setCell ⟨w.heap.size, 0, none⟩ (.bool false)).heap.size = w2.heap.size + 1 by simp [s1']] at q
          exact q
        · exact Cfg.below (Cfg.ne HC.out (by omega) _ _ _ _) ((Below.refl _ _).alloc (Nat.le_refl _) _) (by simpa using hC)
        · exact ((BY.out.setCell (p := ⟨w.heap.size, 12, none⟩) (Nat.le_refl _) _).setCell (p := ⟨w.heap.size, 0, none⟩) (Nat.le_refl _) _).alloc (by simp; have := BY.out.size; omega) _
    case rest =>
    obtain ⟨hi, hlow, hc, hb⟩ := hcut
    have mono := nextMono (c.eland + c.margin) (by omega) a3_1 a3_2 a3_3 a3_4 a3_5 a3_6 a3_7 a3_8 a3_9 a3_10 a3_11 (a3_12.tmod 1099511627776) L hL1
    have rng := nextRange (c.eland + c.margin) 1 a3_1 a3_2 a3_3 a3_4 a3_5 a3_6 a3_7 a3_8 a3_9 a3_10 a3_11 (a3_12.tmod 1099511627776)
    have k1 := fun (oc fe : Value) (w : World) => nextCfg c HK.out oc fe 1 ⟨false, a3_1, a3_2, a3_3, a3_4, a3_5, a3_6, a3_7, a3_8, a3_9, a3_10, a3_11, a3_12.tmod 1099511627776⟩ w
    have k2 := fun (oc fe : Value) (w : World) => nextCfg c HK.out oc fe 1 ⟨false, a3_1, a3_2, a3_3, a3_4, a3_5, a3_6, a3_7, a3_8, a3_9, a3_10, a3_11, a3_12.tmod 1099511627776 - L⟩ w
    generalize nextI (c.eland + c.margin) 1 ⟨false, a3_1, a3_2, a3_3, a3_4, a3_5, a3_6, a3_7, a3_8, a3_9, a3_10, a3_11, a3_12.tmod 1099511627776⟩ = na at *
    generalize nextI (c.eland + c.margin) 1 ⟨false, a3_1, a3_2, a3_3, a3_4, a3_5, a3_6, a3_7, a3_8, a3_9, a3_10, a3_11, a3_12.tmod 1099511627776 - L⟩ = nb at *
    have k3 := fun (oc fe : Value) (w : World) => nextCfg c HK.out oc fe 5 ⟨false, a3_1, a3_2, a3_3, a3_4, a3_5, a3_6, a3_7, a3_8, a3_9, a3_10, false, c.eland + c.margin - 1 - L⟩ w
    rw [nextLow _ _ _ _ _ _ _ _ _ _ _ _ _ _ (by omega)] at k3
    have k4 := fun (oc fe : Value) (w : World) => nextCfg c HK.out oc fe 4 ⟨false, a3_1, a3_2, a3_3, a3_4, a3_5, a3_6, a3_7, a3_8, a3_9, a3_10, a3_11, a3_12.tmod 1099511627776 - L⟩ w
    rw [nextLand] at k4
    have K1 := Lib.hid k1
    have K2 := Lib.hid k2
    have K3 := Lib.hid k3
    have K4 := Lib.hid k4
    have K5 := Lib.hid fun (w : World) => reserveC false false 0 0 0 0 w
    have FI := Lib.hid hi
    have FL := Lib.hid hlow
    have FC := Lib.hid hc
    have FB := Lib.hid hb
    have hnlt : ¬ nb < na := by omega
    clear k1 k2 k3 k4 hi hlow hc hb HC BY ZI y0 y1 y2 y3 y4 y5 y6 y7 y8 y9 y10 y11 y12 yf hLn hLp hLn' hLe HK
    go_wp2_with (first | refine wpList_load_row_g rfl 34 _ rfl w2.heap.size rfl 34 _ (0, 0) _ (FC.out) Try.underlying34 rfl (by kernel_rfl) ?_ | refine wpList_load_row_g rfl 38 _ rfl (w.heap.size) rfl 38 _ (0, 0) _ (FI.out) Try.underlying38 rfl (by kernel_rfl) ?_ | refine wpList_load_row_g rfl 38 _ rfl (w2.heap.size + 1) rfl 38 _ (0, 0) _ (FL.out) Try.underlying38 rfl (by kernel_rfl) ?_)
    refine (K1.out _ _ _).mono ?_
    rintro e w3 ⟨rfl, hb⟩
    have GI := Lib.hid (InC.below FI.out hb)
    have GL := Lib.hid (InC.below FL.out hb)
    have GC := Lib.hid (Cfg.below FC.out hb (Array.getElem?_eq_some_iff.1 FC.out).1)
    have GB := Lib.hid (FB.out.trans (hb.mono FB.out.size))
    clear hb FI FL FC FB
    go_wp2_with (first | refine wpList_load_row_g rfl 34 _ rfl w2.heap.size rfl 34 _ (0, 0) _ (GC.out) Try.underlying34 rfl (by kernel_rfl) ?_ | refine wpList_load_row_g rfl 38 _ rfl (w2.heap.size + 1) rfl 38 _ (0, 0) _ (GL.out) Try.underlying38 rfl (by kernel_rfl) ?_)
    refine (K2.out _ _ _).mono ?_
    rintro e w4 ⟨rfl, hb⟩
    have FI := Lib.hid (InC.below GI.out hb)
    have FL := Lib.hid (InC.below GL.out hb)
    have FC := Lib.hid (Cfg.below GC.out hb (Array.getElem?_eq_some_iff.1 GC.out).1)
    have FB := Lib.hid (GB.out.trans (hb.mono GB.out.size))
    clear hb GI GL GC GB
    have ce : w4.cell? ⟨w2.heap.size, 24, none⟩ = some (.int .i64 c.eland) := cell_of_row w4 _ 24 _ _ _ FC.out
    have cm : w4.cell? ⟨w2.heap.size, 25, none⟩ = some (.int .i64 c.margin) := cell_of_row w4 _ 25 _ _ _ FC.out
    obtain ⟨y0, y1, y2, y3, y4, y5, y6, y7, y8, y9, y10, y11, y12⟩ := FI.out.cells
    have yf : ∀ j, w4.frozen? ⟨w.heap.size, j, none⟩ = false := fun j => by have h := FI.out; unfold InC at h; simp [World.frozen?, h]
    go_wp2_with (first | refine wpList_load_row_g rfl 34 _ rfl w2.heap.size rfl 34 _ (0, 0) _ (Cfg.ne FC.out (by omega) _ _ _ _) Try.underlying34 rfl (by kernel_rfl) ?_ | refine wpList_load_row_g rfl 38 _ rfl (w.heap.size) rfl 38 _ (0, 0) _ (InC.set2 FI.out _ _) Try.underlying38 rfl (by kernel_rfl) ?_)
    refine (K3.out _ _ _).mono ?_
    rintro e w5 ⟨rfl, hb⟩
    have GL := Lib.hid (InC.below (InC.ne FL.out (by omega) _ _ _ _) hb)
    have GC := Lib.hid (Cfg.below (Cfg.ne FC.out (by omega) _ _ _ _) hb (by have := (Array.getElem?_eq_some_iff.1 FC.out).1; simpa using this))
    have GB := Lib.hid (((FB.out.setCell (p := ⟨w.heap.size, 11, none⟩) (Nat.le_refl _) _).setCell (p := ⟨w.heap.size, 12, none⟩) (Nat.le_refl _) _).trans (hb.mono (by simp; exact FB.out.size)))
    clear hb FI FL FC FB ce cm y0 y1 y2 y3 y4 y5 y6 y7 y8 y9 y10 y11 y12 yf
    go_wp2_with (first | refine wpList_load_row_g rfl 34 _ rfl w2.heap.size rfl 34 _ (0, 0) _ (GC.out) Try.underlying34 rfl (by kernel_rfl) ?_ | refine wpList_load_row_g rfl 38 _ rfl (w2.heap.size + 1) rfl 38 _ (0, 0) _ (GL.out) Try.underlying38 rfl (by kernel_rfl) ?_)
    refine (K4.out _ _ _).mono ?_
    rintro e w6 ⟨rfl, hb⟩
    have HB := Lib.hid (GB.out.trans (hb.mono GB.out.size))
    clear hb GL GC GB
    go_wp2_with fail
    refine (K5.out _).mono ?_
    rintro e w7 ⟨rfl, hb⟩
    have HB2 := Lib.hid (HB.out.trans (hb.mono HB.out.size))
    clear hb HB
    go_wp2_with fail
    go_ret
    exact ⟨by first | rfl | (simp; done) | (simp; omega), HB2.out⟩
end Go.Proofs.Ytomjhoaffbjkgaa
