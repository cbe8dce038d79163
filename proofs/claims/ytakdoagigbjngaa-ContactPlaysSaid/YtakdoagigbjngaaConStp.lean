/- A step of the document's contactor, by the plain definition. Conditions: its counts are small. -/
import Derived.Test.YtakdoagigbjngaaConRef
namespace Go.Proofs.Ytakdoagigbjngaa
open Go.RowKit
set_option linter.unusedVariables false
structure RW (B Z : Nat) (v : Int) (f : Bool) (w wx : World) (k : RK) : Prop where
  rt : Rt wx B k
  only : Only B w wx
  sm : Sm wx Z v f
theorem RW.reach {B Z : Nat} {v : Int} {f : Bool} {w W0 : World} {k : RK} (h : RW B Z v f w W0 k) (d : World) : RW B Z v f w (reach W0.heap.size W0 d) k :=
  ⟨h.rt.below (reach_below _ _ d), h.only.trans (Only.of_below _ (reach_below _ _ d)), h.sm.below (reach_below _ _ d)⟩
theorem RW.put {B Z : Nat} {v : Int} {f : Bool} {w W0 : World} {k k' : RK} (h : RW B Z v f w W0 k) (hn : Z ≠ B) (j : Nat) (x : Value) (e : k.arr.setIfInBounds j x = k'.arr) : RW B Z v f w (W0.setCell ⟨B, j, none⟩ x) k' :=
  ⟨by unfold Rt; rw [← e]; exact row_set h.rt j x, h.only.trans (Only.set _ _ _ _), h.sm.only (Only.set _ _ _ _) hn⟩
theorem RK.tellOk {k : RK} (t : Bool) (hs : -2 ≤ k.s) (hs2 : k.s ≤ 1000) (hg : 0 ≤ k.g) (hg2 : k.g ≤ 1000) : (-2 ≤ (k.tell t).s ∧ (k.tell t).s ≤ 1000) ∧ 0 ≤ (k.tell t).g ∧ (k.tell t).g ≤ 1000 := by
  unfold RK.tell
  split
  · simp only; omega
  · simp only; omega
set_option maxHeartbeats 8000000 in
set_option maxRecDepth 10000 in
theorem rStep (B : Nat) (k : RK) (t : Bool) (v : Int) (f : Bool) (hs : -2 ≤ k.s) (hs2 : k.s ≤ 1000) (hg : 0 ≤ k.g) (hg2 : k.g ≤ 1000) (w : World) (h : Rt w B k) :
    Calls Try.prog 22 #[.pointer (some ⟨B, 0, none⟩), .bool t, .agg #[.int .i64 v, .bool f]] w fun e w' => e = .returned (.tuple #[]) ∧ Rt w' B (k.step t v f) ∧ Only B w w' := by
  go_enter Try.func22, Try.ntmps22
  go_upto_region 1 with fail
  generalize hW : World.alloc w _ = W0
  obtain ⟨hrow, hb0⟩ : Sm W0 w.heap.size v f ∧ Below w.heap.size w W0 := by
    rw [← hW]
    exact ⟨Sm.new _ _ _, (Below.refl _ _).alloc (Nat.le_refl _) _⟩
  clear hW
  have N1 : w.heap.size ≠ B := by have := h.lt; omega
  have HH := Lib.hid (show RW B w.heap.size v f w W0 k from ⟨h.below hb0, Only.of_below _ hb0, hrow⟩)
  clear hb0 h hrow
  generalize w.heap.size = Z at *
  have c2 := HH.out.rt.cells.2.2.1
  go_upto_if 11 with fail
  go_cut [11] (fun _ wx => RW B Z v f w wx (k.tell t))
  case first =>
    obtain ⟨-, -, -, c3, c4, -, -, -, -, -, cf⟩ := HH.out.rt.cells
    cases hb : (!t == k.c)
    · have hb' : (t == k.c) = true := by
        revert hb; cases t <;> cases k.c <;> simp
      by_cases h1 : k.s + 1 ≤ 1000
      · have hk : k.tell t = { k with s := k.s + 1 } := by
          unfold RK.tell; rw [hb']; simp only [if_true]; rw [show min (k.s + 1) 1000 = k.s + 1 by omega]
        have HK := Lib.hid hk
        clear hk hb' hb
        go_wp2_with fail
        go_meet
        rw [HK.out]
        exact HH.out.put N1 3 _ rfl
      · have hk : k.tell t = { k with s := 1000 } := by
          unfold RK.tell; rw [hb']; simp only [if_true]; rw [show min (k.s + 1) 1000 = 1000 by omega]
        have HK := Lib.hid hk
        clear hk hb' hb
        go_wp2_with fail
        go_meet
        rw [HK.out]
        exact HH.out.put N1 3 _ rfl
    · have hb' : (t == k.c) = false := by
        revert hb; cases t <;> cases k.c <;> simp
      have hk : k.tell t = { k with c := t, s := 0, g := 0 } := by
        unfold RK.tell; rw [hb']; rfl
      have HK := Lib.hid hk
      clear hk hb' hb
      go_wp2_with fail
      go_meet
      rw [HK.out]
      exact ((HH.out.put (k' := { k with c := t }) N1 2 _ rfl).put (k' := { k with c := t, s := 0 }) N1 3 _ rfl).put N1 4 _ rfl
  case rest =>
  have H1 := Lib.hid hcut
  clear hcut HH c2
  obtain ⟨⟨ks1, ks2⟩, kg1, kg2⟩ := RK.tellOk t hs hs2 hg hg2
  obtain ⟨k1, hk1⟩ : ∃ k1, k.tell t = k1 := ⟨_, rfl⟩
  rw [hk1] at H1 ks1 ks2 kg1 kg2
  have HK1 := Lib.hid hk1
  clear hk1 hs hs2 hg hg2
  obtain ⟨-, -, -, c3, -, c5, c6, c7, -, -, cf⟩ := H1.out.rt.cells
  obtain ⟨z0, z1, zf0, zf1, -⟩ := H1.out.sm.cells
  have HX := Lib.hid (((H1.out.put (k' := { k1 with n := true }) N1 5 (.bool true) rfl).put (k' := { k1 with n := true, f := f }) N1 6 (.bool f) rfl).put (k' := k1.look v f) N1 7 (.bool (v == 1)) rfl)
  cases f
  · go_wp2_with fail
    go_returns
    refine ⟨rfl, ?_, HX.out.only⟩
    have := HX.out.rt
    unfold RK.step
    rw [HK1.out]
    exact this
  · go_upto_region 10 with fail
    clear c3 c5 c6 c7 cf z0 z1 zf0 zf1 H1
    generalize World.setCell _ _ _ = W1 at *
    obtain ⟨k2, hk2⟩ : ∃ k2, k1.look v true = k2 := ⟨_, rfl⟩
    have hg2 : k2.g = k1.g := by rw [← hk2]; rfl
    have hs2 : k2.s = k1.s := by rw [← hk2]; rfl
    have hf2 : k2.f = true := by rw [← hk2]; rfl
    rw [← hs2] at ks1 ks2
    rw [← hg2] at kg1 kg2
    rw [hk2] at HX
    have HK2 := Lib.hid hk2
    have HF2 := Lib.hid hf2
    clear hk2 hf2 hg2 hs2
    go_cut [66] (fun b wx => b = .bool (k2.r == t || decide (k2.s < k2.D)) ∧ RW B Z v true w wx k2)
    case first =>
      have y7 := fun d => (HX.out.reach d).rt.cells.2.2.2.2.2.2.2.1
      have y3 := fun d => (HX.out.reach d).rt.cells.2.2.2.1
      have y0 := fun d => (HX.out.reach d).rt.cells.1
      cases hb : (k2.r == t)
      · refine wp_region_reach W1.heap.size (by kernel_rfl) (by kernel_rfl) ?_
        repeat (go_big_quiet_step (fail))
        refine wpQuiet_nil ?_
        rintro w' ⟨d, rfl⟩
        go_wp2_with fail
        go_meet
        exact ⟨by rw [hb]; rfl, HX.out.reach d⟩
      · refine wp_region_reach W1.heap.size (by kernel_rfl) (by kernel_rfl) ?_
        repeat (go_big_quiet_step (fail))
        refine wpQuiet_nil ?_
        rintro w' ⟨d, rfl⟩
        go_wp2_with fail
        go_meet
        exact ⟨by rw [hb]; rfl, HX.out.reach d⟩
    case rest =>
    obtain ⟨rfl, hc2⟩ := hcut
    have H2 := Lib.hid hc2
    clear hc2 HX
    have HFIN := Lib.hid (show k.step t v true = k2.judge t by unfold RK.step; rw [HK1.out, HK2.out])
    clear HK1 HK2
    obtain ⟨-, c1, -, c3, c4, -, -, c7, c8, c9, cf⟩ := H2.out.rt.cells
    cases hg : (k2.r == t || decide (k2.s < k2.D))
    · have HJ := Lib.hid (show k2.judge t = if k2.L ≤ k2.g + 1 then { k2 with g := k2.g + 1, p := k2.p || t, q := k2.q || !t } else { k2 with g := k2.g + 1 } by unfold RK.judge; rw [HF2.out, hg]; rfl)
      clear hg
      go_upto_region 13 with fail
      have HX := Lib.hid (H2.out.put (k' := { k2 with g := k2.g + 1 }) N1 4 (.int .i64 (k2.g + 1)) rfl)
      clear c1 c3 c4 c7 c8 c9 cf H2
      generalize World.setCell _ _ _ = W2 at *
      have y4 := fun d => (HX.out.reach d).rt.cells.2.2.2.2.1
      have y1 := fun d => (HX.out.reach d).rt.cells.2.1
      refine wp_region_reach W2.heap.size (by kernel_rfl) (by kernel_rfl) ?_
      repeat (go_big_quiet_step (fail))
      refine wpQuiet_nil ?_
      rintro w' ⟨d, rfl⟩
      clear y4 y1
      obtain ⟨-, -, -, -, -, -, -, -, c8, c9, cf⟩ := (HX.out.reach d).rt.cells
      by_cases hl : k2.L ≤ k2.g + 1
      · have HJ2 := Lib.hid (HJ.out.trans (if_pos hl))
        clear HJ
        cases t
        · go_wp2_with fail
          go_returns
          have HY := (HX.out.reach d).put (k' := { k2 with g := k2.g + 1, q := true }) N1 9 (.bool true) rfl
          exact ⟨rfl, by rw [HFIN.out, HJ2.out, Bool.or_false]; simp only [Bool.not_false, Bool.or_true]; exact HY.rt, HY.only⟩
        · go_wp2_with fail
          go_returns
          have HY := (HX.out.reach d).put (k' := { k2 with g := k2.g + 1, p := true }) N1 8 (.bool true) rfl
          exact ⟨rfl, by rw [HFIN.out, HJ2.out, Bool.or_true]; simp only [Bool.not_true, Bool.or_false]; exact HY.rt, HY.only⟩
      · have HJ2 := Lib.hid (HJ.out.trans (if_neg hl))
        clear HJ
        go_wp2_with fail
        go_returns
        have HY := HX.out.reach d
        exact ⟨rfl, by rw [HFIN.out, HJ2.out]; exact HY.rt, HY.only⟩
    · have HJ := Lib.hid (show k2.judge t = { k2 with g := 0 } by unfold RK.judge; rw [HF2.out, hg]; rfl)
      clear hg
      go_wp2_with fail
      go_returns
      have HX := H2.out.put (k' := { k2 with g := 0 }) N1 4 (.int .i64 0) rfl
      exact ⟨rfl, by rw [HFIN.out, HJ.out]; exact HX.rt, HX.only⟩
end Go.Proofs.Ytakdoagigbjngaa
