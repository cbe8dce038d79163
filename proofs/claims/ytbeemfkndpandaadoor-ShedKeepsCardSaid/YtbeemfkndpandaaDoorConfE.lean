/- How many cycles the boot lasts, and the bound. Conditions: the seven errors lie apart. -/
import Derived.Test.YtbeemfkndpandaaDoorConfD
namespace Go.Proofs.YtbeemfkndpandaaDoor
open Go.RowKit
set_option linter.unusedVariables false
set_option maxRecDepth 20000
/-- A configuration lies in a block. -/
def Rw (W : World) (b : Nat) (c : CG) (oc fe : Value) : Prop := W.heap[b]? = some (.cells (cgA c oc fe) 31 (0, 0))
theorem Rw.below {W W' : World} {b k : Nat} {c : CG} {oc fe : Value} (h : Rw W b c oc fe) (hb : Below k W W') (hl : b < k) : Rw W' b c oc fe := (hb.block b hl).trans h
theorem Rw.other {W : World} {b k j : Nat} {c : CG} {oc fe v : Value} (h : Rw W b c oc fe) (hl : b ≠ k) : Rw (W.setCell ⟨k, j, none⟩ v) b c oc fe := (heap_setCell_other W ⟨k, j, none⟩ b v (by simpa using hl)).trans h
theorem Rw.cell {W : World} {b : Nat} {c : CG} {oc fe : Value} (h : Rw W b c oc fe) (i : Nat) {v : Value} (hv : (cgA c oc fe)[i]? = some v) : W.cell? ⟨b, i, none⟩ = some v := (cell_of_row _ _ i _ _ _ h).trans hv
theorem Rw.froz {W : World} {b : Nat} {c : CG} {oc fe : Value} (h : Rw W b c oc fe) (j : Nat) : W.frozen? ⟨b, j, none⟩ = false := by
  simp [World.frozen?, show W.heap[b]? = _ from h]
theorem Rw.set {W : World} {b : Nat} {c c' : CG} {oc fe oc' fe' : Value} (h : Rw W b c oc fe) (i : Nat) (v : Value) (hc : (cgA c oc fe).setIfInBounds i v = cgA c' oc' fe') : Rw (W.setCell ⟨b, i, none⟩ v) b c' oc' fe' := by
  unfold Rw
  rw [← hc]
  exact heap_setCell_same W b i (cgA c oc fe) _ v h
theorem below_set {k b j : Nat} {W W' : World} {v : Value} (h : Below k W W') (hb : k ≤ b) : Below k W (W'.setCell ⟨b, j, none⟩ v) := h.setCell (by simpa using hb) v
set_option maxHeartbeats 8000000 in
theorem walkConfigBounds (a0 : Int) (a1 : Int) (a2 : Int) (w : World) (w0 : (Lit.int .i64 a0).wf = true) (w1 : (Lit.int .i64 a1).wf = true) (w2 : (Lit.int .i64 a2).wf = true) (hE : ∃ E, Ers E w) :
    Calls Tryd.prog 13 #[.int .i64 a0, .int .i64 a1, .int .i64 a2] w fun e w' => e = .returned (.bool true) ∧ Below w.heap.size w w' := by
  obtain ⟨E, hE⟩ := hE
  have HE := Lib.hid hE
  clear w0 w1 w2 hE
  go_enter Tryd.func13, Tryd.ntmps13
  go_wp2_with fail
  refine (first27 w HE.out).mono ?_
  rintro e wa ⟨rfl, hba⟩
  have HA := Lib.hid hba
  clear hba
  go_wp2_with fail
  refine (configF a0 a1 a2 wa).mono ?_
  rintro e w4 ⟨O, fa, fc, rfl, hO, ho, hf, hb⟩
  have L4 := Lib.hid (HA.out.trans (hb.mono HA.out.size))
  have hB := CB.of (a0 % 1048576) (a1 % 1048576) (a2 % 1048576) (by omega) (by omega) (by omega)
  unfold cfgV
  rw [cgA_of]
  clear hb ho hf hO
  generalize (a1 % 1048576 / 20 % 7).toNat = fn at *
  generalize cfgOf (a0 % 1048576) (a1 % 1048576) (a2 % 1048576) = c at *
  obtain ⟨hd, hb, hs, _, _, _, _, _⟩ := hB
  obtain ⟨g, hg⟩ : ∃ g, c.cg = g := ⟨_, rfl⟩
  have gd : 1 ≤ g.D ∧ g.D ≤ 4 := by rw [← hg]; exact hd
  have gb : 1 ≤ g.B ∧ g.B ≤ 3 := by rw [← hg]; exact hb
  have gs : 1 ≤ g.S ∧ g.S ≤ 4 := by rw [← hg]; exact hs
  rw [hg]
  clear hg hd hb hs
  go_wp2_with fail
  refine upon_fresh (by simp) rfl (by kernel_rfl) ?_
  intro W1 b1 s1 h1
  have R8 := Lib.hid (show Rw W1 w4.heap.size g _ _ from h1)
  have L1 := Lib.hid (L4.out.trans (b1.mono L4.out.size))
  clear h1 b1
  replace s1 : W1.heap.size = w4.heap.size + 1 := s1
  replace s1 : W1.heap.size = w4.heap.size + 1 := s1
  replace s1 : W1.heap.size = w4.heap.size + 1 := s1
  replace s1 : W1.heap.size = w4.heap.size + 1 := s1
  replace s1 : W1.heap.size = w4.heap.size + 1 := s1
  replace s1 : W1.heap.size = w4.heap.size + 1 := s1
  go_wp2_with (refine wpList_load_row_g (by kernel_rfl) 31 _ rfl w4.heap.size rfl 31 _ (0, 0) _ R8.out Tryd.underlying31 rfl (by kernel_rfl) ?_)
  refine upon_fresh (by rw [s1]) rfl (by kernel_rfl) ?_
  intro W9 bx sx hx
  have P8_9 := Lib.hid (R8.out.below bx (by omega))
  have R9 := Lib.hid (show Rw W9 (w4.heap.size + 1) g (.slice (some ⟨O, 0, none⟩) 4 4) (.slice fa fn fc) from hx)
  have M9 := Lib.hid (L1.out.trans (bx.mono L1.out.size))
  have sw : W9.heap.size = w4.heap.size + 2 := by omega
  clear hx bx sx R8 
  have cx : W9.cell? ⟨w4.heap.size + 1, 0, none⟩ = some (.int .i64 g.D) := R9.out.cell 0 rfl
  have fx : W9.frozen? ⟨w4.heap.size + 1, 0, none⟩ = false := R9.out.froz 0
  have vx : IntKind.i64.wrap (g.D + 1) = g.D + 1 := IntWalk.i64_in _ (by omega)
  go_upto_region 7 with fail
  have Q8_9 := Lib.hid (P8_9.out.other (k := w4.heap.size + 1) (j := 0) (v := .int .i64 (g.D + 1)) (by omega))
  have Q9 := Lib.hid (R9.out.set (c' := { g with D := g.D + 1 }) (oc' := .slice (some ⟨O, 0, none⟩) 4 4) (fe' := .slice fa fn fc) 0 (.int .i64 (g.D + 1)) rfl)
  have N9 := Lib.hid (below_set (j := 0) (v := .int .i64 (g.D + 1)) M9.out (show w.heap.size ≤ w4.heap.size + 1 by have := L4.out.size; omega))
  have sz : (W9.setCell ⟨w4.heap.size + 1, 0, none⟩ (.int .i64 (g.D + 1))).heap.size = w4.heap.size + 2 := by simpa using sw
  clear cx fx vx sw M9 R9 P8_9
  generalize World.setCell W9 _ _ = V9 at *
  have s9 : V9.heap.size = w4.heap.size + 2 := sz
  clear sz
  go_wp2_with (refine wpList_load_row_g (by kernel_rfl) 31 _ rfl w4.heap.size rfl 31 _ (0, 0) _ Q8_9.out Tryd.underlying31 rfl (by kernel_rfl) ?_)
  refine upon_fresh (by rw [s9]) rfl (by kernel_rfl) ?_
  intro W10 bx sx hx
  have P8_10 := Lib.hid (Q8_9.out.below bx (by omega))
  have P9_10 := Lib.hid (Q9.out.below bx (by omega))
  have R10 := Lib.hid (show Rw W10 (w4.heap.size + 2) g (.slice (some ⟨O, 0, none⟩) 4 4) (.slice fa fn fc) from hx)
  have M10 := Lib.hid (N9.out.trans (bx.mono N9.out.size))
  have sw : W10.heap.size = w4.heap.size + 3 := by omega
  clear hx bx sx Q8_9 Q9 
  have cx : W10.cell? ⟨w4.heap.size + 2, 1, none⟩ = some (.int .i64 g.B) := R10.out.cell 1 rfl
  have fx : W10.frozen? ⟨w4.heap.size + 2, 1, none⟩ = false := R10.out.froz 1
  have vx : IntKind.i64.wrap (g.B + 1) = g.B + 1 := IntWalk.i64_in _ (by omega)
  go_upto_region 9 with fail
  have Q8_10 := Lib.hid (P8_10.out.other (k := w4.heap.size + 2) (j := 1) (v := .int .i64 (g.B + 1)) (by omega))
  have Q9_10 := Lib.hid (P9_10.out.other (k := w4.heap.size + 2) (j := 1) (v := .int .i64 (g.B + 1)) (by omega))
  have Q10 := Lib.hid (R10.out.set (c' := { g with B := g.B + 1 }) (oc' := .slice (some ⟨O, 0, none⟩) 4 4) (fe' := .slice fa fn fc) 1 (.int .i64 (g.B + 1)) rfl)
  have N10 := Lib.hid (below_set (j := 1) (v := .int .i64 (g.B + 1)) M10.out (show w.heap.size ≤ w4.heap.size + 2 by have := L4.out.size; omega))
  have sz : (W10.setCell ⟨w4.heap.size + 2, 1, none⟩ (.int .i64 (g.B + 1))).heap.size = w4.heap.size + 3 := by simpa using sw
  clear cx fx vx sw M10 R10 P8_10 P9_10
  generalize World.setCell W10 _ _ = V10 at *
  have s10 : V10.heap.size = w4.heap.size + 3 := sz
  clear sz
  go_wp2_with (refine wpList_load_row_g (by kernel_rfl) 31 _ rfl w4.heap.size rfl 31 _ (0, 0) _ Q8_10.out Tryd.underlying31 rfl (by kernel_rfl) ?_)
  refine upon_fresh (by rw [s10]) rfl (by kernel_rfl) ?_
  intro W11 bx sx hx
  have P8_11 := Lib.hid (Q8_10.out.below bx (by omega))
  have P9_11 := Lib.hid (Q9_10.out.below bx (by omega))
  have P10_11 := Lib.hid (Q10.out.below bx (by omega))
  have R11 := Lib.hid (show Rw W11 (w4.heap.size + 3) g (.slice (some ⟨O, 0, none⟩) 4 4) (.slice fa fn fc) from hx)
  have M11 := Lib.hid (N10.out.trans (bx.mono N10.out.size))
  have sw : W11.heap.size = w4.heap.size + 4 := by omega
  clear hx bx sx Q8_10 Q9_10 Q10 
  have cx : W11.cell? ⟨w4.heap.size + 3, 2, none⟩ = some (.int .i64 g.S) := R11.out.cell 2 rfl
  have fx : W11.frozen? ⟨w4.heap.size + 3, 2, none⟩ = false := R11.out.froz 2
  have vx : IntKind.i64.wrap (g.S + 1) = g.S + 1 := IntWalk.i64_in _ (by omega)
  go_upto_region 11 with fail
  have Q8_11 := Lib.hid (P8_11.out.other (k := w4.heap.size + 3) (j := 2) (v := .int .i64 (g.S + 1)) (by omega))
  have Q9_11 := Lib.hid (P9_11.out.other (k := w4.heap.size + 3) (j := 2) (v := .int .i64 (g.S + 1)) (by omega))
  have Q10_11 := Lib.hid (P10_11.out.other (k := w4.heap.size + 3) (j := 2) (v := .int .i64 (g.S + 1)) (by omega))
  have Q11 := Lib.hid (R11.out.set (c' := { g with S := g.S + 1 }) (oc' := .slice (some ⟨O, 0, none⟩) 4 4) (fe' := .slice fa fn fc) 2 (.int .i64 (g.S + 1)) rfl)
  have N11 := Lib.hid (below_set (j := 2) (v := .int .i64 (g.S + 1)) M11.out (show w.heap.size ≤ w4.heap.size + 3 by have := L4.out.size; omega))
  have sz : (W11.setCell ⟨w4.heap.size + 3, 2, none⟩ (.int .i64 (g.S + 1))).heap.size = w4.heap.size + 4 := by simpa using sw
  clear cx fx vx sw M11 R11 P8_11 P9_11 P10_11
  generalize World.setCell W11 _ _ = V11 at *
  obtain ⟨gD, hD0, hD1, hD2, hD3⟩ : ∃ c : CG, Rw V11 (w4.heap.size + 1) c (.slice (some ⟨O, 0, none⟩) 4 4) (.slice fa fn fc) ∧ c.D = g.D + 1 ∧ c.B = g.B ∧ c.S = g.S := ⟨_, Q9_11.out, rfl, rfl, rfl⟩
  obtain ⟨gB, hB0, hB1, hB2, hB3⟩ : ∃ c : CG, Rw V11 (w4.heap.size + 2) c (.slice (some ⟨O, 0, none⟩) 4 4) (.slice fa fn fc) ∧ c.D = g.D ∧ c.B = g.B + 1 ∧ c.S = g.S := ⟨_, Q10_11.out, rfl, rfl, rfl⟩
  obtain ⟨gS, hS0, hS1, hS2, hS3⟩ : ∃ c : CG, Rw V11 (w4.heap.size + 3) c (.slice (some ⟨O, 0, none⟩) 4 4) (.slice fa fn fc) ∧ c.D = g.D ∧ c.B = g.B ∧ c.S = g.S + 1 := ⟨_, Q11.out, rfl, rfl, rfl⟩
  obtain ⟨vC, hv⟩ : ∃ v, v = g.B + g.S + 6 * (g.B + g.S) + 6 * (g.D + 2) := ⟨_, rfl⟩
  have RD := Lib.hid hD0
  have RB := Lib.hid hB0
  have RS := Lib.hid hS0
  have RC := Lib.hid Q8_11.out
  have KC := Lib.hid fun (w : World) => (boundC g (.slice (some ⟨O, 0, none⟩) 4 4) (.slice fa fn fc) (show 0 ≤ g.D ∧ g.D ≤ 100000 by omega) (show 0 ≤ g.B ∧ g.B ≤ 100000 by omega) (show 0 ≤ g.S ∧ g.S ≤ 100000 by omega) w).mono (R' := fun e w' => e = .returned (.int .i64 vC) ∧ Below w.heap.size w w') (fun e w' h => ⟨by rw [h.1, hv], h.2⟩)
  have KD := Lib.hid fun (w : World) => (boundC gD (.slice (some ⟨O, 0, none⟩) 4 4) (.slice fa fn fc) (show 0 ≤ gD.D ∧ gD.D ≤ 100000 by omega) (show 0 ≤ gD.B ∧ gD.B ≤ 100000 by omega) (show 0 ≤ gD.S ∧ gD.S ≤ 100000 by omega) w).mono (R' := fun e w' => e = .returned (.int .i64 (vC + 6)) ∧ Below w.heap.size w w') (fun e w' h => ⟨by rw [h.1, show gD.B + gD.S + 6 * (gD.B + gD.S) + 6 * (gD.D + 2) = vC + 6 by omega], h.2⟩)
  have KB := Lib.hid fun (w : World) => (boundC gB (.slice (some ⟨O, 0, none⟩) 4 4) (.slice fa fn fc) (show 0 ≤ gB.D ∧ gB.D ≤ 100000 by omega) (show 0 ≤ gB.B ∧ gB.B ≤ 100000 by omega) (show 0 ≤ gB.S ∧ gB.S ≤ 100000 by omega) w).mono (R' := fun e w' => e = .returned (.int .i64 (vC + 7)) ∧ Below w.heap.size w w') (fun e w' h => ⟨by rw [h.1, show gB.B + gB.S + 6 * (gB.B + gB.S) + 6 * (gB.D + 2) = vC + 7 by omega], h.2⟩)
  have KS := Lib.hid fun (w : World) => (boundC gS (.slice (some ⟨O, 0, none⟩) 4 4) (.slice fa fn fc) (show 0 ≤ gS.D ∧ gS.D ≤ 100000 by omega) (show 0 ≤ gS.B ∧ gS.B ≤ 100000 by omega) (show 0 ≤ gS.S ∧ gS.S ≤ 100000 by omega) w).mono (R' := fun e w' => e = .returned (.int .i64 (vC + 7)) ∧ Below w.heap.size w w') (fun e w' h => ⟨by rw [h.1, show gS.B + gS.S + 6 * (gS.B + gS.S) + 6 * (gS.D + 2) = vC + 7 by omega], h.2⟩)
  have KT := Lib.hid fun (w : World) => bootC g (.slice (some ⟨O, 0, none⟩) 4 4) (.slice fa fn fc) (show 0 ≤ g.B ∧ g.B ≤ 100000 by omega) (show 0 ≤ g.S ∧ g.S ≤ 100000 by omega) w
  have v1 : IntKind.i64.wrap (g.B + g.S) = g.B + g.S := IntWalk.i64_in _ (by omega)
  have v2 : IntKind.i64.wrap (vC + 6) = vC + 6 := IntWalk.i64_in _ (by omega)
  have v3 : IntKind.i64.wrap (vC + 7) = vC + 7 := IntWalk.i64_in _ (by omega)
  have g1 : decide (g.B + g.S < vC) = true := decide_eq_true (by omega)
  have e1 : (g.B + g.S == g.B + g.S) = true := by simp
  have e2 : (vC + 6 == vC + 6) = true := by simp
  have e3 : (vC + 7 == vC + 7) = true := by simp
  have hBB : V11.heap.size ≤ V11.heap.size := Nat.le_refl _
  have x1 := fun d => below_cell (reach_below V11.heap.size V11 d) (show V11.cell? ⟨w4.heap.size, 1, none⟩ = some (.int .i64 g.B) from RC.out.cell 1 rfl)
  have x2 := fun d => below_cell (reach_below V11.heap.size V11 d) (show V11.cell? ⟨w4.heap.size, 2, none⟩ = some (.int .i64 g.S) from RC.out.cell 2 rfl)
  have G8 := Lib.hid (fun (w' : World) (hw : ∃ d, w' = reach V11.heap.size V11 d) => (show Rw w' w4.heap.size g (.slice (some ⟨O, 0, none⟩) 4 4) (.slice fa fn fc) by obtain ⟨d, rfl⟩ := hw; exact RC.out.below (reach_below _ _ d) (by omega)))
  have G9 := Lib.hid (fun (w' : World) (hw : ∃ d, w' = reach V11.heap.size V11 d) => (show Rw w' (w4.heap.size + 1) gD (.slice (some ⟨O, 0, none⟩) 4 4) (.slice fa fn fc) by obtain ⟨d, rfl⟩ := hw; exact RD.out.below (reach_below _ _ d) (by omega)))
  have G10 := Lib.hid (fun (w' : World) (hw : ∃ d, w' = reach V11.heap.size V11 d) => (show Rw w' (w4.heap.size + 2) gB (.slice (some ⟨O, 0, none⟩) 4 4) (.slice fa fn fc) by obtain ⟨d, rfl⟩ := hw; exact RB.out.below (reach_below _ _ d) (by omega)))
  have G11 := Lib.hid (fun (w' : World) (hw : ∃ d, w' = reach V11.heap.size V11 d) => (show Rw w' (w4.heap.size + 3) gS (.slice (some ⟨O, 0, none⟩) 4 4) (.slice fa fn fc) by obtain ⟨d, rfl⟩ := hw; exact RS.out.below (reach_below _ _ d) (by omega)))
  clear sz s1 s9 s10 Q8_11 Q9_11 Q10_11 Q11 hD0 hB0 hS0 hD1 hD2 hD3 hB1 hB2 hB3 hS1 hS2 hS3 hv gd gb gs RD RB RS RC
  refine wp_region_reach V11.heap.size (by kernel_rfl) (by kernel_rfl) ?_
  repeat (first
    | (go_big_quiet_want; refine quiet_load_row 31 _ rfl w4.heap.size rfl 31 _ (0, 0) _ G8.out Tryd.underlying31 rfl (by kernel_rfl) ?_; go_big_quiet_on; simp only [Act.put, List.setIfInBounds_toArray, List.set_cons_succ, List.set_cons_zero])
    | (go_big_quiet_want; refine quiet_load_row 31 _ rfl (w4.heap.size + 1) rfl 31 _ (0, 0) _ G9.out Tryd.underlying31 rfl (by kernel_rfl) ?_; go_big_quiet_on; simp only [Act.put, List.setIfInBounds_toArray, List.set_cons_succ, List.set_cons_zero])
    | (go_big_quiet_want; refine quiet_load_row 31 _ rfl (w4.heap.size + 2) rfl 31 _ (0, 0) _ G10.out Tryd.underlying31 rfl (by kernel_rfl) ?_; go_big_quiet_on; simp only [Act.put, List.setIfInBounds_toArray, List.set_cons_succ, List.set_cons_zero])
    | (go_big_quiet_want; refine quiet_load_row 31 _ rfl (w4.heap.size + 3) rfl 31 _ (0, 0) _ G11.out Tryd.underlying31 rfl (by kernel_rfl) ?_; go_big_quiet_on; simp only [Act.put, List.setIfInBounds_toArray, List.set_cons_succ, List.set_cons_zero])
    | go_big_quiet_step ((first | (go_at_call 34; with_reducible exact reach_call hBB (KT.out _)) | (go_at_call 36; first | with_reducible exact reach_call hBB (KC.out _) | with_reducible exact reach_call hBB (KD.out _) | with_reducible exact reach_call hBB (KB.out _) | with_reducible exact reach_call hBB (KS.out _)))))
  refine wpQuiet_nil ?_
  rintro w' ⟨d, rfl⟩
  have LL := Lib.hid (N11.out.trans ((reach_below V11.heap.size V11 d).mono N11.out.size))
  clear x1 x2 G8 G9 G10 G11
  generalize reach V11.heap.size V11 d = wz at *
  go_wp2_with fail
  go_returns
  exact ⟨rfl, LL.out⟩
end Go.Proofs.YtbeemfkndpandaaDoor
