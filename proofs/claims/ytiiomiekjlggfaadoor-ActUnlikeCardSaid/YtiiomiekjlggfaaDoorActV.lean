/- ActUnlike: unlike things that are put out have unlike frames. Conditions: the range's error lies as the text lays it. -/
import Derived.Test.YtiiomiekjlggfaaDoorEr1
namespace Go.Proofs.YtiiomiekjlggfaaDoor
open Go Go.RowKit
set_option linter.unusedVariables false
set_option maxRecDepth 20000
set_option maxHeartbeats 16000000 in
theorem walkActUnlike (a0 : Int) (a1 : Int) (a2 : Int) (a3 : Int) (a4 : Int) (a5 : Int) (w : World) (w0 : (Lit.int .i64 a0).wf = true) (w1 : (Lit.int .i64 a1).wf = true) (w2 : (Lit.int .i64 a2).wf = true) (w3 : (Lit.int .i64 a3).wf = true) (w4 : (Lit.int .i64 a4).wf = true) (w5 : (Lit.int .i64 a5).wf = true) (hE : ∃ E, Er1 E w) :
    Calls Tryd.prog 6 #[.int .i64 a0, .int .i64 a1, .int .i64 a2, .int .i64 a3, .int .i64 a4, .int .i64 a5] w fun e w' => e = .returned (.bool true) ∧ Below w.heap.size w w' := by
  obtain ⟨E, hE⟩ := hE
  have HE := Lib.hid hE
  clear hE w0 w1 w2 w3 w4 w5
  go_enter Tryd.func6, Tryd.ntmps6
  go_wp2_with fail
  refine (actFirst1 _ HE.out).mono ?_
  rintro e wa ⟨rfl, hba⟩
  have HA := Lib.hid hba
  clear hba
  have n0 := m127 a0
  have n1 := m65535 a1
  have n2 := m3 a2
  have n3 := m7 a3
  have n4 := m511 a4
  have n5 := m127 a1
  have n6 := m65535 a0
  have n7 := m511 a5
  have t3 : (a3 % 8).tmod 5 = a3 % 8 % 5 := Int.tmod_eq_emod_of_nonneg (by omega)
  have t4 : IntKind.i64.wrap (1 + a3 % 8 % 5) = 1 + a3 % 8 % 5 := IntWalk.i64_in _ (by omega)
  go_upto_region 6 with fail
  have g1 : goodO (a0 % 128) (a1 % 65536) (a2 % 4) (1 + a3 % 8 % 5) (a4 % 512) = true := (goodO_is _ _ _ _ _).2 (by omega)
  have g2 : goodO (a1 % 128) (a0 % 65536) (a2 % 4) (1 + a3 % 8 % 5) (a5 % 512) = true := (goodO_is _ _ _ _ _).2 (by omega)
  clear n0 n1 n2 n3 n4 n5 n6 n7 t3 t4
  generalize a0 % 128 = p0 at *
  generalize a1 % 65536 = p1 at *
  generalize a4 % 512 = p4 at *
  generalize a1 % 128 = r0 at *
  generalize a0 % 65536 = r1 at *
  generalize a5 % 512 = r4 at *
  generalize a2 % 4 = c at *
  generalize 1 + a3 % 8 % 5 = d at *
  have KP := Lib.hid fun (w : World) (h : Er1 E w) => put1 p0 p1 c d p4 7 g1 w h
  have KR := Lib.hid fun (w : World) (h : Er1 E w) => put1 r0 r1 c d r4 7 g2 w h
  have S7 := same7 p0 p1 c d p4 r0 r1 c d r4 g1 g2
  have KO := Lib.hid fun (w : World) => sameOutC p0 p1 c d p4 r0 r1 c d r4 w
  generalize ((p0 == r0) && ((p1 == r1) && ((c == c) && ((d == d) && (p4 == r4))))) = sm at *
  have S7 := Lib.hid S7
  clear g1 g2
  have B1 := Lib.hid (Bx2.new wa #[.int .i64 p0, .int .i64 p1, .int .i64 c, .int .i64 d, .int .i64 p4] 49 #[.int .i64 r0, .int .i64 r1, .int .i64 c, .int .i64 d, .int .i64 r4] 49)
  have L1 := Lib.hid (HA.out.trans (B1.out.lo.mono HA.out.size))
  clear HA
  generalize World.alloc (World.alloc wa _) _ = w1 at *
  have x0 : w1.cell? ⟨wa.heap.size, 0, none⟩ = some (.int .i64 p0) := B1.out.cell1 0 rfl
  have x1 : w1.cell? ⟨wa.heap.size, 1, none⟩ = some (.int .i64 p1) := B1.out.cell1 1 rfl
  have x2 : w1.cell? ⟨wa.heap.size, 2, none⟩ = some (.int .i64 c) := B1.out.cell1 2 rfl
  have x3 : w1.cell? ⟨wa.heap.size, 3, none⟩ = some (.int .i64 d) := B1.out.cell1 3 rfl
  have x4 : w1.cell? ⟨wa.heap.size, 4, none⟩ = some (.int .i64 p4) := B1.out.cell1 4 rfl
  go_wp2_with fail
  refine (KP.out _ (HE.out.below L1.out)).mono ?_
  rintro e w2 ⟨xg, rfl, hr, hb⟩
  have B2 := Lib.hid (B1.out.below hb)
  have L2 := Lib.hid (L1.out.trans (hb.mono L1.out.size))
  have YG := Lib.hid (byt7 hr)
  clear hb hr B1 L1 x0 x1 x2 x3 x4
  go_upto_region 7 with fail
  have hal := (Below.refl w2.heap.size w2).alloc (Nat.le_refl _) (.cells #[.int .u8 96, .int .u8 7, .slice (some ⟨xg, 0, none⟩) 7 7] 24)
  have G3 := Lib.hid (Bx.new w2 #[.int .u8 96, .int .u8 7, .slice (some ⟨xg, 0, none⟩) 7 7] 24)
  have B3 := Lib.hid (B2.out.below hal)
  have L3 := Lib.hid (L2.out.trans (hal.mono L2.out.size))
  have YG3 := Lib.hid (YG.out.below hal)
  clear hal B2 YG L2
  generalize World.alloc w2 _ = w3 at *
  have y0 : w3.cell? ⟨wa.heap.size + 1, 0, none⟩ = some (.int .i64 r0) := B3.out.cell2 0 rfl
  have y1 : w3.cell? ⟨wa.heap.size + 1, 1, none⟩ = some (.int .i64 r1) := B3.out.cell2 1 rfl
  have y2 : w3.cell? ⟨wa.heap.size + 1, 2, none⟩ = some (.int .i64 c) := B3.out.cell2 2 rfl
  have y3 : w3.cell? ⟨wa.heap.size + 1, 3, none⟩ = some (.int .i64 d) := B3.out.cell2 3 rfl
  have y4 : w3.cell? ⟨wa.heap.size + 1, 4, none⟩ = some (.int .i64 r4) := B3.out.cell2 4 rfl
  go_wp2_with fail
  refine (KR.out _ (HE.out.below L3.out)).mono ?_
  rintro e w4 ⟨xh, rfl, hr, hb⟩
  have B4 := Lib.hid (B3.out.below hb)
  have L4 := Lib.hid (L3.out.trans (hb.mono L3.out.size))
  have G4 := Lib.hid (G3.out.below hb)
  have YG4 := Lib.hid (YG3.out.below hb)
  have YH := Lib.hid (byt7 hr)
  clear hb hr B3 G3 YG3 L3 y0 y1 y2 y3 y4
  go_upto_region 8 with fail
  have hal := (Below.refl w4.heap.size w4).alloc (Nat.le_refl _) (.cells #[.int .u8 96, .int .u8 7, .slice (some ⟨xh, 0, none⟩) 7 7] 24)
  have H9 := Lib.hid (Bx.new w4 #[.int .u8 96, .int .u8 7, .slice (some ⟨xh, 0, none⟩) 7 7] 24)
  have B9 := Lib.hid (B4.out.below hal)
  have L9 := Lib.hid (L4.out.trans (hal.mono L4.out.size))
  have G9 := Lib.hid (G4.out.below hal)
  have YG9 := Lib.hid (YG4.out.below hal)
  have YH9 := Lib.hid (YH.out.below hal)
  clear hal B4 G4 YG4 YH L4 KP KR
  generalize World.alloc w4 _ = w9 at *
  have ra0 := fun u => below_cell (reach_below w9.heap.size w9 u) (show w9.cell? ⟨wa.heap.size, 0, none⟩ = some (.int .i64 p0) from B9.out.cell1 0 rfl)
  have ra1 := fun u => below_cell (reach_below w9.heap.size w9 u) (show w9.cell? ⟨wa.heap.size, 1, none⟩ = some (.int .i64 p1) from B9.out.cell1 1 rfl)
  have ra2 := fun u => below_cell (reach_below w9.heap.size w9 u) (show w9.cell? ⟨wa.heap.size, 2, none⟩ = some (.int .i64 c) from B9.out.cell1 2 rfl)
  have ra3 := fun u => below_cell (reach_below w9.heap.size w9 u) (show w9.cell? ⟨wa.heap.size, 3, none⟩ = some (.int .i64 d) from B9.out.cell1 3 rfl)
  have ra4 := fun u => below_cell (reach_below w9.heap.size w9 u) (show w9.cell? ⟨wa.heap.size, 4, none⟩ = some (.int .i64 p4) from B9.out.cell1 4 rfl)
  have rb0 := fun u => below_cell (reach_below w9.heap.size w9 u) (show w9.cell? ⟨wa.heap.size + 1, 0, none⟩ = some (.int .i64 r0) from B9.out.cell2 0 rfl)
  have rb1 := fun u => below_cell (reach_below w9.heap.size w9 u) (show w9.cell? ⟨wa.heap.size + 1, 1, none⟩ = some (.int .i64 r1) from B9.out.cell2 1 rfl)
  have rb2 := fun u => below_cell (reach_below w9.heap.size w9 u) (show w9.cell? ⟨wa.heap.size + 1, 2, none⟩ = some (.int .i64 c) from B9.out.cell2 2 rfl)
  have rb3 := fun u => below_cell (reach_below w9.heap.size w9 u) (show w9.cell? ⟨wa.heap.size + 1, 3, none⟩ = some (.int .i64 d) from B9.out.cell2 3 rfl)
  have rb4 := fun u => below_cell (reach_below w9.heap.size w9 u) (show w9.cell? ⟨wa.heap.size + 1, 4, none⟩ = some (.int .i64 r4) from B9.out.cell2 4 rfl)
  have rg0 := fun u => below_cell (reach_below w9.heap.size w9 u) (show w9.cell? ⟨w2.heap.size, 0, none⟩ = some (.int .u8 96) from G9.out.cell 0 rfl)
  have rg1 := fun u => below_cell (reach_below w9.heap.size w9 u) (show w9.cell? ⟨w2.heap.size, 1, none⟩ = some (.int .u8 7) from G9.out.cell 1 rfl)
  have rg2 := fun u => below_cell (reach_below w9.heap.size w9 u) (show w9.cell? ⟨w2.heap.size, 2, none⟩ = some (.slice (some ⟨xg, 0, none⟩) 7 7) from G9.out.cell 2 rfl)
  have rh0 := fun u => below_cell (reach_below w9.heap.size w9 u) (show w9.cell? ⟨w4.heap.size, 0, none⟩ = some (.int .u8 96) from H9.out.cell 0 rfl)
  have rh1 := fun u => below_cell (reach_below w9.heap.size w9 u) (show w9.cell? ⟨w4.heap.size, 1, none⟩ = some (.int .u8 7) from H9.out.cell 1 rfl)
  have rh2 := fun u => below_cell (reach_below w9.heap.size w9 u) (show w9.cell? ⟨w4.heap.size, 2, none⟩ = some (.slice (some ⟨xh, 0, none⟩) 7 7) from H9.out.cell 2 rfl)
  have hB := Nat.le_refl w9.heap.size
  have LW := Lib.hid fun (d : World) => L9.out.trans ((reach_below w9.heap.size w9 d).mono L9.out.size)
  have KF9 := Lib.hid (show ∀ (d : World), Calls Tryd.prog 18 #[.agg #[.int .u8 96, .int .u8 7, .slice (some ⟨xg, 0, none⟩) 7 7], .agg #[.int .u8 96, .int .u8 7, .slice (some ⟨xh, 0, none⟩) 7 7]] (reach w9.heap.size w9 d) fun e w' => e = .returned (.bool sm) ∧ Below (reach w9.heap.size w9 d).heap.size (reach w9.heap.size w9 d) w' by
    intro d
    have := sameFrameC (i := 96) (j := 96) (s := 7) (t := 7) (ca := 7) (cb := 7) (by omega) (reach w9.heap.size w9 d) (YG9.out.below (reach_below _ _ d)) (YH9.out.below (reach_below _ _ d))
    rw [S7.out] at this
    exact this)
  have KO9 := Lib.hid fun (d : World) => KO.out (reach w9.heap.size w9 d)
  have ES : (sm == sm) = true := by simp
  refine wp_region_reach w9.heap.size (by kernel_rfl) (by kernel_rfl) ?_
  repeat (go_big_quiet_step (first | (go_at_call 18; with_reducible exact reach_call hB (KF9.out _)) | (go_at_call 25; with_reducible exact reach_call hB (KO9.out _))))
  refine wpQuiet_nil ?_
  rintro w' ⟨d, rfl⟩
  go_wp2_with fail
  go_returns
  exact ⟨rfl, LW.out d⟩
end Go.Proofs.YtiiomiekjlggfaaDoor
