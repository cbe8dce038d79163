/- SensorSays: any channel, any sample, any frame. Conditions: the seven errors lie apart. -/
import Derived.Test.YtiiomiekjlggfaaDoorSenF
import Derived.Test.YtiiomiekjlggfaaDoorActS
namespace Go.Proofs.YtiiomiekjlggfaaDoor
open Go Go.RowKit
set_option linter.unusedVariables false
set_option maxRecDepth 20000
theorem sameSpanE (a b : Int) (w : World) : Calls Tryd.prog 39 #[.agg #[.int .i64 a, .int .i64 b], .agg #[.int .i64 a, .int .i64 b]] w fun e w' => e = .returned (.bool true) ∧ Below w.heap.size w w' := by
  have e1 : (a == a) = true := by simp
  have e2 : (b == b) = true := by simp
  go_enter Tryd.func39, Tryd.ntmps39
  go_upto_region 1 with fail
  have B0 := Lib.hid (Bx2.new w #[.int .i64 a, .int .i64 b] 65 #[.int .i64 a, .int .i64 b] 65)
  generalize World.alloc (World.alloc w _) _ = W at *
  have y0 : W.cell? ⟨w.heap.size, 0, none⟩ = some (.int .i64 a) := B0.out.cell1 0 rfl
  have y1 : W.cell? ⟨w.heap.size, 1, none⟩ = some (.int .i64 b) := B0.out.cell1 1 rfl
  have x0 : W.cell? ⟨w.heap.size + 1, 0, none⟩ = some (.int .i64 a) := B0.out.cell2 0 rfl
  have x1 : W.cell? ⟨w.heap.size + 1, 1, none⟩ = some (.int .i64 b) := B0.out.cell2 1 rfl
  go_wp2_with fail
  go_returns
  exact ⟨rfl, B0.out.lo⟩
set_option maxHeartbeats 16000000 in
theorem walkSensorSays (a0 : Int) (a1 : Int) (a2 : Int) (id3 sq3 : Int) (a3 : Option Addr) (len3 cap3 : Nat) (z3 : List Int) (w : World) (w0 : (Lit.int .i64 a0).wf = true) (w1 : (Lit.int .u8 a1).wf = true) (w2 : (Lit.int .i64 a2).wf = true) (w3i : (Lit.int .u8 id3).wf = true) (w3s : (Lit.int .u8 sq3).wf = true) (w3 : CameI .u8 w a3 len3 cap3 z3) (hE : ∃ E, Ers E w) :
    Calls Tryd.prog 10 #[.int .i64 a0, .int .u8 a1, .int .i64 a2, .agg #[.int .u8 id3, .int .u8 sq3, .slice a3 len3 cap3]] w fun e w' => e = .returned (.bool true) ∧ Below w.heap.size w w' := by
  obtain ⟨E, hE⟩ := hE
  have HE := Lib.hid hE
  have BY := Lib.hid (Byt.came w3)
  have BZ := Lib.hid (show ∀ i, i < len3 → 0 ≤ (fun i => z3.getD i 0) i ∧ (fun i => z3.getD i 0) i < 256 from byte_of w3)
  have bi := bounds_u8 w3i
  have hi : 0 ≤ id3 ∧ id3 < 256 := by omega
  clear hE w0 w1 w2 w3i w3s w3 bi
  generalize (fun i => z3.getD i 0) = f at *
  obtain ⟨gd, hgd⟩ : ∃ g, withinB a0 a2 = g := ⟨_, rfl⟩
  have KP := Lib.hid fun (w : World) (h : Ers E w) => senPutAny a0 a1 a2 gd hgd w h
  have KR := Lib.hid fun (w : World) => senPutR a0 a1 a2 gd hgd w
  have PCI := Lib.hid (pC_in gd)
  have PN := Lib.hid (show sN gd ≤ 100000 by cases gd <;> decide)
  have KX := Lib.hid fun (w : World) => rangeC a0 w
  have KY := Lib.hid fun (w : World) => rangeR a0 w
  clear hgd
  generalize rangeI a0 = R at *
  obtain ⟨lo, hh, is⟩ := R
  generalize sI gd a0 = pi at *
  generalize sS gd a1 = ps at *
  generalize sN gd = pn at *
  generalize pC gd = pc at *
  generalize sF a2 = pf at *
  have RA := Lib.hid fun (u : World) (hu : Below w.heap.size w u) => senRdAll (E := E) id3 sq3 a3 len3 cap3 f hi u (HE.out.below hu) (BY.out.below hu) BZ.out
  have RR := Lib.hid fun (u : World) (hu : Below w.heap.size w u) => senRdR id3 sq3 a3 len3 cap3 f hi u (BY.out.below hu) BZ.out
  have RCI := Lib.hid (srC_in id3 len3 f)
  generalize srC id3 len3 f = rc at *
  generalize srX id3 len3 f = rx at *
  generalize srY id3 len3 f = ry at *
  clear hi
  go_enter Tryd.func10, Tryd.ntmps10
  go_upto_region 1 with fail
  have B0 := Lib.hid (Bx.new w #[.int .u8 id3, .int .u8 sq3, .slice a3 len3 cap3] 24)
  generalize World.alloc w _ = W at *
  go_wp2_with fail
  refine (senFirst _).mono ?_
  rintro e w1 ⟨rfl, hb⟩
  have B1 := Lib.hid (B0.out.below hb)
  clear hb B0
  have f2 : w1.cell? ⟨w.heap.size, 2, none⟩ = some (.slice a3 len3 cap3) := B1.out.cell 2 rfl
  by_cases hlen : 40 < len3
  · have g40 : decide (40 < (len3 : Int)) = true := decide_eq_true (by omega)
    go_wp2_with fail
    go_returns
    exact ⟨rfl, B1.out.lo⟩
  have g40 : decide (40 < (len3 : Int)) = false := decide_eq_false (by omega)
  go_wp2_with fail
  refine (KX.out _).mono ?_
  rintro e wa ⟨rfl, hb⟩
  have BA := Lib.hid (B1.out.below hb)
  clear hb B1 f2
  dsimp only
  go_upto_region 7 with fail
  have hal := (Below.refl wa.heap.size wa).alloc (Nat.le_refl _) (.cells #[.int .i64 lo, .int .i64 hh] 65)
  have X0 := Lib.hid (Bx.new wa #[.int .i64 lo, .int .i64 hh] 65)
  have BB := Lib.hid (BA.out.below hal)
  clear hal BA
  generalize World.alloc wa _ = wb at *
  go_wp2_with fail
  refine (KY.out _).mono ?_
  rintro e wc ⟨rfl, hb⟩
  have BC := Lib.hid (BB.out.below hb)
  have X1 := Lib.hid (X0.out.below hb)
  clear hb BB X0 KX KY
  dsimp only
  go_upto_region 8 with fail
  have hal := (Below.refl wc.heap.size wc).alloc (Nat.le_refl _) (.cells #[.int .i64 lo, .int .i64 hh] 65)
  have Y2 := Lib.hid (Bx.new wc #[.int .i64 lo, .int .i64 hh] 65)
  have B1 := Lib.hid (BC.out.below hal)
  have X2 := Lib.hid (X1.out.below hal)
  clear hal BC X1
  generalize World.alloc wc _ = w1 at *
  go_wp2_with fail
  refine (KP.out _ (HE.out.below B1.out.lo)).mono ?_
  rintro e w2 ⟨xg, rfl, hy, hb⟩
  have B2 := Lib.hid (B1.out.below hb)
  have X3 := Lib.hid (X2.out.below hb)
  have Y3 := Lib.hid (Y2.out.below hb)
  have YG := Lib.hid hy
  clear hb hy B1 X2 Y2
  go_upto_region 9 with fail
  have hal := (Below.refl w2.heap.size w2).alloc (Nat.le_refl _) (.cells #[.int .u8 pi, .int .u8 ps, .slice xg pn pn] 24)
  have G3 := Lib.hid (Bx.new w2 #[.int .u8 pi, .int .u8 ps, .slice xg pn pn] 24)
  have B3 := Lib.hid (B2.out.below hal)
  have X4 := Lib.hid (X3.out.below hal)
  have Y4 := Lib.hid (Y3.out.below hal)
  have YG3 := Lib.hid (YG.out.below hal)
  clear hal B2 YG X3 Y3
  generalize World.alloc w2 _ = w3 at *
  go_wp2_with fail
  refine (KR.out _).mono ?_
  rintro e w4 ⟨xh, rfl, hy, hb⟩
  have B4 := Lib.hid (B3.out.below hb)
  have X5 := Lib.hid (X4.out.below hb)
  have Y5 := Lib.hid (Y4.out.below hb)
  have G4 := Lib.hid (G3.out.below hb)
  have YG4 := Lib.hid (YG3.out.below hb)
  have YH := Lib.hid hy
  clear hb hy B3 G3 YG3 X4 Y4
  go_upto_region 10 with fail
  have hal := (Below.refl w4.heap.size w4).alloc (Nat.le_refl _) (.cells #[.int .u8 pi, .int .u8 ps, .slice xh pn pn] 24)
  have H5 := Lib.hid (Bx.new w4 #[.int .u8 pi, .int .u8 ps, .slice xh pn pn] 24)
  have B5 := Lib.hid (B4.out.below hal)
  have X6 := Lib.hid (X5.out.below hal)
  have Y6 := Lib.hid (Y5.out.below hal)
  have G5 := Lib.hid (G4.out.below hal)
  have YG5 := Lib.hid (YG4.out.below hal)
  have YH5 := Lib.hid (YH.out.below hal)
  clear hal B4 G4 YG4 YH X5 Y5
  generalize World.alloc w4 _ = w5 at *
  have f0 : w5.cell? ⟨w.heap.size, 0, none⟩ = some (.int .u8 id3) := B5.out.cell 0 rfl
  have f1 : w5.cell? ⟨w.heap.size, 1, none⟩ = some (.int .u8 sq3) := B5.out.cell 1 rfl
  have f2 : w5.cell? ⟨w.heap.size, 2, none⟩ = some (.slice a3 len3 cap3) := B5.out.cell 2 rfl
  go_wp2_with fail
  refine (RA.out _ B5.out.lo).mono ?_
  rintro e w6 ⟨rfl, hb⟩
  have B6 := Lib.hid (B5.out.below hb)
  have X7 := Lib.hid (X6.out.below hb)
  have Y7 := Lib.hid (Y6.out.below hb)
  have G6 := Lib.hid (G5.out.below hb)
  have H6 := Lib.hid (H5.out.below hb)
  have YG6 := Lib.hid (YG5.out.below hb)
  have YH6 := Lib.hid (YH5.out.below hb)
  clear hb B5 G5 H5 YG5 YH5 X6 Y6 f0 f1 f2
  have f0 : w6.cell? ⟨w.heap.size, 0, none⟩ = some (.int .u8 id3) := B6.out.cell 0 rfl
  have f1 : w6.cell? ⟨w.heap.size, 1, none⟩ = some (.int .u8 sq3) := B6.out.cell 1 rfl
  have f2 : w6.cell? ⟨w.heap.size, 2, none⟩ = some (.slice a3 len3 cap3) := B6.out.cell 2 rfl
  go_wp2_with fail
  refine (RR.out _ B6.out.lo).mono ?_
  rintro e w8 ⟨rfl, hb⟩
  have B8 := Lib.hid (B6.out.below hb)
  have X8 := Lib.hid (X7.out.below hb)
  have Y8 := Lib.hid (Y7.out.below hb)
  have G8 := Lib.hid (G6.out.below hb)
  have H8 := Lib.hid (H6.out.below hb)
  have YG8 := Lib.hid (YG6.out.below hb)
  have YH8 := Lib.hid (YH6.out.below hb)
  clear hb B6 G6 H6 YG6 YH6 X7 Y7 f0 f1 f2 KP KR RA RR
  have p0 : w8.cell? ⟨wa.heap.size, 0, none⟩ = some (.int .i64 lo) := X8.out.cell 0 rfl
  have p1 : w8.cell? ⟨wa.heap.size, 1, none⟩ = some (.int .i64 hh) := X8.out.cell 1 rfl
  have q0 : w8.cell? ⟨wc.heap.size, 0, none⟩ = some (.int .i64 lo) := Y8.out.cell 0 rfl
  have q1 : w8.cell? ⟨wc.heap.size, 1, none⟩ = some (.int .i64 hh) := Y8.out.cell 1 rfl
  have KS := Lib.hid fun (u : World) => sameSpanE lo hh u
  have KI := Lib.hid fun (u : World) (hu : Below w.heap.size w u) => isC (HE.out.below hu) (errOf_is (E := E) (w := u) pc PCI.out)
  have KJ := Lib.hid fun (u : World) (hu : Below w.heap.size w u) => isC (HE.out.below hu) (errOf_is (E := E) (w := u) rc RCI.out)
  generalize errOf E pc = ve at *
  generalize errOf E rc = vx at *
  have ex : (rx == rx) = true := by simp
  have ey : (ry == ry) = true := by simp
  have ei : (is == is) = true := by simp
  go_wp2_with fail
  refine (KS.out _).mono ?_
  rintro e w9 ⟨rfl, hb⟩
  have L9 := Lib.hid (B8.out.lo.trans (hb.mono B8.out.lo.size))
  have G9 := Lib.hid (G8.out.below hb)
  have H9 := Lib.hid (H8.out.below hb)
  have YG9 := Lib.hid (YG8.out.below hb)
  have YH9 := Lib.hid (YH8.out.below hb)
  clear hb p0 p1 q0 q1 B8 G8 H8 YG8 YH8 X8 Y8 KS
  have c0 : w9.cell? ⟨w2.heap.size, 0, none⟩ = some (.int .u8 pi) := G9.out.cell 0 rfl
  have c1 : w9.cell? ⟨w2.heap.size, 1, none⟩ = some (.int .u8 ps) := G9.out.cell 1 rfl
  have c2 : w9.cell? ⟨w2.heap.size, 2, none⟩ = some (.slice xg pn pn) := G9.out.cell 2 rfl
  have d0 : w9.cell? ⟨w4.heap.size, 0, none⟩ = some (.int .u8 pi) := H9.out.cell 0 rfl
  have d1 : w9.cell? ⟨w4.heap.size, 1, none⟩ = some (.int .u8 ps) := H9.out.cell 1 rfl
  have d2 : w9.cell? ⟨w4.heap.size, 2, none⟩ = some (.slice xh pn pn) := H9.out.cell 2 rfl
  have KF := sameFrameC (i := pi) (j := pi) (s := ps) (t := ps) (ca := pn) (cb := pn) PN.out w9 YG9.out YH9.out
  rw [show ((pi == pi) && ((ps == ps) && sameB pn pn pf pf)) = true by simp [sameB_self]] at KF
  have KF := Lib.hid KF
  go_wp2_with fail
  refine KF.out.mono ?_
  rintro e wd ⟨rfl, hb⟩
  have LD := Lib.hid (L9.out.trans (hb.mono L9.out.size))
  clear hb c0 c1 c2 d0 d1 d2 G9 H9 YG9 YH9 KF L9
  go_wp2_with fail
  refine (KI.out _ LD.out).mono ?_
  rintro e we ⟨rfl, hb⟩
  have LA := Lib.hid (LD.out.trans (hb.mono LD.out.size))
  clear hb LD
  go_wp2_with fail
  refine (KJ.out _ LA.out).mono ?_
  rintro e wf ⟨rfl, hb⟩
  have LB := Lib.hid (LA.out.trans (hb.mono LA.out.size))
  clear hb LA KI KJ
  go_wp2_with fail
  go_returns
  exact ⟨rfl, LB.out⟩
end Go.Proofs.YtiiomiekjlggfaaDoor
