/- ActSays: whatever is put out, whatever frame is read. Conditions: the seven errors lie apart. -/
import Derived.Test.YtiiomiekjlggfaaDoorActK
import Derived.Test.YtiiomiekjlggfaaDoorPilB
namespace Go.Proofs.YtiiomiekjlggfaaDoor
open Go Go.RowKit
set_option linter.unusedVariables false
set_option maxRecDepth 20000
theorem byte_of {w : World} {a : Option Addr} {n cap : Nat} {z : List Int} (h : CameI .u8 w a n cap z) : ∀ i, i < n → 0 ≤ z.getD i 0 ∧ z.getD i 0 < 256 := by
  intro i hi
  rcases h with ⟨_, rfl, _⟩ | ⟨x, _, h1, _, h3, _, h5⟩
  · omega
  · have hl : i < z.length := by omega
    have e : z.getD i 0 = z[i] := by simp [List.getD, hl]
    rw [e]
    have := bounds_u8 (h5 z[i] (List.getElem_mem hl))
    omega
set_option maxHeartbeats 16000000 in
theorem walkActSays (a0_0 a0_1 a0_2 a0_3 a0_4 : Int) (a1 : Int) (id2 sq2 : Int) (a2 : Option Addr) (len2 cap2 : Nat) (z2 : List Int) (w : World) (w0_0 : (Lit.int .i64 a0_0).wf = true) (w0_1 : (Lit.int .i64 a0_1).wf = true) (w0_2 : (Lit.int .i64 a0_2).wf = true) (w0_3 : (Lit.int .i64 a0_3).wf = true) (w0_4 : (Lit.int .i64 a0_4).wf = true) (w1 : (Lit.int .u8 a1).wf = true) (w2i : (Lit.int .u8 id2).wf = true) (w2s : (Lit.int .u8 sq2).wf = true) (w2 : CameI .u8 w a2 len2 cap2 z2) (hE : ∃ E, Ers E w) :
    Calls Tryd.prog 7 #[.agg #[.int .i64 a0_0, .int .i64 a0_1, .int .i64 a0_2, .int .i64 a0_3, .int .i64 a0_4], .int .u8 a1, .agg #[.int .u8 id2, .int .u8 sq2, .slice a2 len2 cap2]] w fun e w' => e = .returned (.bool true) ∧ Below w.heap.size w w' := by
  obtain ⟨E, hE⟩ := hE
  have HE := Lib.hid hE
  have BY := Lib.hid (Byt.came w2)
  have BZ := Lib.hid (show ∀ i, i < len2 → 0 ≤ (fun i => z2.getD i 0) i ∧ (fun i => z2.getD i 0) i < 256 from byte_of w2)
  clear hE w0_0 w0_1 w0_2 w0_3 w0_4 w1 w2i w2s w2
  generalize (fun i => z2.getD i 0) = f at *
  obtain ⟨gd, hgd⟩ : ∃ g, goodO a0_0 a0_1 a0_2 a0_3 a0_4 = g := ⟨_, rfl⟩
  have KP := Lib.hid fun (w : World) (h : Ers E w) => putAny a0_0 a0_1 a0_2 a0_3 a0_4 a1 gd hgd w h
  have KR := Lib.hid fun (w : World) => putRAny a0_0 a0_1 a0_2 a0_3 a0_4 a1 gd hgd w
  have KC := Lib.hid fun (w : World) (h : Ers E w) => checkC a0_0 a0_1 a0_2 a0_3 a0_4 w h
  have KG := Lib.hid fun (w : World) => goodOutC a0_0 a0_1 a0_2 a0_3 a0_4 w
  rw [hgd] at KC KG
  have PCI := Lib.hid (pC_in gd)
  have PN := Lib.hid (show pN gd ≤ 100000 by cases gd <;> decide)
  clear hgd
  generalize pI gd = pi at *
  generalize pS gd a1 = ps at *
  generalize pN gd = pn at *
  generalize pC gd = pc at *
  generalize pF a0_0 a0_1 a0_2 a0_3 a0_4 = pf at *
  by_cases hlen : 40 < len2
  · have g40 : decide (40 < (len2 : Int)) = true := decide_eq_true (by omega)
    go_enter Tryd.func7, Tryd.ntmps7
    go_upto_region 1 with fail
    have B0 := Lib.hid (Bx2.new w #[.int .i64 a0_0, .int .i64 a0_1, .int .i64 a0_2, .int .i64 a0_3, .int .i64 a0_4] 49 #[.int .u8 id2, .int .u8 sq2, .slice a2 len2 cap2] 24)
    generalize World.alloc (World.alloc w _) _ = W at *
    go_wp2_with fail
    refine (actFirst _ (HE.out.below B0.out.lo)).mono ?_
    rintro e w1 ⟨rfl, hb⟩
    have B1 := Lib.hid (B0.out.below hb)
    clear hb B0
    have f2 : w1.cell? ⟨w.heap.size + 1, 2, none⟩ = some (.slice a2 len2 cap2) := B1.out.cell2 2 rfl
    go_wp2_with fail
    go_returns
    exact ⟨rfl, B1.out.lo⟩
  have g40 : decide (40 < (len2 : Int)) = false := decide_eq_false (by omega)
  go_enter Tryd.func7, Tryd.ntmps7
  go_upto_region 1 with fail
  have B0 := Lib.hid (Bx2.new w #[.int .i64 a0_0, .int .i64 a0_1, .int .i64 a0_2, .int .i64 a0_3, .int .i64 a0_4] 49 #[.int .u8 id2, .int .u8 sq2, .slice a2 len2 cap2] 24)
  generalize World.alloc (World.alloc w _) _ = W at *
  go_wp2_with fail
  refine (actFirst _ (HE.out.below B0.out.lo)).mono ?_
  rintro e w1 ⟨rfl, hb⟩
  have B1 := Lib.hid (B0.out.below hb)
  clear hb B0
  have y0 : w1.cell? ⟨w.heap.size, 0, none⟩ = some (.int .i64 a0_0) := B1.out.cell1 0 rfl
  have y1 : w1.cell? ⟨w.heap.size, 1, none⟩ = some (.int .i64 a0_1) := B1.out.cell1 1 rfl
  have y2 : w1.cell? ⟨w.heap.size, 2, none⟩ = some (.int .i64 a0_2) := B1.out.cell1 2 rfl
  have y3 : w1.cell? ⟨w.heap.size, 3, none⟩ = some (.int .i64 a0_3) := B1.out.cell1 3 rfl
  have y4 : w1.cell? ⟨w.heap.size, 4, none⟩ = some (.int .i64 a0_4) := B1.out.cell1 4 rfl
  have f2 : w1.cell? ⟨w.heap.size + 1, 2, none⟩ = some (.slice a2 len2 cap2) := B1.out.cell2 2 rfl
  go_wp2_with fail
  refine (KP.out _ (HE.out.below B1.out.lo)).mono ?_
  rintro e w2 ⟨xg, rfl, hy, hb⟩
  have B2 := Lib.hid (B1.out.below hb)
  have YG := Lib.hid hy
  clear hb hy B1 y0 y1 y2 y3 y4 f2
  go_upto_region 7 with fail
  have hal := (Below.refl w2.heap.size w2).alloc (Nat.le_refl _) (.cells #[.int .u8 pi, .int .u8 ps, .slice xg pn pn] 24)
  have G3 := Lib.hid (Bx.new w2 #[.int .u8 pi, .int .u8 ps, .slice xg pn pn] 24)
  have B3 := Lib.hid (B2.out.below hal)
  have YG3 := Lib.hid (YG.out.below hal)
  clear hal B2 YG
  generalize World.alloc w2 _ = w3 at *
  have y0 : w3.cell? ⟨w.heap.size, 0, none⟩ = some (.int .i64 a0_0) := B3.out.cell1 0 rfl
  have y1 : w3.cell? ⟨w.heap.size, 1, none⟩ = some (.int .i64 a0_1) := B3.out.cell1 1 rfl
  have y2 : w3.cell? ⟨w.heap.size, 2, none⟩ = some (.int .i64 a0_2) := B3.out.cell1 2 rfl
  have y3 : w3.cell? ⟨w.heap.size, 3, none⟩ = some (.int .i64 a0_3) := B3.out.cell1 3 rfl
  have y4 : w3.cell? ⟨w.heap.size, 4, none⟩ = some (.int .i64 a0_4) := B3.out.cell1 4 rfl
  go_wp2_with fail
  refine (KR.out _).mono ?_
  rintro e w4 ⟨xh, rfl, hy, hb⟩
  have B4 := Lib.hid (B3.out.below hb)
  have G4 := Lib.hid (G3.out.below hb)
  have YG4 := Lib.hid (YG3.out.below hb)
  have YH := Lib.hid hy
  clear hb hy B3 G3 YG3 y0 y1 y2 y3 y4
  go_upto_region 8 with fail
  have hal := (Below.refl w4.heap.size w4).alloc (Nat.le_refl _) (.cells #[.int .u8 pi, .int .u8 ps, .slice xh pn pn] 24)
  have H5 := Lib.hid (Bx.new w4 #[.int .u8 pi, .int .u8 ps, .slice xh pn pn] 24)
  have B5 := Lib.hid (B4.out.below hal)
  have G5 := Lib.hid (G4.out.below hal)
  have YG5 := Lib.hid (YG4.out.below hal)
  have YH5 := Lib.hid (YH.out.below hal)
  clear hal B4 G4 YG4 YH
  generalize World.alloc w4 _ = w5 at *
  have RA := Lib.hid fun (u : World) (hu : Below w.heap.size w u) => readAll (E := E) id2 sq2 a2 len2 cap2 f u (HE.out.below hu) (BY.out.below hu) BZ.out
  have RR := Lib.hid fun (u : World) (hu : Below w.heap.size w u) => readRAll id2 sq2 a2 len2 cap2 f u (BY.out.below hu) BZ.out
  have RCI := Lib.hid (rdC_in id2 len2 f)
  obtain ⟨o0, o1, o2, o3, o4, hov⟩ := rdV_is id2 len2 f
  rw [hov] at RA RR
  unfold outV at RA RR
  clear hov
  generalize rdC id2 len2 f = rc at *
  have f0 : w5.cell? ⟨w.heap.size + 1, 0, none⟩ = some (.int .u8 id2) := B5.out.cell2 0 rfl
  have f1 : w5.cell? ⟨w.heap.size + 1, 1, none⟩ = some (.int .u8 sq2) := B5.out.cell2 1 rfl
  have f2 : w5.cell? ⟨w.heap.size + 1, 2, none⟩ = some (.slice a2 len2 cap2) := B5.out.cell2 2 rfl
  go_wp2_with fail
  refine (RA.out _ B5.out.lo).mono ?_
  rintro e w6 ⟨rfl, hb⟩
  have B6 := Lib.hid (B5.out.below hb)
  have G6 := Lib.hid (G5.out.below hb)
  have H6 := Lib.hid (H5.out.below hb)
  have YG6 := Lib.hid (YG5.out.below hb)
  have YH6 := Lib.hid (YH5.out.below hb)
  clear hb B5 G5 H5 YG5 YH5 f0 f1 f2
  go_upto_region 9 with fail
  have hal := (Below.refl w6.heap.size w6).alloc (Nat.le_refl _) (.cells #[.int .i64 o0, .int .i64 o1, .int .i64 o2, .int .i64 o3, .int .i64 o4] 49)
  have P7 := Lib.hid (Bx.new w6 #[.int .i64 o0, .int .i64 o1, .int .i64 o2, .int .i64 o3, .int .i64 o4] 49)
  have B7 := Lib.hid (B6.out.below hal)
  have G7 := Lib.hid (G6.out.below hal)
  have H7 := Lib.hid (H6.out.below hal)
  have YG7 := Lib.hid (YG6.out.below hal)
  have YH7 := Lib.hid (YH6.out.below hal)
  clear hal B6 G6 H6 YG6 YH6
  generalize World.alloc w6 _ = w7 at *
  have f0 : w7.cell? ⟨w.heap.size + 1, 0, none⟩ = some (.int .u8 id2) := B7.out.cell2 0 rfl
  have f1 : w7.cell? ⟨w.heap.size + 1, 1, none⟩ = some (.int .u8 sq2) := B7.out.cell2 1 rfl
  have f2 : w7.cell? ⟨w.heap.size + 1, 2, none⟩ = some (.slice a2 len2 cap2) := B7.out.cell2 2 rfl
  go_wp2_with fail
  refine (RR.out _ B7.out.lo).mono ?_
  rintro e w8 ⟨rfl, hb⟩
  have B8 := Lib.hid (B7.out.below hb)
  have G8 := Lib.hid (G7.out.below hb)
  have H8 := Lib.hid (H7.out.below hb)
  have P8 := Lib.hid (P7.out.below hb)
  have YG8 := Lib.hid (YG7.out.below hb)
  have YH8 := Lib.hid (YH7.out.below hb)
  clear hb B7 G7 H7 P7 YG7 YH7 f0 f1 f2
  go_upto_region 10 with fail
  have hal := (Below.refl w8.heap.size w8).alloc (Nat.le_refl _) (.cells #[.int .i64 o0, .int .i64 o1, .int .i64 o2, .int .i64 o3, .int .i64 o4] 49)
  have Q9 := Lib.hid (Bx.new w8 #[.int .i64 o0, .int .i64 o1, .int .i64 o2, .int .i64 o3, .int .i64 o4] 49)
  have B9 := Lib.hid (B8.out.below hal)
  have G9 := Lib.hid (G8.out.below hal)
  have H9 := Lib.hid (H8.out.below hal)
  have P9 := Lib.hid (P8.out.below hal)
  have YG9 := Lib.hid (YG8.out.below hal)
  have YH9 := Lib.hid (YH8.out.below hal)
  clear hal B8 G8 H8 P8 YG8 YH8 KP KR RA RR
  generalize World.alloc w8 _ = w9 at *
  have ra0 := fun d => below_cell (reach_below w9.heap.size w9 d) (show w9.cell? ⟨w.heap.size, 0, none⟩ = some (.int .i64 a0_0) from B9.out.cell1 0 rfl)
  have ra1 := fun d => below_cell (reach_below w9.heap.size w9 d) (show w9.cell? ⟨w.heap.size, 1, none⟩ = some (.int .i64 a0_1) from B9.out.cell1 1 rfl)
  have ra2 := fun d => below_cell (reach_below w9.heap.size w9 d) (show w9.cell? ⟨w.heap.size, 2, none⟩ = some (.int .i64 a0_2) from B9.out.cell1 2 rfl)
  have ra3 := fun d => below_cell (reach_below w9.heap.size w9 d) (show w9.cell? ⟨w.heap.size, 3, none⟩ = some (.int .i64 a0_3) from B9.out.cell1 3 rfl)
  have ra4 := fun d => below_cell (reach_below w9.heap.size w9 d) (show w9.cell? ⟨w.heap.size, 4, none⟩ = some (.int .i64 a0_4) from B9.out.cell1 4 rfl)
  have rg0 := fun d => below_cell (reach_below w9.heap.size w9 d) (show w9.cell? ⟨w2.heap.size, 0, none⟩ = some (.int .u8 pi) from G9.out.cell 0 rfl)
  have rg1 := fun d => below_cell (reach_below w9.heap.size w9 d) (show w9.cell? ⟨w2.heap.size, 1, none⟩ = some (.int .u8 ps) from G9.out.cell 1 rfl)
  have rg2 := fun d => below_cell (reach_below w9.heap.size w9 d) (show w9.cell? ⟨w2.heap.size, 2, none⟩ = some (.slice xg pn pn) from G9.out.cell 2 rfl)
  have rh0 := fun d => below_cell (reach_below w9.heap.size w9 d) (show w9.cell? ⟨w4.heap.size, 0, none⟩ = some (.int .u8 pi) from H9.out.cell 0 rfl)
  have rh1 := fun d => below_cell (reach_below w9.heap.size w9 d) (show w9.cell? ⟨w4.heap.size, 1, none⟩ = some (.int .u8 ps) from H9.out.cell 1 rfl)
  have rh2 := fun d => below_cell (reach_below w9.heap.size w9 d) (show w9.cell? ⟨w4.heap.size, 2, none⟩ = some (.slice xh pn pn) from H9.out.cell 2 rfl)
  have rp0 := fun d => below_cell (reach_below w9.heap.size w9 d) (show w9.cell? ⟨w6.heap.size, 0, none⟩ = some (.int .i64 o0) from P9.out.cell 0 rfl)
  have rp1 := fun d => below_cell (reach_below w9.heap.size w9 d) (show w9.cell? ⟨w6.heap.size, 1, none⟩ = some (.int .i64 o1) from P9.out.cell 1 rfl)
  have rp2 := fun d => below_cell (reach_below w9.heap.size w9 d) (show w9.cell? ⟨w6.heap.size, 2, none⟩ = some (.int .i64 o2) from P9.out.cell 2 rfl)
  have rp3 := fun d => below_cell (reach_below w9.heap.size w9 d) (show w9.cell? ⟨w6.heap.size, 3, none⟩ = some (.int .i64 o3) from P9.out.cell 3 rfl)
  have rp4 := fun d => below_cell (reach_below w9.heap.size w9 d) (show w9.cell? ⟨w6.heap.size, 4, none⟩ = some (.int .i64 o4) from P9.out.cell 4 rfl)
  have rq0 := fun d => below_cell (reach_below w9.heap.size w9 d) (show w9.cell? ⟨w8.heap.size, 0, none⟩ = some (.int .i64 o0) from Q9.out.cell 0 rfl)
  have rq1 := fun d => below_cell (reach_below w9.heap.size w9 d) (show w9.cell? ⟨w8.heap.size, 1, none⟩ = some (.int .i64 o1) from Q9.out.cell 1 rfl)
  have rq2 := fun d => below_cell (reach_below w9.heap.size w9 d) (show w9.cell? ⟨w8.heap.size, 2, none⟩ = some (.int .i64 o2) from Q9.out.cell 2 rfl)
  have rq3 := fun d => below_cell (reach_below w9.heap.size w9 d) (show w9.cell? ⟨w8.heap.size, 3, none⟩ = some (.int .i64 o3) from Q9.out.cell 3 rfl)
  have rq4 := fun d => below_cell (reach_below w9.heap.size w9 d) (show w9.cell? ⟨w8.heap.size, 4, none⟩ = some (.int .i64 o4) from Q9.out.cell 4 rfl)
  have hB := Nat.le_refl w9.heap.size
  have LW := Lib.hid fun (d : World) => B9.out.lo.trans ((reach_below w9.heap.size w9 d).mono B9.out.lo.size)
  have KC9 := Lib.hid fun (d : World) => KC.out (reach w9.heap.size w9 d) (HE.out.below (LW.out d))
  have KG9 := Lib.hid fun (d : World) => KG.out (reach w9.heap.size w9 d)
  have KF9 := Lib.hid (show ∀ (d : World), Calls Tryd.prog 18 #[.agg #[.int .u8 pi, .int .u8 ps, .slice xg pn pn], .agg #[.int .u8 pi, .int .u8 ps, .slice xh pn pn]] (reach w9.heap.size w9 d) fun e w' => e = .returned (.bool true) ∧ Below (reach w9.heap.size w9 d).heap.size (reach w9.heap.size w9 d) w' by
    intro d
    have := sameFrameC (i := pi) (j := pi) (s := ps) (t := ps) (ca := pn) (cb := pn) PN.out (reach w9.heap.size w9 d) (YG9.out.below (reach_below _ _ d)) (YH9.out.below (reach_below _ _ d))
    rwa [show ((pi == pi) && ((ps == ps) && sameB pn pn pf pf)) = true by simp [sameB_self]] at this)
  have KO9 := Lib.hid (show ∀ (d : World), Calls Tryd.prog 25 #[.agg #[.int .i64 o0, .int .i64 o1, .int .i64 o2, .int .i64 o3, .int .i64 o4], .agg #[.int .i64 o0, .int .i64 o1, .int .i64 o2, .int .i64 o3, .int .i64 o4]] (reach w9.heap.size w9 d) fun e w' => e = .returned (.bool true) ∧ Below (reach w9.heap.size w9 d).heap.size (reach w9.heap.size w9 d) w' by
    intro d
    have := sameOutC o0 o1 o2 o3 o4 o0 o1 o2 o3 o4 (reach w9.heap.size w9 d)
    rwa [show ((o0 == o0) && ((o1 == o1) && ((o2 == o2) && ((o3 == o3) && (o4 == o4))))) = true by simp] at this)
  have KI9 := Lib.hid fun (d : World) => isC (HE.out.below (LW.out d)) (errOf_is (E := E) (w := reach w9.heap.size w9 d) pc PCI.out)
  have KJ9 := Lib.hid fun (d : World) => isC (HE.out.below (LW.out d)) (errOf_is (E := E) (w := reach w9.heap.size w9 d) rc RCI.out)
  generalize errOf E pc = ve at *
  generalize errOf E rc = vx at *
  clear KC KG PCI RCI
  cases gd
  all_goals
    simp only [if_true, if_false, Bool.false_eq_true] at KC9
    refine wp_region_reach w9.heap.size (by kernel_rfl) (by kernel_rfl) ?_
    repeat (go_big_quiet_step (first | (go_at_call 29; with_reducible exact reach_call hB (KC9.out _)) | (go_at_call 30; with_reducible exact reach_call hB (KG9.out _)) | (go_at_call 18; with_reducible exact reach_call hB (KF9.out _)) | (go_at_call 25; with_reducible exact reach_call hB (KO9.out _)) | (go_at_call 19; with_reducible exact reach_call hB (KI9.out _)) | (go_at_call 19; with_reducible exact reach_call hB (KJ9.out _))))
    refine wpQuiet_nil ?_
    rintro w' ⟨d, rfl⟩
    go_wp2_with fail
    go_returns
    exact ⟨rfl, LW.out d⟩
end Go.Proofs.YtiiomiekjlggfaaDoor
