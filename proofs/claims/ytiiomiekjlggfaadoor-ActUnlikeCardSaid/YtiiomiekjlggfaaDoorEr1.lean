/- The range's error alone lies as the program's text lays it; what may be put out, with it. No other condition. -/
import Derived.Test.YtiiomiekjlggfaaDoorActU
namespace Go.Proofs.YtiiomiekjlggfaaDoor
open Go Go.ChangeShapes Go.WideShapes Go.ChangeAt Go.WideMaps Go.WideElems Go.RowKit
set_option linter.unusedVariables false
set_option maxRecDepth 20000
structure Er1 (E : Nat → Addr) (w : World) : Prop where
  g0 : w.cell? ⟨0, 0, none⟩ = some (errV (E 0))
theorem Er1.below {E : Nat → Addr} {w w' : World} (h : Er1 E w) (hb : Below w.heap.size w w') : Er1 E w' := ⟨below_cell hb h.g0⟩
abbrev laidErr1 : List (String × DataW Unit) := [("dynamo/api.ErrRange", Rows.laid_dynamo_api_ErrRange)]
theorem err1_door_met (os : Os) (args : Array Value) : laidMetH Tryd.prog laidErr1 ((World.doorLaid Tryd.prog 400 os).forCall (fun _ _ => 0) ⟨#[], args, []⟩).memory :=
  laidMetH_of_parts3 (fuel := 8) (laidMet_of_run' 8 (by kernel_rfl) (by kernel_rfl)) (by kernel_rfl) (by kernel_rfl)
theorem er1_of_laid {W : World} (h : laidMetH Tryd.prog laidErr1 W) : ∃ E, Er1 E W := by
  rw [MakeChecks.laidMetH_plain _ _ _ (by kernel_rfl)] at h
  obtain ⟨ps, ⟨g0, t0, cs0, f0, p0, q0, hg0, ht0, hv0, hd0, hq, e0⟩, hnd, hrows⟩ := h
  obtain rfl := Option.some.inj (erG0.symm.trans hg0)
  obtain rfl := Option.some.inj (erT0.symm.trans ht0)
  have hq0 : q0 = [] := hq
  subst hq0
  subst e0
  obtain ⟨l0⟩ := cs0
  have ok0 : ∀ u v, l0 = [.iface u v] → Value.okWide Tryd.prog W .any 0 u v := fun u v e => by
    subst e
    exact (hrows 0 0 (by simp [MemPlace.row])).2 u v (by simpa using World.var?_cell hg0 hv0 0)
  obtain ⟨a0, s0, rfl, hc0, hs0, hz0, rfl⟩ := errorString_of_trod Tryd.underlying28 erRow Tryd.underlying102 Tryd.underlying119 rfl rfl Tryd.underlying9 erCells erCellS hd0 ok0
  exact ⟨fun _ => a0, ⟨by simpa [errV] using World.var?_cell hg0 hv0 0⟩⟩
set_option maxHeartbeats 4000000 in
theorem chkZero1 {E : Nat → Addr} (w : World) (he : Er1 E w) :
    Calls Tryd.prog 29 #[.agg #[.int .i64 (0), .int .i64 (0), .int .i64 (0), .int .i64 (0), .int .i64 (0)]] w fun e w' => e = .returned (.iface 102 (.pointer (some (E 0)))) ∧ Below w.heap.size w w' := by
  have HE := Lib.hid he
  clear he
  go_enter Tryd.func29, Tryd.ntmps29
  go_upto_region 1 with fail
  have B0 := Lib.hid (Bx.new w #[.int .i64 (0), .int .i64 (0), .int .i64 (0), .int .i64 (0), .int .i64 (0)] 49)
  generalize World.alloc w _ = W at *
  have x0 : W.cell? ⟨w.heap.size, 0, none⟩ = some (.int .i64 (0)) := B0.out.cell 0 rfl
  have x1 : W.cell? ⟨w.heap.size, 1, none⟩ = some (.int .i64 (0)) := B0.out.cell 1 rfl
  have x2 : W.cell? ⟨w.heap.size, 2, none⟩ = some (.int .i64 (0)) := B0.out.cell 2 rfl
  have x3 : W.cell? ⟨w.heap.size, 3, none⟩ = some (.int .i64 (0)) := B0.out.cell 3 rfl
  have x4 : W.cell? ⟨w.heap.size, 4, none⟩ = some (.int .i64 (0)) := B0.out.cell 4 rfl
  have q0 := (HE.out.below B0.out.lo).g0
  unfold errV at q0
  go_wp2_with fail
  go_returns
  exact ⟨rfl, B0.out.lo⟩
set_option maxHeartbeats 4000000 in
theorem chkOne1 {E : Nat → Addr} (w : World) (he : Er1 E w) :
    Calls Tryd.prog 29 #[.agg #[.int .i64 (0), .int .i64 (0), .int .i64 (0), .int .i64 (1), .int .i64 (0)]] w fun e w' => e = .returned (.nilIface) ∧ Below w.heap.size w w' := by
  have HE := Lib.hid he
  clear he
  go_enter Tryd.func29, Tryd.ntmps29
  go_upto_region 1 with fail
  have B0 := Lib.hid (Bx.new w #[.int .i64 (0), .int .i64 (0), .int .i64 (0), .int .i64 (1), .int .i64 (0)] 49)
  generalize World.alloc w _ = W at *
  have x0 : W.cell? ⟨w.heap.size, 0, none⟩ = some (.int .i64 (0)) := B0.out.cell 0 rfl
  have x1 : W.cell? ⟨w.heap.size, 1, none⟩ = some (.int .i64 (0)) := B0.out.cell 1 rfl
  have x2 : W.cell? ⟨w.heap.size, 2, none⟩ = some (.int .i64 (0)) := B0.out.cell 2 rfl
  have x3 : W.cell? ⟨w.heap.size, 3, none⟩ = some (.int .i64 (1)) := B0.out.cell 3 rfl
  have x4 : W.cell? ⟨w.heap.size, 4, none⟩ = some (.int .i64 (0)) := B0.out.cell 4 rfl
  have q0 := (HE.out.below B0.out.lo).g0
  unfold errV at q0
  go_wp2_with fail
  go_returns
  exact ⟨rfl, B0.out.lo⟩
set_option maxHeartbeats 4000000 in
theorem actFirst1 {E : Nat → Addr} (w : World) (he : Er1 E w) : Calls Tryd.prog 23 #[] w fun e w' => e = .returned (.bool true) ∧ Below w.heap.size w w' := by
  have HE := Lib.hid he
  clear he
  go_enter Tryd.func23, Tryd.ntmps23
  go_wp2_with fail
  refine (chkZero1 _ HE.out).mono ?_
  rintro e w1 ⟨rfl, hb⟩
  have B1 := Lib.hid hb
  clear hb
  go_wp2_with fail
  refine (chkOne1 _ (HE.out.below B1.out)).mono ?_
  rintro e w2 ⟨rfl, hb⟩
  have B2 := Lib.hid (B1.out.trans (hb.mono B1.out.size))
  clear hb
  go_wp2_with fail
  go_returns
  exact ⟨rfl, B2.out⟩
set_option maxHeartbeats 8000000 in
theorem check1 {E : Nat → Addr} (a b c d e : Int) (w : World) (he : Er1 E w) :
    Calls Tryd.prog 29 #[.agg #[.int .i64 a, .int .i64 b, .int .i64 c, .int .i64 d, .int .i64 e]] w fun r w' => r = .returned (if goodO a b c d e = true then .nilIface else .iface 102 (.pointer (some (E 0)))) ∧ Below w.heap.size w w' := by
  have HE := Lib.hid he
  clear he
  obtain ⟨g0, h0⟩ : ∃ g, decide (0 ≤ a) = g := ⟨_, rfl⟩
  obtain ⟨g1, h1⟩ : ∃ g, decide (a ≤ 127) = g := ⟨_, rfl⟩
  obtain ⟨g2, h2⟩ : ∃ g, decide (0 ≤ b) = g := ⟨_, rfl⟩
  obtain ⟨g3, h3⟩ : ∃ g, decide (b ≤ 65535) = g := ⟨_, rfl⟩
  obtain ⟨g4, h4⟩ : ∃ g, decide (0 ≤ c) = g := ⟨_, rfl⟩
  obtain ⟨g5, h5⟩ : ∃ g, decide (c ≤ 3) = g := ⟨_, rfl⟩
  obtain ⟨g6, h6⟩ : ∃ g, decide (1 ≤ d) = g := ⟨_, rfl⟩
  obtain ⟨g7, h7⟩ : ∃ g, decide (d ≤ 5) = g := ⟨_, rfl⟩
  obtain ⟨g8, h8⟩ : ∃ g, decide (0 ≤ e) = g := ⟨_, rfl⟩
  obtain ⟨g9, h9⟩ : ∃ g, decide (e ≤ 511) = g := ⟨_, rfl⟩
  have GO : goodO a b c d e = (g0 && (g1 && (g2 && (g3 && (g4 && (g5 && (g6 && (g7 && (g8 && (g9)))))))))) := by unfold goodO; rw [h0, h1, h2, h3, h4, h5, h6, h7, h8, h9]
  rw [GO]
  clear GO
  go_enter Tryd.func29, Tryd.ntmps29
  go_upto_region 1 with fail
  have B0 := Lib.hid (Bx.new w #[.int .i64 a, .int .i64 b, .int .i64 c, .int .i64 d, .int .i64 e] 49)
  generalize World.alloc w _ = W at *
  have x0 : W.cell? ⟨w.heap.size, 0, none⟩ = some (.int .i64 a) := B0.out.cell 0 rfl
  have x1 : W.cell? ⟨w.heap.size, 1, none⟩ = some (.int .i64 b) := B0.out.cell 1 rfl
  have x2 : W.cell? ⟨w.heap.size, 2, none⟩ = some (.int .i64 c) := B0.out.cell 2 rfl
  have x3 : W.cell? ⟨w.heap.size, 3, none⟩ = some (.int .i64 d) := B0.out.cell 3 rfl
  have x4 : W.cell? ⟨w.heap.size, 4, none⟩ = some (.int .i64 e) := B0.out.cell 4 rfl
  have q0 := (HE.out.below B0.out.lo).g0
  unfold errV at q0
  have LO := Lib.hid B0.out.lo
  cases g0
  · go_wp2_with fail
    go_returns
    exact ⟨rfl, LO.out⟩
  · skip
    cases g1
    · go_wp2_with fail
      go_returns
      exact ⟨rfl, LO.out⟩
    · skip
      cases g2
      · go_wp2_with fail
        go_returns
        exact ⟨rfl, LO.out⟩
      · skip
        cases g3
        · go_wp2_with fail
          go_returns
          exact ⟨rfl, LO.out⟩
        · skip
          cases g4
          · go_wp2_with fail
            go_returns
            exact ⟨rfl, LO.out⟩
          · skip
            cases g5
            · go_wp2_with fail
              go_returns
              exact ⟨rfl, LO.out⟩
            · skip
              cases g6
              · go_wp2_with fail
                go_returns
                exact ⟨rfl, LO.out⟩
              · skip
                cases g7
                · go_wp2_with fail
                  go_returns
                  exact ⟨rfl, LO.out⟩
                · skip
                  cases g8
                  · go_wp2_with fail
                    go_returns
                    exact ⟨rfl, LO.out⟩
                  · skip
                    cases g9
                    · go_wp2_with fail
                      go_returns
                      exact ⟨rfl, LO.out⟩
                    · go_wp2_with fail
                      go_returns
                      exact ⟨rfl, LO.out⟩
set_option maxHeartbeats 8000000 in
theorem put1 {E : Nat → Addr} (a b c d e s : Int) (hg : goodO a b c d e = true) (w : World) (he : Er1 E w) :
    Calls Tryd.prog 24 #[.agg #[.int .i64 a, .int .i64 b, .int .i64 c, .int .i64 d, .int .i64 e], .int .u8 s] w fun r w' => ∃ B, r = .returned (.tuple #[.agg #[.int .u8 96, .int .u8 s, .slice (some ⟨B, 0, none⟩) 7 7], .nilIface]) ∧ w'.heap[B]? = some (.cells #[.int .u8 a, .int .u8 (b / 256), .int .u8 (b % 256), .int .u8 c, .int .u8 d, .int .u8 (e / 256), .int .u8 (e % 256)] 5 (0, 0)) ∧ Below w.heap.size w w' := by
  have HE := Lib.hid he
  have K := Lib.hid fun (w : World) (h : Er1 E w) => check1 a b c d e w h
  rw [if_pos hg] at K
  clear he
  have hr := (goodO_is a b c d e).1 hg
  clear hg
  have v0 : IntKind.u8.wrap a = a := by rw [IntKind.wrap_u8]; omega
  have v1 : IntKind.u8.wrap (b / 256) = b / 256 := by rw [IntKind.wrap_u8]; omega
  have v2 : IntKind.u8.wrap b = b % 256 := by rw [IntKind.wrap_u8]
  have v3 : IntKind.u8.wrap c = c := by rw [IntKind.wrap_u8]; omega
  have v4 : IntKind.u8.wrap d = d := by rw [IntKind.wrap_u8]; omega
  have v5 : IntKind.u8.wrap (e / 256) = e / 256 := by rw [IntKind.wrap_u8]; omega
  have v6 : IntKind.u8.wrap e = e % 256 := by rw [IntKind.wrap_u8]
  clear hr
  go_enter Tryd.func24, Tryd.ntmps24
  go_upto_region 1 with fail
  have B0 := Lib.hid (Bx2.new w #[.int .i64 a, .int .i64 b, .int .i64 c, .int .i64 d, .int .i64 e] 49 #[.int .u8 0, .int .u8 0, .slice none 0 0] 24)
  generalize World.alloc (World.alloc w _) _ = W at *
  have y0 : W.cell? ⟨w.heap.size, 0, none⟩ = some (.int .i64 a) := B0.out.cell1 0 rfl
  have y1 : W.cell? ⟨w.heap.size, 1, none⟩ = some (.int .i64 b) := B0.out.cell1 1 rfl
  have y2 : W.cell? ⟨w.heap.size, 2, none⟩ = some (.int .i64 c) := B0.out.cell1 2 rfl
  have y3 : W.cell? ⟨w.heap.size, 3, none⟩ = some (.int .i64 d) := B0.out.cell1 3 rfl
  have y4 : W.cell? ⟨w.heap.size, 4, none⟩ = some (.int .i64 e) := B0.out.cell1 4 rfl
  go_wp2_with fail
  refine (K.out _ (HE.out.below B0.out.lo)).mono ?_
  rintro e w1 ⟨rfl, hb⟩
  have B1 := Lib.hid (B0.out.below hb)
  clear hb B0 y0 y1 y2 y3 y4
  have y0 : w1.cell? ⟨w.heap.size, 0, none⟩ = some (.int .i64 a) := B1.out.cell1 0 rfl
  have y1 : w1.cell? ⟨w.heap.size, 1, none⟩ = some (.int .i64 b) := B1.out.cell1 1 rfl
  have y2 : w1.cell? ⟨w.heap.size, 2, none⟩ = some (.int .i64 c) := B1.out.cell1 2 rfl
  have y3 : w1.cell? ⟨w.heap.size, 3, none⟩ = some (.int .i64 d) := B1.out.cell1 3 rfl
  have y4 : w1.cell? ⟨w.heap.size, 4, none⟩ = some (.int .i64 e) := B1.out.cell1 4 rfl
  have x0 : w1.cell? ⟨w.heap.size + 1, 0, none⟩ = some (.int .u8 0) := B1.out.cell2 0 rfl
  have x1 : w1.cell? ⟨w.heap.size + 1, 1, none⟩ = some (.int .u8 0) := B1.out.cell2 1 rfl
  have x2 : w1.cell? ⟨w.heap.size + 1, 2, none⟩ = some (.slice none 0 0) := B1.out.cell2 2 rfl
  have xf := B1.out.froz2
  have A1 := Lib.hid fun o => B1.out.below ((Below.refl w1.heap.size w1).alloc (Nat.le_refl _) o)
  have x0a := fun o => (A1.out o).cell2 0 rfl
  have x1a := fun o => (A1.out o).cell2 1 rfl
  have x2a := fun o => (A1.out o).cell2 2 rfl
  have xfa := fun o => (A1.out o).froz2
  go_wp2_with fail
  have R3 := Lib.hid (heap_alloc_new w1 (.cells #[.int .u8 a, .int .u8 (b / 256), .int .u8 (b % 256), .int .u8 c, .int .u8 d, .int .u8 (e / 256), .int .u8 (e % 256)] 5))
  have B2 := Lib.hid (A1.out (.cells #[.int .u8 a, .int .u8 (b / 256), .int .u8 (b % 256), .int .u8 c, .int .u8 d, .int .u8 (e / 256), .int .u8 (e % 256)] 5))
  have hsz := Lib.hid (Array.getElem?_eq_some_iff.1 B1.out.row2).1
  clear x0 x1 x2 xf x0a x1a x2a xfa y0 y1 y2 y3 y4 A1
  generalize World.alloc w1 _ = W3 at *
  have B6 := Lib.hid (((B2.out.set2 0 (.int .u8 96)).set2 1 (.int .u8 s)).set2 2 (.slice (some ⟨w1.heap.size, 0, none⟩) 7 7))
  have R6 : (((W3.setCell ⟨w.heap.size + 1, 0, none⟩ (.int .u8 96)).setCell ⟨w.heap.size + 1, 1, none⟩ (.int .u8 s)).setCell ⟨w.heap.size + 1, 2, none⟩ (.slice (some ⟨w1.heap.size, 0, none⟩) 7 7)).heap[w1.heap.size]? = some (.cells #[.int .u8 a, .int .u8 (b / 256), .int .u8 (b % 256), .int .u8 c, .int .u8 d, .int .u8 (e / 256), .int .u8 (e % 256)] 5 (0, 0)) := by
    have := hsz.out
    rw [heap_setCell_other _ _ _ _ (by simp; omega), heap_setCell_other _ _ _ _ (by simp; omega), heap_setCell_other _ _ _ _ (by simp; omega)]
    exact R3.out
  have R7 := Lib.hid R6
  clear R6 R3 B2
  generalize World.setCell (World.setCell (World.setCell W3 _ _) _ _) _ _ = W4 at *
  have q0 : W4.cell? ⟨w.heap.size + 1, 0, none⟩ = some (.int .u8 96) := B6.out.cell2 0 rfl
  have q1 : W4.cell? ⟨w.heap.size + 1, 1, none⟩ = some (.int .u8 s) := B6.out.cell2 1 rfl
  have q2 : W4.cell? ⟨w.heap.size + 1, 2, none⟩ = some (.slice (some ⟨w1.heap.size, 0, none⟩) 7 7) := B6.out.cell2 2 rfl
  refine bodyPost_ret (v := .tuple #[.agg #[.int .u8 96, .int .u8 s, .slice (some ⟨w1.heap.size, 0, none⟩) 7 7], .nilIface]) (by simp [results, Tryd.results24, go_sem, q0, q1, q2]) rfl ⟨w1.heap.size, rfl, R7.out, B6.out.lo⟩
end Go.Proofs.YtiiomiekjlggfaaDoor
