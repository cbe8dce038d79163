/- What may be put out, of anything; its frame; the document's, too. Conditions: the seven errors lie apart. -/
import Derived.Test.YtiiomiekjlggfaaDoorByt
import Derived.Test.YtiiomiekjlggfaaDoorActC
import Derived.Deep.DeepCutAuto
import Derived.Deep.RegionWith
namespace Go.Proofs.YtiiomiekjlggfaaDoor
open Go Go.RowKit
set_option linter.unusedVariables false
set_option maxRecDepth 20000
def goodO (a b c d e : Int) : Bool := decide (0 ≤ a) && (decide (a ≤ 127) && (decide (0 ≤ b) && (decide (b ≤ 65535) && (decide (0 ≤ c) && (decide (c ≤ 3) && (decide (1 ≤ d) && (decide (d ≤ 5) && (decide (0 ≤ e) && (decide (e ≤ 511))))))))))
theorem goodO_is (a b c d e : Int) : goodO a b c d e = true ↔ (0 ≤ a ∧ a ≤ 127 ∧ 0 ≤ b ∧ b ≤ 65535 ∧ 0 ≤ c ∧ c ≤ 3 ∧ 1 ≤ d ∧ d ≤ 5 ∧ 0 ≤ e ∧ e ≤ 511) := by
  unfold goodO
  simp only [Bool.and_eq_true, decide_eq_true_eq]
set_option maxHeartbeats 8000000 in
theorem checkC {E : Nat → Addr} (a b c d e : Int) (w : World) (he : Ers E w) :
    Calls Tryd.prog 29 #[.agg #[.int .i64 a, .int .i64 b, .int .i64 c, .int .i64 d, .int .i64 e]] w fun r w' => r = .returned (if goodO a b c d e = true then .nilIface else .iface 102 (.pointer (some (E 0)))) ∧ Below w.heap.size w w' := by
  have HE := Lib.hid he
  clear he
  obtain ⟨g0, h0⟩ : ∃ g, decide (0 ≤ a) = g := ⟨_, rfl⟩
  obtain ⟨g1, h1⟩ : ∃ g, decide (a ≤ 127) = g := ⟨_, rfl⟩
  obtain ⟨g2, h2⟩ : ∃ g, decide (0 ≤ b) = g := ⟨_, rfl⟩
  obtain ⟨g3, h3⟩ : ∃ g, decide (b ≤ 65535) = g := ⟨_, rfl⟩
  obtain ⟨g4, h4⟩ : ∃ g, decide (0 ≤ c) = g := ⟨_, rfl⟩
  obtain ⟨g5, h5⟩ : ∃ g, decide (c ≤ 3) = g := ⟨_, rfl⟩
  obtain ⟨g6, h6⟩ : ∃ g, decide (1 ≤ d) = g := ⟨_, rfl⟩
  obtain ⟨g7, h7⟩ : ∃ g, decide (d ≤ 5) = g := ⟨_, rfl⟩
  obtain ⟨g8, h8⟩ : ∃ g, decide (0 ≤ e) = g := ⟨_, rfl⟩
  obtain ⟨g9, h9⟩ : ∃ g, decide (e ≤ 511) = g := ⟨_, rfl⟩
  have GO : goodO a b c d e = (g0 && (g1 && (g2 && (g3 && (g4 && (g5 && (g6 && (g7 && (g8 && (g9)))))))))) := by unfold goodO; rw [h0, h1, h2, h3, h4, h5, h6, h7, h8, h9]
  rw [GO]
  clear GO
  go_enter Tryd.func29, Tryd.ntmps29
  go_upto_region 1 with fail
  have B0 := Lib.hid (Bx.new w #[.int .i64 a, .int .i64 b, .int .i64 c, .int .i64 d, .int .i64 e] 49)
  generalize World.alloc w _ = W at *
  have x0 : W.cell? ⟨w.heap.size, 0, none⟩ = some (.int .i64 a) := B0.out.cell 0 rfl
  have x1 : W.cell? ⟨w.heap.size, 1, none⟩ = some (.int .i64 b) := B0.out.cell 1 rfl
  have x2 : W.cell? ⟨w.heap.size, 2, none⟩ = some (.int .i64 c) := B0.out.cell 2 rfl
  have x3 : W.cell? ⟨w.heap.size, 3, none⟩ = some (.int .i64 d) := B0.out.cell 3 rfl
  have x4 : W.cell? ⟨w.heap.size, 4, none⟩ = some (.int .i64 e) := B0.out.cell 4 rfl
  have q0 := (HE.out.below B0.out.lo).g0
  unfold errV at q0
  have LO := Lib.hid B0.out.lo
  cases g0
  · go_wp2_with fail
    go_returns
    exact ⟨rfl, LO.out⟩
  · skip
    cases g1
    · go_wp2_with fail
      go_returns
      exact ⟨rfl, LO.out⟩
    · skip
      cases g2
      · go_wp2_with fail
        go_returns
        exact ⟨rfl, LO.out⟩
      · skip
        cases g3
        · go_wp2_with fail
          go_returns
          exact ⟨rfl, LO.out⟩
        · skip
          cases g4
          · go_wp2_with fail
            go_returns
            exact ⟨rfl, LO.out⟩
          · skip
            cases g5
            · go_wp2_with fail
              go_returns
              exact ⟨rfl, LO.out⟩
            · skip
              cases g6
              · go_wp2_with fail
                go_returns
                exact ⟨rfl, LO.out⟩
              · skip
                cases g7
                · go_wp2_with fail
                  go_returns
                  exact ⟨rfl, LO.out⟩
                · skip
                  cases g8
                  · go_wp2_with fail
                    go_returns
                    exact ⟨rfl, LO.out⟩
                  · skip
                    cases g9
                    · go_wp2_with fail
                      go_returns
                      exact ⟨rfl, LO.out⟩
                    · go_wp2_with fail
                      go_returns
                      exact ⟨rfl, LO.out⟩
set_option maxHeartbeats 8000000 in
theorem goodOutC (a b c d e : Int) (w : World) :
    Calls Tryd.prog 30 #[.agg #[.int .i64 a, .int .i64 b, .int .i64 c, .int .i64 d, .int .i64 e]] w fun r w' => r = .returned (.bool (goodO a b c d e)) ∧ Below w.heap.size w w' := by
  obtain ⟨g0, h0⟩ : ∃ g, decide (0 ≤ a) = g := ⟨_, rfl⟩
  obtain ⟨g1, h1⟩ : ∃ g, decide (a ≤ 127) = g := ⟨_, rfl⟩
  obtain ⟨g2, h2⟩ : ∃ g, decide (0 ≤ b) = g := ⟨_, rfl⟩
  obtain ⟨g3, h3⟩ : ∃ g, decide (b ≤ 65535) = g := ⟨_, rfl⟩
  obtain ⟨g4, h4⟩ : ∃ g, decide (0 ≤ c) = g := ⟨_, rfl⟩
  obtain ⟨g5, h5⟩ : ∃ g, decide (c ≤ 3) = g := ⟨_, rfl⟩
  obtain ⟨g6, h6⟩ : ∃ g, decide (1 ≤ d) = g := ⟨_, rfl⟩
  obtain ⟨g7, h7⟩ : ∃ g, decide (d ≤ 5) = g := ⟨_, rfl⟩
  obtain ⟨g8, h8⟩ : ∃ g, decide (0 ≤ e) = g := ⟨_, rfl⟩
  obtain ⟨g9, h9⟩ : ∃ g, decide (e ≤ 511) = g := ⟨_, rfl⟩
  have GO : goodO a b c d e = (g0 && (g1 && (g2 && (g3 && (g4 && (g5 && (g6 && (g7 && (g8 && (g9)))))))))) := by unfold goodO; rw [h0, h1, h2, h3, h4, h5, h6, h7, h8, h9]
  rw [GO]
  clear GO
  go_enter Tryd.func30, Tryd.ntmps30
  go_upto_region 1 with fail
  have B0 := Lib.hid (Bx.new w #[.int .i64 a, .int .i64 b, .int .i64 c, .int .i64 d, .int .i64 e] 49)
  generalize World.alloc w _ = W at *
  have x0 : W.cell? ⟨w.heap.size, 0, none⟩ = some (.int .i64 a) := B0.out.cell 0 rfl
  have x1 : W.cell? ⟨w.heap.size, 1, none⟩ = some (.int .i64 b) := B0.out.cell 1 rfl
  have x2 : W.cell? ⟨w.heap.size, 2, none⟩ = some (.int .i64 c) := B0.out.cell 2 rfl
  have x3 : W.cell? ⟨w.heap.size, 3, none⟩ = some (.int .i64 d) := B0.out.cell 3 rfl
  have x4 : W.cell? ⟨w.heap.size, 4, none⟩ = some (.int .i64 e) := B0.out.cell 4 rfl
  have LO := Lib.hid B0.out.lo
  cases g0
  · go_wp2_with fail
    go_returns
    exact ⟨rfl, LO.out⟩
  · skip
    cases g1
    · go_wp2_with fail
      go_returns
      exact ⟨rfl, LO.out⟩
    · skip
      cases g2
      · go_wp2_with fail
        go_returns
        exact ⟨rfl, LO.out⟩
      · skip
        cases g3
        · go_wp2_with fail
          go_returns
          exact ⟨rfl, LO.out⟩
        · skip
          cases g4
          · go_wp2_with fail
            go_returns
            exact ⟨rfl, LO.out⟩
          · skip
            cases g5
            · go_wp2_with fail
              go_returns
              exact ⟨rfl, LO.out⟩
            · skip
              cases g6
              · go_wp2_with fail
                go_returns
                exact ⟨rfl, LO.out⟩
              · skip
                cases g7
                · go_wp2_with fail
                  go_returns
                  exact ⟨rfl, LO.out⟩
                · skip
                  cases g8
                  · go_wp2_with fail
                    go_returns
                    exact ⟨rfl, LO.out⟩
                  · skip
                    cases g9
                    · go_wp2_with fail
                      go_returns
                      exact ⟨rfl, LO.out⟩
                    · go_wp2_with fail
                      go_returns
                      exact ⟨rfl, LO.out⟩
set_option maxHeartbeats 8000000 in
theorem sameOutC (a b c d e a2 b2 c2 d2 e2 : Int) (w : World) :
    Calls Tryd.prog 25 #[.agg #[.int .i64 a, .int .i64 b, .int .i64 c, .int .i64 d, .int .i64 e], .agg #[.int .i64 a2, .int .i64 b2, .int .i64 c2, .int .i64 d2, .int .i64 e2]] w fun r w' => r = .returned (.bool ((a == a2) && ((b == b2) && ((c == c2) && ((d == d2) && ((e == e2))))))) ∧ Below w.heap.size w w' := by
  obtain ⟨g0, h0⟩ : ∃ g, (a == a2) = g := ⟨_, rfl⟩
  obtain ⟨g1, h1⟩ : ∃ g, (b == b2) = g := ⟨_, rfl⟩
  obtain ⟨g2, h2⟩ : ∃ g, (c == c2) = g := ⟨_, rfl⟩
  obtain ⟨g3, h3⟩ : ∃ g, (d == d2) = g := ⟨_, rfl⟩
  obtain ⟨g4, h4⟩ : ∃ g, (e == e2) = g := ⟨_, rfl⟩
  rw [h0, h1, h2, h3, h4]
  go_enter Tryd.func25, Tryd.ntmps25
  go_upto_region 1 with fail
  have B0 := Lib.hid (Bx2.new w #[.int .i64 a, .int .i64 b, .int .i64 c, .int .i64 d, .int .i64 e] 49 #[.int .i64 a2, .int .i64 b2, .int .i64 c2, .int .i64 d2, .int .i64 e2] 49)
  generalize World.alloc (World.alloc w _) _ = W at *
  have x0 : W.cell? ⟨w.heap.size, 0, none⟩ = some (.int .i64 a) := B0.out.cell1 0 rfl
  have y0 : W.cell? ⟨w.heap.size + 1, 0, none⟩ = some (.int .i64 a2) := B0.out.cell2 0 rfl
  have x1 : W.cell? ⟨w.heap.size, 1, none⟩ = some (.int .i64 b) := B0.out.cell1 1 rfl
  have y1 : W.cell? ⟨w.heap.size + 1, 1, none⟩ = some (.int .i64 b2) := B0.out.cell2 1 rfl
  have x2 : W.cell? ⟨w.heap.size, 2, none⟩ = some (.int .i64 c) := B0.out.cell1 2 rfl
  have y2 : W.cell? ⟨w.heap.size + 1, 2, none⟩ = some (.int .i64 c2) := B0.out.cell2 2 rfl
  have x3 : W.cell? ⟨w.heap.size, 3, none⟩ = some (.int .i64 d) := B0.out.cell1 3 rfl
  have y3 : W.cell? ⟨w.heap.size + 1, 3, none⟩ = some (.int .i64 d2) := B0.out.cell2 3 rfl
  have x4 : W.cell? ⟨w.heap.size, 4, none⟩ = some (.int .i64 e) := B0.out.cell1 4 rfl
  have y4 : W.cell? ⟨w.heap.size + 1, 4, none⟩ = some (.int .i64 e2) := B0.out.cell2 4 rfl
  have LO := Lib.hid B0.out.lo
  cases g0
  · go_wp2_with fail
    go_returns
    exact ⟨rfl, LO.out⟩
  · skip
    cases g1
    · go_wp2_with fail
      go_returns
      exact ⟨rfl, LO.out⟩
    · skip
      cases g2
      · go_wp2_with fail
        go_returns
        exact ⟨rfl, LO.out⟩
      · skip
        cases g3
        · go_wp2_with fail
          go_returns
          exact ⟨rfl, LO.out⟩
        · skip
          cases g4
          · go_wp2_with fail
            go_returns
            exact ⟨rfl, LO.out⟩
          · go_wp2_with fail
            go_returns
            exact ⟨rfl, LO.out⟩
end Go.Proofs.YtiiomiekjlggfaaDoor
