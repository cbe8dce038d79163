/- The examples of chapter 11; whether records are the same. Conditions: the seven errors lie apart. -/
import Derived.Test.YtngomgkinaodjaaDoorSlotB
import Derived.Test.YtngomgkinaodjaaDoorIsC
import Derived.Test.YtngomgkinaodjaaDoorMix
namespace Go.Proofs.YtngomgkinaodjaaDoor
open Go Go.RowKit
set_option linter.unusedVariables false
set_option maxRecDepth 20000
theorem sameSpanQ (a b c d : Int) (w : World) : Calls Tryd.prog 43 #[.agg #[.int .i64 a, .int .i64 b], .agg #[.int .i64 c, .int .i64 d]] w fun e w' => e = .returned (.bool ((a == c) && (b == d))) ∧ Below w.heap.size w w' := by
  obtain ⟨g, hg⟩ : ∃ g, (a == c) = g := ⟨_, rfl⟩
  obtain ⟨h, hh⟩ : ∃ h, (b == d) = h := ⟨_, rfl⟩
  rw [hg, hh]
  go_enter Tryd.func43, Tryd.ntmps43
  go_upto_region 1 with fail
  have B0 := Lib.hid (Bx2.new w #[.int .i64 a, .int .i64 b] 49 #[.int .i64 c, .int .i64 d] 49)
  generalize World.alloc (World.alloc w _) _ = W at *
  have y0 : W.cell? ⟨w.heap.size, 0, none⟩ = some (.int .i64 a) := B0.out.cell1 0 rfl
  have y1 : W.cell? ⟨w.heap.size, 1, none⟩ = some (.int .i64 b) := B0.out.cell1 1 rfl
  have x0 : W.cell? ⟨w.heap.size + 1, 0, none⟩ = some (.int .i64 c) := B0.out.cell2 0 rfl
  have x1 : W.cell? ⟨w.heap.size + 1, 1, none⟩ = some (.int .i64 d) := B0.out.cell2 1 rfl
  cases g
  · go_wp2_with fail
    go_returns
    exact ⟨rfl, B0.out.lo⟩
  · go_wp2_with fail
    go_returns
    exact ⟨rfl, B0.out.lo⟩
set_option maxHeartbeats 8000000 in
theorem sameRecC (s m l a b c d s2 m2 l2 a2 b2 c2 d2 : Int) (w : World) : Calls Tryd.prog 30 #[.agg #[.int .u32 s, .int .i64 m, .int .u32 l, .int .i64 a, .int .i64 b, .int .i64 c, .int .i64 d], .agg #[.int .u32 s2, .int .i64 m2, .int .u32 l2, .int .i64 a2, .int .i64 b2, .int .i64 c2, .int .i64 d2]] w fun e w' => e = .returned (.bool ((s == s2) && ((m == m2) && ((l == l2) && (((a == a2) && (b == b2)) && ((c == c2) && (d == d2))))))) ∧ Below w.heap.size w w' := by
  obtain ⟨g0, h0⟩ : ∃ g, (s == s2) = g := ⟨_, rfl⟩
  obtain ⟨g1, h1⟩ : ∃ g, (m == m2) = g := ⟨_, rfl⟩
  obtain ⟨g2, h2⟩ : ∃ g, (l == l2) = g := ⟨_, rfl⟩
  have K1 := Lib.hid fun (u : World) => sameSpanQ a b a2 b2 u
  have K2 := Lib.hid fun (u : World) => sameSpanQ c d c2 d2 u
  obtain ⟨g3, h3⟩ : ∃ g, ((a == a2) && (b == b2)) = g := ⟨_, rfl⟩
  obtain ⟨g4, h4⟩ : ∃ g, ((c == c2) && (d == d2)) = g := ⟨_, rfl⟩
  rw [h3] at K1
  rw [h4] at K2
  rw [h0, h1, h2, h3, h4]
  clear h3 h4
  go_enter Tryd.func30, Tryd.ntmps30
  go_upto_region 1 with fail
  have B0 := Lib.hid (Bx2.new w #[.int .u32 s, .int .i64 m, .int .u32 l, .int .i64 a, .int .i64 b, .int .i64 c, .int .i64 d] 51 #[.int .u32 s2, .int .i64 m2, .int .u32 l2, .int .i64 a2, .int .i64 b2, .int .i64 c2, .int .i64 d2] 51)
  generalize World.alloc (World.alloc w _) _ = W at *
  have x0 : W.cell? ⟨w.heap.size, 0, none⟩ = some (.int .u32 s) := B0.out.cell1 0 rfl
  have y0 : W.cell? ⟨w.heap.size + 1, 0, none⟩ = some (.int .u32 s2) := B0.out.cell2 0 rfl
  have x1 : W.cell? ⟨w.heap.size, 1, none⟩ = some (.int .i64 m) := B0.out.cell1 1 rfl
  have y1 : W.cell? ⟨w.heap.size + 1, 1, none⟩ = some (.int .i64 m2) := B0.out.cell2 1 rfl
  have x2 : W.cell? ⟨w.heap.size, 2, none⟩ = some (.int .u32 l) := B0.out.cell1 2 rfl
  have y2 : W.cell? ⟨w.heap.size + 1, 2, none⟩ = some (.int .u32 l2) := B0.out.cell2 2 rfl
  have x3 : W.cell? ⟨w.heap.size, 3, none⟩ = some (.int .i64 a) := B0.out.cell1 3 rfl
  have y3 : W.cell? ⟨w.heap.size + 1, 3, none⟩ = some (.int .i64 a2) := B0.out.cell2 3 rfl
  have x4 : W.cell? ⟨w.heap.size, 4, none⟩ = some (.int .i64 b) := B0.out.cell1 4 rfl
  have y4 : W.cell? ⟨w.heap.size + 1, 4, none⟩ = some (.int .i64 b2) := B0.out.cell2 4 rfl
  have x5 : W.cell? ⟨w.heap.size, 5, none⟩ = some (.int .i64 c) := B0.out.cell1 5 rfl
  have y5 : W.cell? ⟨w.heap.size + 1, 5, none⟩ = some (.int .i64 c2) := B0.out.cell2 5 rfl
  have x6 : W.cell? ⟨w.heap.size, 6, none⟩ = some (.int .i64 d) := B0.out.cell1 6 rfl
  have y6 : W.cell? ⟨w.heap.size + 1, 6, none⟩ = some (.int .i64 d2) := B0.out.cell2 6 rfl
  cases g0
  · go_wp2_with fail
    go_returns
    exact ⟨rfl, B0.out.lo⟩
  cases g1
  · go_wp2_with fail
    go_returns
    exact ⟨rfl, B0.out.lo⟩
  cases g2
  · go_wp2_with fail
    go_returns
    exact ⟨rfl, B0.out.lo⟩
  go_wp2_with fail
  refine (K1.out _).mono ?_
  rintro e w1 ⟨rfl, hb⟩
  have B1 := Lib.hid (B0.out.below hb)
  clear hb B0 x0 y0 x1 y1 x2 y2 x3 y3 x4 y4 x5 y5 x6 y6
  have x0 : w1.cell? ⟨w.heap.size, 0, none⟩ = some (.int .u32 s) := B1.out.cell1 0 rfl
  have y0 : w1.cell? ⟨w.heap.size + 1, 0, none⟩ = some (.int .u32 s2) := B1.out.cell2 0 rfl
  have x1 : w1.cell? ⟨w.heap.size, 1, none⟩ = some (.int .i64 m) := B1.out.cell1 1 rfl
  have y1 : w1.cell? ⟨w.heap.size + 1, 1, none⟩ = some (.int .i64 m2) := B1.out.cell2 1 rfl
  have x2 : w1.cell? ⟨w.heap.size, 2, none⟩ = some (.int .u32 l) := B1.out.cell1 2 rfl
  have y2 : w1.cell? ⟨w.heap.size + 1, 2, none⟩ = some (.int .u32 l2) := B1.out.cell2 2 rfl
  have x3 : w1.cell? ⟨w.heap.size, 3, none⟩ = some (.int .i64 a) := B1.out.cell1 3 rfl
  have y3 : w1.cell? ⟨w.heap.size + 1, 3, none⟩ = some (.int .i64 a2) := B1.out.cell2 3 rfl
  have x4 : w1.cell? ⟨w.heap.size, 4, none⟩ = some (.int .i64 b) := B1.out.cell1 4 rfl
  have y4 : w1.cell? ⟨w.heap.size + 1, 4, none⟩ = some (.int .i64 b2) := B1.out.cell2 4 rfl
  have x5 : w1.cell? ⟨w.heap.size, 5, none⟩ = some (.int .i64 c) := B1.out.cell1 5 rfl
  have y5 : w1.cell? ⟨w.heap.size + 1, 5, none⟩ = some (.int .i64 c2) := B1.out.cell2 5 rfl
  have x6 : w1.cell? ⟨w.heap.size, 6, none⟩ = some (.int .i64 d) := B1.out.cell1 6 rfl
  have y6 : w1.cell? ⟨w.heap.size + 1, 6, none⟩ = some (.int .i64 d2) := B1.out.cell2 6 rfl
  cases g3
  · go_wp2_with fail
    go_returns
    exact ⟨rfl, B1.out.lo⟩
  go_wp2_with fail
  refine (K2.out _).mono ?_
  rintro e w2 ⟨rfl, hb⟩
  have B2 := Lib.hid (B1.out.below hb)
  clear hb B1 x0 y0 x1 y1 x2 y2 x3 y3 x4 y4 x5 y5 x6 y6
  go_wp2_with fail
  go_returns
  exact ⟨rfl, B2.out.lo⟩
end Go.Proofs.YtngomgkinaodjaaDoor
