/- What may be put out, at its bounds. Conditions: the seven errors lie apart. -/
import Derived.Test.YtiiomiekjlggfaaDoorErrF
import Derived.Test.YtiiomiekjlggfaaDoorBox2
namespace Go.Proofs.YtiiomiekjlggfaaDoor
open Go.RowKit
set_option linter.unusedVariables false
set_option maxRecDepth 20000
set_option maxHeartbeats 4000000 in
theorem chkZero {E : Nat → Addr} (w : World) (he : Ers E w) :
    Calls Tryd.prog 29 #[.agg #[.int .i64 (0), .int .i64 (0), .int .i64 (0), .int .i64 (0), .int .i64 (0)]] w fun e w' => e = .returned (.iface 102 (.pointer (some (E 0)))) ∧ Below w.heap.size w w' := by
  have HE := Lib.hid he
  clear he
  go_enter Tryd.func29, Tryd.ntmps29
  go_upto_region 1 with fail
  have B0 := Lib.hid (Bx.new w #[.int .i64 (0), .int .i64 (0), .int .i64 (0), .int .i64 (0), .int .i64 (0)] 49)
  generalize World.alloc w _ = W at *
  have x0 : W.cell? ⟨w.heap.size, 0, none⟩ = some (.int .i64 (0)) := B0.out.cell 0 rfl
  have x1 : W.cell? ⟨w.heap.size, 1, none⟩ = some (.int .i64 (0)) := B0.out.cell 1 rfl
  have x2 : W.cell? ⟨w.heap.size, 2, none⟩ = some (.int .i64 (0)) := B0.out.cell 2 rfl
  have x3 : W.cell? ⟨w.heap.size, 3, none⟩ = some (.int .i64 (0)) := B0.out.cell 3 rfl
  have x4 : W.cell? ⟨w.heap.size, 4, none⟩ = some (.int .i64 (0)) := B0.out.cell 4 rfl
  have q0 := (HE.out.below B0.out.lo).g0
  unfold errV at q0
  go_wp2_with fail
  go_returns
  exact ⟨rfl, B0.out.lo⟩
set_option maxHeartbeats 4000000 in
theorem chkOne {E : Nat → Addr} (w : World) (he : Ers E w) :
    Calls Tryd.prog 29 #[.agg #[.int .i64 (0), .int .i64 (0), .int .i64 (0), .int .i64 (1), .int .i64 (0)]] w fun e w' => e = .returned (.nilIface) ∧ Below w.heap.size w w' := by
  have HE := Lib.hid he
  clear he
  go_enter Tryd.func29, Tryd.ntmps29
  go_upto_region 1 with fail
  have B0 := Lib.hid (Bx.new w #[.int .i64 (0), .int .i64 (0), .int .i64 (0), .int .i64 (1), .int .i64 (0)] 49)
  generalize World.alloc w _ = W at *
  have x0 : W.cell? ⟨w.heap.size, 0, none⟩ = some (.int .i64 (0)) := B0.out.cell 0 rfl
  have x1 : W.cell? ⟨w.heap.size, 1, none⟩ = some (.int .i64 (0)) := B0.out.cell 1 rfl
  have x2 : W.cell? ⟨w.heap.size, 2, none⟩ = some (.int .i64 (0)) := B0.out.cell 2 rfl
  have x3 : W.cell? ⟨w.heap.size, 3, none⟩ = some (.int .i64 (1)) := B0.out.cell 3 rfl
  have x4 : W.cell? ⟨w.heap.size, 4, none⟩ = some (.int .i64 (0)) := B0.out.cell 4 rfl
  have q0 := (HE.out.below B0.out.lo).g0
  unfold errV at q0
  go_wp2_with fail
  go_returns
  exact ⟨rfl, B0.out.lo⟩
set_option maxHeartbeats 4000000 in
theorem chkB00 {E : Nat → Addr} (w : World) (he : Ers E w) :
    Calls Tryd.prog 29 #[.agg #[.int .i64 (-1), .int .i64 (9), .int .i64 (1), .int .i64 (2), .int .i64 (3)]] w fun e w' => e = .returned (.iface 102 (.pointer (some (E 0)))) ∧ Below w.heap.size w w' := by
  have HE := Lib.hid he
  clear he
  go_enter Tryd.func29, Tryd.ntmps29
  go_upto_region 1 with fail
  have B0 := Lib.hid (Bx.new w #[.int .i64 (-1), .int .i64 (9), .int .i64 (1), .int .i64 (2), .int .i64 (3)] 49)
  generalize World.alloc w _ = W at *
  have x0 : W.cell? ⟨w.heap.size, 0, none⟩ = some (.int .i64 (-1)) := B0.out.cell 0 rfl
  have x1 : W.cell? ⟨w.heap.size, 1, none⟩ = some (.int .i64 (9)) := B0.out.cell 1 rfl
  have x2 : W.cell? ⟨w.heap.size, 2, none⟩ = some (.int .i64 (1)) := B0.out.cell 2 rfl
  have x3 : W.cell? ⟨w.heap.size, 3, none⟩ = some (.int .i64 (2)) := B0.out.cell 3 rfl
  have x4 : W.cell? ⟨w.heap.size, 4, none⟩ = some (.int .i64 (3)) := B0.out.cell 4 rfl
  have q0 := (HE.out.below B0.out.lo).g0
  unfold errV at q0
  go_wp2_with fail
  go_returns
  exact ⟨rfl, B0.out.lo⟩
set_option maxHeartbeats 4000000 in
theorem chkB01 {E : Nat → Addr} (w : World) (he : Ers E w) :
    Calls Tryd.prog 29 #[.agg #[.int .i64 (128), .int .i64 (9), .int .i64 (1), .int .i64 (2), .int .i64 (3)]] w fun e w' => e = .returned (.iface 102 (.pointer (some (E 0)))) ∧ Below w.heap.size w w' := by
  have HE := Lib.hid he
  clear he
  go_enter Tryd.func29, Tryd.ntmps29
  go_upto_region 1 with fail
  have B0 := Lib.hid (Bx.new w #[.int .i64 (128), .int .i64 (9), .int .i64 (1), .int .i64 (2), .int .i64 (3)] 49)
  generalize World.alloc w _ = W at *
  have x0 : W.cell? ⟨w.heap.size, 0, none⟩ = some (.int .i64 (128)) := B0.out.cell 0 rfl
  have x1 : W.cell? ⟨w.heap.size, 1, none⟩ = some (.int .i64 (9)) := B0.out.cell 1 rfl
  have x2 : W.cell? ⟨w.heap.size, 2, none⟩ = some (.int .i64 (1)) := B0.out.cell 2 rfl
  have x3 : W.cell? ⟨w.heap.size, 3, none⟩ = some (.int .i64 (2)) := B0.out.cell 3 rfl
  have x4 : W.cell? ⟨w.heap.size, 4, none⟩ = some (.int .i64 (3)) := B0.out.cell 4 rfl
  have q0 := (HE.out.below B0.out.lo).g0
  unfold errV at q0
  go_wp2_with fail
  go_returns
  exact ⟨rfl, B0.out.lo⟩
set_option maxHeartbeats 4000000 in
theorem chkB10 {E : Nat → Addr} (w : World) (he : Ers E w) :
    Calls Tryd.prog 29 #[.agg #[.int .i64 (5), .int .i64 (-1), .int .i64 (1), .int .i64 (2), .int .i64 (3)]] w fun e w' => e = .returned (.iface 102 (.pointer (some (E 0)))) ∧ Below w.heap.size w w' := by
  have HE := Lib.hid he
  clear he
  go_enter Tryd.func29, Tryd.ntmps29
  go_upto_region 1 with fail
  have B0 := Lib.hid (Bx.new w #[.int .i64 (5), .int .i64 (-1), .int .i64 (1), .int .i64 (2), .int .i64 (3)] 49)
  generalize World.alloc w _ = W at *
  have x0 : W.cell? ⟨w.heap.size, 0, none⟩ = some (.int .i64 (5)) := B0.out.cell 0 rfl
  have x1 : W.cell? ⟨w.heap.size, 1, none⟩ = some (.int .i64 (-1)) := B0.out.cell 1 rfl
  have x2 : W.cell? ⟨w.heap.size, 2, none⟩ = some (.int .i64 (1)) := B0.out.cell 2 rfl
  have x3 : W.cell? ⟨w.heap.size, 3, none⟩ = some (.int .i64 (2)) := B0.out.cell 3 rfl
  have x4 : W.cell? ⟨w.heap.size, 4, none⟩ = some (.int .i64 (3)) := B0.out.cell 4 rfl
  have q0 := (HE.out.below B0.out.lo).g0
  unfold errV at q0
  go_wp2_with fail
  go_returns
  exact ⟨rfl, B0.out.lo⟩
set_option maxHeartbeats 4000000 in
theorem chkB11 {E : Nat → Addr} (w : World) (he : Ers E w) :
    Calls Tryd.prog 29 #[.agg #[.int .i64 (5), .int .i64 (65536), .int .i64 (1), .int .i64 (2), .int .i64 (3)]] w fun e w' => e = .returned (.iface 102 (.pointer (some (E 0)))) ∧ Below w.heap.size w w' := by
  have HE := Lib.hid he
  clear he
  go_enter Tryd.func29, Tryd.ntmps29
  go_upto_region 1 with fail
  have B0 := Lib.hid (Bx.new w #[.int .i64 (5), .int .i64 (65536), .int .i64 (1), .int .i64 (2), .int .i64 (3)] 49)
  generalize World.alloc w _ = W at *
  have x0 : W.cell? ⟨w.heap.size, 0, none⟩ = some (.int .i64 (5)) := B0.out.cell 0 rfl
  have x1 : W.cell? ⟨w.heap.size, 1, none⟩ = some (.int .i64 (65536)) := B0.out.cell 1 rfl
  have x2 : W.cell? ⟨w.heap.size, 2, none⟩ = some (.int .i64 (1)) := B0.out.cell 2 rfl
  have x3 : W.cell? ⟨w.heap.size, 3, none⟩ = some (.int .i64 (2)) := B0.out.cell 3 rfl
  have x4 : W.cell? ⟨w.heap.size, 4, none⟩ = some (.int .i64 (3)) := B0.out.cell 4 rfl
  have q0 := (HE.out.below B0.out.lo).g0
  unfold errV at q0
  go_wp2_with fail
  go_returns
  exact ⟨rfl, B0.out.lo⟩
set_option maxHeartbeats 4000000 in
theorem chkB20 {E : Nat → Addr} (w : World) (he : Ers E w) :
    Calls Tryd.prog 29 #[.agg #[.int .i64 (5), .int .i64 (9), .int .i64 (-1), .int .i64 (2), .int .i64 (3)]] w fun e w' => e = .returned (.iface 102 (.pointer (some (E 0)))) ∧ Below w.heap.size w w' := by
  have HE := Lib.hid he
  clear he
  go_enter Tryd.func29, Tryd.ntmps29
  go_upto_region 1 with fail
  have B0 := Lib.hid (Bx.new w #[.int .i64 (5), .int .i64 (9), .int .i64 (-1), .int .i64 (2), .int .i64 (3)] 49)
  generalize World.alloc w _ = W at *
  have x0 : W.cell? ⟨w.heap.size, 0, none⟩ = some (.int .i64 (5)) := B0.out.cell 0 rfl
  have x1 : W.cell? ⟨w.heap.size, 1, none⟩ = some (.int .i64 (9)) := B0.out.cell 1 rfl
  have x2 : W.cell? ⟨w.heap.size, 2, none⟩ = some (.int .i64 (-1)) := B0.out.cell 2 rfl
  have x3 : W.cell? ⟨w.heap.size, 3, none⟩ = some (.int .i64 (2)) := B0.out.cell 3 rfl
  have x4 : W.cell? ⟨w.heap.size, 4, none⟩ = some (.int .i64 (3)) := B0.out.cell 4 rfl
  have q0 := (HE.out.below B0.out.lo).g0
  unfold errV at q0
  go_wp2_with fail
  go_returns
  exact ⟨rfl, B0.out.lo⟩
set_option maxHeartbeats 4000000 in
theorem chkB21 {E : Nat → Addr} (w : World) (he : Ers E w) :
    Calls Tryd.prog 29 #[.agg #[.int .i64 (5), .int .i64 (9), .int .i64 (4), .int .i64 (2), .int .i64 (3)]] w fun e w' => e = .returned (.iface 102 (.pointer (some (E 0)))) ∧ Below w.heap.size w w' := by
  have HE := Lib.hid he
  clear he
  go_enter Tryd.func29, Tryd.ntmps29
  go_upto_region 1 with fail
  have B0 := Lib.hid (Bx.new w #[.int .i64 (5), .int .i64 (9), .int .i64 (4), .int .i64 (2), .int .i64 (3)] 49)
  generalize World.alloc w _ = W at *
  have x0 : W.cell? ⟨w.heap.size, 0, none⟩ = some (.int .i64 (5)) := B0.out.cell 0 rfl
  have x1 : W.cell? ⟨w.heap.size, 1, none⟩ = some (.int .i64 (9)) := B0.out.cell 1 rfl
  have x2 : W.cell? ⟨w.heap.size, 2, none⟩ = some (.int .i64 (4)) := B0.out.cell 2 rfl
  have x3 : W.cell? ⟨w.heap.size, 3, none⟩ = some (.int .i64 (2)) := B0.out.cell 3 rfl
  have x4 : W.cell? ⟨w.heap.size, 4, none⟩ = some (.int .i64 (3)) := B0.out.cell 4 rfl
  have q0 := (HE.out.below B0.out.lo).g0
  unfold errV at q0
  go_wp2_with fail
  go_returns
  exact ⟨rfl, B0.out.lo⟩
set_option maxHeartbeats 4000000 in
theorem chkB30 {E : Nat → Addr} (w : World) (he : Ers E w) :
    Calls Tryd.prog 29 #[.agg #[.int .i64 (5), .int .i64 (9), .int .i64 (1), .int .i64 (0), .int .i64 (3)]] w fun e w' => e = .returned (.iface 102 (.pointer (some (E 0)))) ∧ Below w.heap.size w w' := by
  have HE := Lib.hid he
  clear he
  go_enter Tryd.func29, Tryd.ntmps29
  go_upto_region 1 with fail
  have B0 := Lib.hid (Bx.new w #[.int .i64 (5), .int .i64 (9), .int .i64 (1), .int .i64 (0), .int .i64 (3)] 49)
  generalize World.alloc w _ = W at *
  have x0 : W.cell? ⟨w.heap.size, 0, none⟩ = some (.int .i64 (5)) := B0.out.cell 0 rfl
  have x1 : W.cell? ⟨w.heap.size, 1, none⟩ = some (.int .i64 (9)) := B0.out.cell 1 rfl
  have x2 : W.cell? ⟨w.heap.size, 2, none⟩ = some (.int .i64 (1)) := B0.out.cell 2 rfl
  have x3 : W.cell? ⟨w.heap.size, 3, none⟩ = some (.int .i64 (0)) := B0.out.cell 3 rfl
  have x4 : W.cell? ⟨w.heap.size, 4, none⟩ = some (.int .i64 (3)) := B0.out.cell 4 rfl
  have q0 := (HE.out.below B0.out.lo).g0
  unfold errV at q0
  go_wp2_with fail
  go_returns
  exact ⟨rfl, B0.out.lo⟩
set_option maxHeartbeats 4000000 in
theorem chkB31 {E : Nat → Addr} (w : World) (he : Ers E w) :
    Calls Tryd.prog 29 #[.agg #[.int .i64 (5), .int .i64 (9), .int .i64 (1), .int .i64 (6), .int .i64 (3)]] w fun e w' => e = .returned (.iface 102 (.pointer (some (E 0)))) ∧ Below w.heap.size w w' := by
  have HE := Lib.hid he
  clear he
  go_enter Tryd.func29, Tryd.ntmps29
  go_upto_region 1 with fail
  have B0 := Lib.hid (Bx.new w #[.int .i64 (5), .int .i64 (9), .int .i64 (1), .int .i64 (6), .int .i64 (3)] 49)
  generalize World.alloc w _ = W at *
  have x0 : W.cell? ⟨w.heap.size, 0, none⟩ = some (.int .i64 (5)) := B0.out.cell 0 rfl
  have x1 : W.cell? ⟨w.heap.size, 1, none⟩ = some (.int .i64 (9)) := B0.out.cell 1 rfl
  have x2 : W.cell? ⟨w.heap.size, 2, none⟩ = some (.int .i64 (1)) := B0.out.cell 2 rfl
  have x3 : W.cell? ⟨w.heap.size, 3, none⟩ = some (.int .i64 (6)) := B0.out.cell 3 rfl
  have x4 : W.cell? ⟨w.heap.size, 4, none⟩ = some (.int .i64 (3)) := B0.out.cell 4 rfl
  have q0 := (HE.out.below B0.out.lo).g0
  unfold errV at q0
  go_wp2_with fail
  go_returns
  exact ⟨rfl, B0.out.lo⟩
set_option maxHeartbeats 4000000 in
theorem chkB40 {E : Nat → Addr} (w : World) (he : Ers E w) :
    Calls Tryd.prog 29 #[.agg #[.int .i64 (5), .int .i64 (9), .int .i64 (1), .int .i64 (2), .int .i64 (-1)]] w fun e w' => e = .returned (.iface 102 (.pointer (some (E 0)))) ∧ Below w.heap.size w w' := by
  have HE := Lib.hid he
  clear he
  go_enter Tryd.func29, Tryd.ntmps29
  go_upto_region 1 with fail
  have B0 := Lib.hid (Bx.new w #[.int .i64 (5), .int .i64 (9), .int .i64 (1), .int .i64 (2), .int .i64 (-1)] 49)
  generalize World.alloc w _ = W at *
  have x0 : W.cell? ⟨w.heap.size, 0, none⟩ = some (.int .i64 (5)) := B0.out.cell 0 rfl
  have x1 : W.cell? ⟨w.heap.size, 1, none⟩ = some (.int .i64 (9)) := B0.out.cell 1 rfl
  have x2 : W.cell? ⟨w.heap.size, 2, none⟩ = some (.int .i64 (1)) := B0.out.cell 2 rfl
  have x3 : W.cell? ⟨w.heap.size, 3, none⟩ = some (.int .i64 (2)) := B0.out.cell 3 rfl
  have x4 : W.cell? ⟨w.heap.size, 4, none⟩ = some (.int .i64 (-1)) := B0.out.cell 4 rfl
  have q0 := (HE.out.below B0.out.lo).g0
  unfold errV at q0
  go_wp2_with fail
  go_returns
  exact ⟨rfl, B0.out.lo⟩
set_option maxHeartbeats 4000000 in
theorem chkB41 {E : Nat → Addr} (w : World) (he : Ers E w) :
    Calls Tryd.prog 29 #[.agg #[.int .i64 (5), .int .i64 (9), .int .i64 (1), .int .i64 (2), .int .i64 (512)]] w fun e w' => e = .returned (.iface 102 (.pointer (some (E 0)))) ∧ Below w.heap.size w w' := by
  have HE := Lib.hid he
  clear he
  go_enter Tryd.func29, Tryd.ntmps29
  go_upto_region 1 with fail
  have B0 := Lib.hid (Bx.new w #[.int .i64 (5), .int .i64 (9), .int .i64 (1), .int .i64 (2), .int .i64 (512)] 49)
  generalize World.alloc w _ = W at *
  have x0 : W.cell? ⟨w.heap.size, 0, none⟩ = some (.int .i64 (5)) := B0.out.cell 0 rfl
  have x1 : W.cell? ⟨w.heap.size, 1, none⟩ = some (.int .i64 (9)) := B0.out.cell 1 rfl
  have x2 : W.cell? ⟨w.heap.size, 2, none⟩ = some (.int .i64 (1)) := B0.out.cell 2 rfl
  have x3 : W.cell? ⟨w.heap.size, 3, none⟩ = some (.int .i64 (2)) := B0.out.cell 3 rfl
  have x4 : W.cell? ⟨w.heap.size, 4, none⟩ = some (.int .i64 (512)) := B0.out.cell 4 rfl
  have q0 := (HE.out.below B0.out.lo).g0
  unfold errV at q0
  go_wp2_with fail
  go_returns
  exact ⟨rfl, B0.out.lo⟩
set_option maxHeartbeats 4000000 in
theorem actFirst {E : Nat → Addr} (w : World) (he : Ers E w) : Calls Tryd.prog 23 #[] w fun e w' => e = .returned (.bool true) ∧ Below w.heap.size w w' := by
  have HE := Lib.hid he
  clear he
  go_enter Tryd.func23, Tryd.ntmps23
  go_wp2_with fail
  refine (chkZero _ HE.out).mono ?_
  rintro e w1 ⟨rfl, hb⟩
  have B1 := Lib.hid hb
  clear hb
  go_wp2_with fail
  refine (chkOne _ (HE.out.below B1.out)).mono ?_
  rintro e w2 ⟨rfl, hb⟩
  have B2 := Lib.hid (B1.out.trans (hb.mono B1.out.size))
  clear hb
  go_wp2_with fail
  go_returns
  exact ⟨rfl, B2.out⟩
set_option maxHeartbeats 4000000 in
theorem putBad {E : Nat → Addr} (c f g m n s : Int) (hc : ∀ w, Ers E w → Calls Tryd.prog 29 #[.agg #[.int .i64 c, .int .i64 f, .int .i64 g, .int .i64 m, .int .i64 n]] w fun e w' => e = .returned (.iface 102 (.pointer (some (E 0)))) ∧ Below w.heap.size w w') (w : World) (he : Ers E w) :
    Calls Tryd.prog 24 #[.agg #[.int .i64 c, .int .i64 f, .int .i64 g, .int .i64 m, .int .i64 n], .int .u8 s] w fun e w' => e = .returned (.tuple #[.agg #[.int .u8 0, .int .u8 0, .slice none 0 0], .iface 102 (.pointer (some (E 0)))]) ∧ Below w.heap.size w w' := by
  have HE := Lib.hid he
  have HC := Lib.hid hc
  clear he hc
  go_enter Tryd.func24, Tryd.ntmps24
  go_upto_region 1 with fail
  have B0 := Lib.hid (Bx2.new w #[.int .i64 c, .int .i64 f, .int .i64 g, .int .i64 m, .int .i64 n] 49 #[.int .u8 0, .int .u8 0, .slice none 0 0] 24)
  generalize World.alloc (World.alloc w _) _ = W at *
  have y0 : W.cell? ⟨w.heap.size, 0, none⟩ = some (.int .i64 c) := B0.out.cell1 0 rfl
  have y1 : W.cell? ⟨w.heap.size, 1, none⟩ = some (.int .i64 f) := B0.out.cell1 1 rfl
  have y2 : W.cell? ⟨w.heap.size, 2, none⟩ = some (.int .i64 g) := B0.out.cell1 2 rfl
  have y3 : W.cell? ⟨w.heap.size, 3, none⟩ = some (.int .i64 m) := B0.out.cell1 3 rfl
  have y4 : W.cell? ⟨w.heap.size, 4, none⟩ = some (.int .i64 n) := B0.out.cell1 4 rfl
  go_wp2_with fail
  refine (HC.out _ (HE.out.below B0.out.lo)).mono ?_
  rintro e w1 ⟨rfl, hb⟩
  have B1 := Lib.hid (B0.out.below hb)
  clear hb B0 y0 y1 y2 y3 y4
  have x0 : w1.cell? ⟨w.heap.size + 1, 0, none⟩ = some (.int .u8 0) := B1.out.cell2 0 rfl
  have x1 : w1.cell? ⟨w.heap.size + 1, 1, none⟩ = some (.int .u8 0) := B1.out.cell2 1 rfl
  have x2 : w1.cell? ⟨w.heap.size + 1, 2, none⟩ = some (.slice none 0 0) := B1.out.cell2 2 rfl
  have xf := B1.out.froz2
  go_wp2_with fail
  have B6 := Lib.hid (((B1.out.set2 0 (.int .u8 0)).set2 1 (.int .u8 0)).set2 2 (.slice none 0 0))
  clear x0 x1 x2 xf
  generalize World.setCell _ _ _ = W3 at *
  have q0 : W3.cell? ⟨w.heap.size + 1, 0, none⟩ = some (.int .u8 0) := B6.out.cell2 0 rfl
  have q1 : W3.cell? ⟨w.heap.size + 1, 1, none⟩ = some (.int .u8 0) := B6.out.cell2 1 rfl
  have q2 : W3.cell? ⟨w.heap.size + 1, 2, none⟩ = some (.slice none 0 0) := B6.out.cell2 2 rfl
  refine bodyPost_ret (v := .tuple #[.agg #[.int .u8 0, .int .u8 0, .slice none 0 0], .iface 102 (.pointer (some (E 0)))]) (by simp [results, Tryd.results24, go_sem, q0, q1, q2]) rfl ⟨rfl, B6.out.lo⟩
end Go.Proofs.YtiiomiekjlggfaaDoor
