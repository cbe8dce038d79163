/- A frame as a command, of any frame; the document's, too. Conditions: the seven errors lie apart. -/
import Derived.Test.YtiiomiekjlggfaaDoorPilS
namespace Go.Proofs.YtiiomiekjlggfaaDoor
open Go Go.RowKit
set_option linter.unusedVariables false
set_option maxRecDepth 20000
set_option maxHeartbeats 4000000 in
theorem readNoX {E : Nat → Addr} (sq b0 b1 : Int) (x : Addr) (cap : Nat) (hb0 : 0 ≤ b0 ∧ b0 < 256) (hb1 : 0 ≤ b1 ∧ b1 < 256) (hk : kn b0 b1 = false) (w : World) (he : Ers E w) (c0 : w.cell? x = some (.int .u8 b0)) (c1 : w.cell? ⟨x.block, x.off + 1, none⟩ = some (.int .u8 b1)) :
    Calls Tryd.prog 16 #[.agg #[.int .u8 80, .int .u8 sq, .slice (some x) 2 cap]] w fun e w' => e = .returned (.tuple #[.int .i64 0, .int .i64 0, .iface 102 (.pointer (some (E 0)))]) ∧ Below w.heap.size w w' := by
  have HE := Lib.hid he
  clear he
  have K := Lib.hid fun (w : World) => knownC b0 b1 w
  rw [hk] at K
  clear hk
  go_enter Tryd.func16, Tryd.ntmps16
  go_upto_region 1 with fail
  have B0 := Lib.hid (Bx.new w #[.int .u8 80, .int .u8 sq, .slice (some x) 2 cap] 24)
  generalize World.alloc w _ = W at *
  have x0 : W.cell? ⟨w.heap.size, 0, none⟩ = some (.int .u8 80) := B0.out.cell 0 rfl
  have x2 : W.cell? ⟨w.heap.size, 2, none⟩ = some (.slice (some x) 2 cap) := B0.out.cell 2 rfl
  have d0 := below_cell B0.out.lo c0
  have d1 := below_cell B0.out.lo c1
  have q0 := (HE.out.below B0.out.lo).g0
  unfold errV at q0
  clear c0 c1
  have s0 := fun d => below_cell (reach_below W.heap.size W d) x2
  have s1 := fun d => below_cell (reach_below W.heap.size W d) d0
  have s2 := fun d => below_cell (reach_below W.heap.size W d) d1
  have v0 : IntKind.i64.wrap b0 = b0 := IntWalk.i64_in _ (by omega)
  have v1 : IntKind.i64.wrap b1 = b1 := IntWalk.i64_in _ (by omega)
  go_upto_region 7 with fail
  refine wp_region_reach W.heap.size (by kernel_rfl) (by kernel_rfl) ?_
  repeat (go_big_quiet_step (fail))
  refine wpQuiet_nil ?_
  rintro w' ⟨d, rfl⟩
  have B1 := Lib.hid (B0.out.reach d)
  have q1 := (HE.out.below B1.out.lo).g0
  unfold errV at q1
  clear s0 s1 s2 x0 x2 d0 d1 q0 B0
  generalize reach W.heap.size W d = W2 at *
  go_wp2_with fail
  refine (K.out _).mono ?_
  rintro e w5 ⟨rfl, rfl⟩
  go_wp2_with fail
  have G0 := fun d => below_cell (reach_below W2.heap.size W2 d) q1
  refine wp_region_reach W2.heap.size (by kernel_rfl) (by kernel_rfl) ?_
  repeat (go_big_quiet_step (fail))
  refine wpQuiet_nil ?_
  rintro w' ⟨d9, rfl⟩
  go_wp2_with fail
  go_returns
  exact ⟨rfl, (B1.out.reach d9).lo⟩
set_option maxHeartbeats 4000000 in
theorem readGoodX (sq b0 b1 : Int) (x : Addr) (cap : Nat) (hb0 : 0 ≤ b0 ∧ b0 < 256) (hb1 : 0 ≤ b1 ∧ b1 < 256) (hk : kn b0 b1 = true) (w : World) (c0 : w.cell? x = some (.int .u8 b0)) (c1 : w.cell? ⟨x.block, x.off + 1, none⟩ = some (.int .u8 b1)) :
    Calls Tryd.prog 16 #[.agg #[.int .u8 80, .int .u8 sq, .slice (some x) 2 cap]] w fun e w' => e = .returned (.tuple #[.int .i64 b0, .int .i64 b1, .nilIface]) ∧ Below w.heap.size w w' := by
  have K := Lib.hid fun (w : World) => knownC b0 b1 w
  rw [hk] at K
  clear hk
  go_enter Tryd.func16, Tryd.ntmps16
  go_upto_region 1 with fail
  have B0 := Lib.hid (Bx.new w #[.int .u8 80, .int .u8 sq, .slice (some x) 2 cap] 24)
  generalize World.alloc w _ = W at *
  have x0 : W.cell? ⟨w.heap.size, 0, none⟩ = some (.int .u8 80) := B0.out.cell 0 rfl
  have x2 : W.cell? ⟨w.heap.size, 2, none⟩ = some (.slice (some x) 2 cap) := B0.out.cell 2 rfl
  have d0 := below_cell B0.out.lo c0
  have d1 := below_cell B0.out.lo c1
  clear c0 c1
  have s0 := fun d => below_cell (reach_below W.heap.size W d) x2
  have s1 := fun d => below_cell (reach_below W.heap.size W d) d0
  have s2 := fun d => below_cell (reach_below W.heap.size W d) d1
  have v0 : IntKind.i64.wrap b0 = b0 := IntWalk.i64_in _ (by omega)
  have v1 : IntKind.i64.wrap b1 = b1 := IntWalk.i64_in _ (by omega)
  go_upto_region 7 with fail
  refine wp_region_reach W.heap.size (by kernel_rfl) (by kernel_rfl) ?_
  repeat (go_big_quiet_step (fail))
  refine wpQuiet_nil ?_
  rintro w' ⟨d, rfl⟩
  have B1 := Lib.hid (B0.out.reach d)
  clear s0 s1 s2 x0 x2 d0 d1 B0
  generalize reach W.heap.size W d = W2 at *
  go_wp2_with fail
  refine (K.out _).mono ?_
  rintro e w5 ⟨rfl, rfl⟩
  go_wp2_with fail
  go_returns
  exact ⟨rfl, B1.out.lo⟩
set_option maxHeartbeats 4000000 in
theorem rpId (id sq : Int) (a : Option Addr) (n cap : Nat) (hid : id ≠ 80) (w : World) :
    Calls Tryd.prog 17 #[.agg #[.int .u8 id, .int .u8 sq, .slice a n cap]] w fun e w' => e = .returned (.tuple #[.int .i64 0, .int .i64 0, .int .i64 101]) ∧ Below w.heap.size w w' := by
  have g0 : (id != 80) = true := by simp [hid]
  go_enter Tryd.func17, Tryd.ntmps17
  go_upto_region 1 with fail
  have B0 := Lib.hid (Bx.new w #[.int .u8 id, .int .u8 sq, .slice a n cap] 24)
  generalize World.alloc w _ = W at *
  have x0 : W.cell? ⟨w.heap.size, 0, none⟩ = some (.int .u8 id) := B0.out.cell 0 rfl
  go_wp2_with fail
  go_returns
  exact ⟨rfl, B0.out.lo⟩
set_option maxHeartbeats 4000000 in
theorem rpLong (sq : Int) (a : Option Addr) (n cap : Nat) (c : Int) (hc : (if n < 2 then (103 : Int) else if 2 < n then 102 else 0) = c) (h0 : c ≠ 0) (w : World) :
    Calls Tryd.prog 17 #[.agg #[.int .u8 80, .int .u8 sq, .slice a n cap]] w fun e w' => e = .returned (.tuple #[.int .i64 0, .int .i64 0, .int .i64 c]) ∧ Below w.heap.size w w' := by
  have KL := Lib.hid fun (w : World) => longC 80 sq a n cap 2 w
  rw [hc] at KL
  have g0 : (c != 0) = true := by simp [h0]
  clear hc h0
  go_enter Tryd.func17, Tryd.ntmps17
  go_upto_region 1 with fail
  have B0 := Lib.hid (Bx.new w #[.int .u8 80, .int .u8 sq, .slice a n cap] 24)
  generalize World.alloc w _ = W at *
  have x0 : W.cell? ⟨w.heap.size, 0, none⟩ = some (.int .u8 80) := B0.out.cell 0 rfl
  have x1 : W.cell? ⟨w.heap.size, 1, none⟩ = some (.int .u8 sq) := B0.out.cell 1 rfl
  have x2 : W.cell? ⟨w.heap.size, 2, none⟩ = some (.slice a n cap) := B0.out.cell 2 rfl
  go_wp2_with fail
  refine (KL.out _).mono ?_
  rintro e w1 ⟨rfl, hb⟩
  have B1 := Lib.hid (B0.out.below hb)
  clear hb B0 x0 x1 x2
  go_wp2_with fail
  go_returns
  exact ⟨rfl, B1.out.lo⟩
set_option maxHeartbeats 4000000 in
theorem rpNo (sq b0 b1 : Int) (x : Addr) (cap : Nat) (hb0 : 0 ≤ b0 ∧ b0 < 256) (hb1 : 0 ≤ b1 ∧ b1 < 256) (hk : kn b0 b1 = false) (w : World) (c0 : w.cell? x = some (.int .u8 b0)) (c1 : w.cell? ⟨x.block, x.off + 1, none⟩ = some (.int .u8 b1)) :
    Calls Tryd.prog 17 #[.agg #[.int .u8 80, .int .u8 sq, .slice (some x) 2 cap]] w fun e w' => e = .returned (.tuple #[.int .i64 0, .int .i64 0, .int .i64 101]) ∧ Below w.heap.size w w' := by
  have K := Lib.hid fun (w : World) => knownR b0 b1 w
  rw [hk] at K
  clear hk
  have KL := Lib.hid fun (w : World) => longC 80 sq (some x) 2 cap 2 w
  rw [if_neg (by omega), if_neg (by omega)] at KL
  have v0 : IntKind.i64.wrap b0 = b0 := IntWalk.i64_in _ (by omega)
  have v1 : IntKind.i64.wrap b1 = b1 := IntWalk.i64_in _ (by omega)
  go_enter Tryd.func17, Tryd.ntmps17
  go_upto_region 1 with fail
  have B0 := Lib.hid (Bx.new w #[.int .u8 80, .int .u8 sq, .slice (some x) 2 cap] 24)
  generalize World.alloc w _ = Wa at *
  have x0 : Wa.cell? ⟨w.heap.size, 0, none⟩ = some (.int .u8 80) := B0.out.cell 0 rfl
  have x1 : Wa.cell? ⟨w.heap.size, 1, none⟩ = some (.int .u8 sq) := B0.out.cell 1 rfl
  have x2 : Wa.cell? ⟨w.heap.size, 2, none⟩ = some (.slice (some x) 2 cap) := B0.out.cell 2 rfl
  go_wp2_with fail
  refine (KL.out _).mono ?_
  rintro e W ⟨rfl, hb⟩
  have B1 := Lib.hid (B0.out.below hb)
  have d0 := below_cell hb (below_cell B0.out.lo c0)
  have d1 := below_cell hb (below_cell B0.out.lo c1)
  clear hb B0 x0 x1 x2 c0 c1
  have x2 : W.cell? ⟨w.heap.size, 2, none⟩ = some (.slice (some x) 2 cap) := B1.out.cell 2 rfl
  have s0 := fun d => below_cell (reach_below W.heap.size W d) x2
  have s1 := fun d => below_cell (reach_below W.heap.size W d) d0
  have s2 := fun d => below_cell (reach_below W.heap.size W d) d1
  go_upto_region 6 with fail
  refine wp_region_reach W.heap.size (by kernel_rfl) (by kernel_rfl) ?_
  repeat (go_big_quiet_step ((go_at_call 41; with_reducible exact reach_call0 (K.out _))))
  refine wpQuiet_nil ?_
  rintro w' ⟨d, rfl⟩
  go_wp2_with fail
  go_returns
  exact ⟨rfl, (B1.out.reach d).lo⟩
set_option maxHeartbeats 4000000 in
theorem rpGood (sq b0 b1 : Int) (x : Addr) (cap : Nat) (hb0 : 0 ≤ b0 ∧ b0 < 256) (hb1 : 0 ≤ b1 ∧ b1 < 256) (hk : kn b0 b1 = true) (w : World) (c0 : w.cell? x = some (.int .u8 b0)) (c1 : w.cell? ⟨x.block, x.off + 1, none⟩ = some (.int .u8 b1)) :
    Calls Tryd.prog 17 #[.agg #[.int .u8 80, .int .u8 sq, .slice (some x) 2 cap]] w fun e w' => e = .returned (.tuple #[.int .i64 b0, .int .i64 b1, .int .i64 0]) ∧ Below w.heap.size w w' := by
  have K := Lib.hid fun (w : World) => knownR b0 b1 w
  rw [hk] at K
  clear hk
  have KL := Lib.hid fun (w : World) => longC 80 sq (some x) 2 cap 2 w
  rw [if_neg (by omega), if_neg (by omega)] at KL
  have v0 : IntKind.i64.wrap b0 = b0 := IntWalk.i64_in _ (by omega)
  have v1 : IntKind.i64.wrap b1 = b1 := IntWalk.i64_in _ (by omega)
  go_enter Tryd.func17, Tryd.ntmps17
  go_upto_region 1 with fail
  have B0 := Lib.hid (Bx.new w #[.int .u8 80, .int .u8 sq, .slice (some x) 2 cap] 24)
  generalize World.alloc w _ = Wa at *
  have x0 : Wa.cell? ⟨w.heap.size, 0, none⟩ = some (.int .u8 80) := B0.out.cell 0 rfl
  have x1 : Wa.cell? ⟨w.heap.size, 1, none⟩ = some (.int .u8 sq) := B0.out.cell 1 rfl
  have x2 : Wa.cell? ⟨w.heap.size, 2, none⟩ = some (.slice (some x) 2 cap) := B0.out.cell 2 rfl
  go_wp2_with fail
  refine (KL.out _).mono ?_
  rintro e W ⟨rfl, hb⟩
  have B1 := Lib.hid (B0.out.below hb)
  have d0 := below_cell hb (below_cell B0.out.lo c0)
  have d1 := below_cell hb (below_cell B0.out.lo c1)
  clear hb B0 x0 x1 x2 c0 c1
  have x2 : W.cell? ⟨w.heap.size, 2, none⟩ = some (.slice (some x) 2 cap) := B1.out.cell 2 rfl
  have s0 := fun d => below_cell (reach_below W.heap.size W d) x2
  have s1 := fun d => below_cell (reach_below W.heap.size W d) d0
  have s2 := fun d => below_cell (reach_below W.heap.size W d) d1
  go_upto_region 6 with fail
  refine wp_region_reach W.heap.size (by kernel_rfl) (by kernel_rfl) ?_
  repeat (go_big_quiet_step ((go_at_call 41; with_reducible exact reach_call0 (K.out _))))
  refine wpQuiet_nil ?_
  rintro w' ⟨d, rfl⟩
  have B2 := Lib.hid (B1.out.reach d)
  have y2 := s0 d
  have e0 := s1 d
  have e1 := s2 d
  clear s0 s1 s2 x2 d0 d1 B1
  generalize reach W.heap.size W d = W2 at *
  have s0 := fun d => below_cell (reach_below W2.heap.size W2 d) y2
  have s1 := fun d => below_cell (reach_below W2.heap.size W2 d) e0
  have s2 := fun d => below_cell (reach_below W2.heap.size W2 d) e1
  go_upto_region 8 with fail
  refine wp_region_reach W2.heap.size (by kernel_rfl) (by kernel_rfl) ?_
  repeat (go_big_quiet_step (fail))
  refine wpQuiet_nil ?_
  rintro w' ⟨d9, rfl⟩
  go_wp2_with fail
  go_returns
  exact ⟨rfl, (B2.out.reach d9).lo⟩
/-- A frame's answer: its code; the command. -/
def prC (id : Int) (n : Nat) (f : Nat → Int) : Int := if id = 80 then (if n < 2 then 103 else if 2 < n then 102 else if kn (f 0) (f 1) = true then 0 else 101) else 101
def prX (id : Int) (n : Nat) (f : Nat → Int) : Int := if prC id n f = 0 then f 0 else 0
def prY (id : Int) (n : Nat) (f : Nat → Int) : Int := if prC id n f = 0 then f 1 else 0
theorem prC_in (id : Int) (n : Nat) (f : Nat → Int) : prC id n f = 0 ∨ (101 ≤ prC id n f ∧ prC id n f ≤ 107) := by
  unfold prC
  (repeat' split) <;> omega
theorem pilRdAll {E : Nat → Addr} (id sq : Int) (a : Option Addr) (n cap : Nat) (f : Nat → Int) (w : World) (he : Ers E w) (hb : Byt w a n f) (hz : ∀ i, i < n → 0 ≤ f i ∧ f i < 256) :
    Calls Tryd.prog 16 #[.agg #[.int .u8 id, .int .u8 sq, .slice a n cap]] w fun r w' => r = .returned (.tuple #[.int .i64 (prX id n f), .int .i64 (prY id n f), errOf E (prC id n f)]) ∧ Below w.heap.size w w' := by
  unfold prX prY
  by_cases h0 : id = 80
  · by_cases h1 : n < 2
    · have e : prC id n f = 103 := by unfold prC; rw [if_pos h0, if_pos h1]
      rw [e, if_neg (by omega), if_neg (by omega)]
      subst h0
      exact readShort sq a n cap h1 w he
    · by_cases h2 : 2 < n
      · have e : prC id n f = 102 := by unfold prC; rw [if_pos h0, if_neg h1, if_pos h2]
        rw [e, if_neg (by omega), if_neg (by omega)]
        subst h0
        exact readLong sq a n cap h2 w he
      · obtain rfl : n = 2 := by omega
        obtain ⟨x, rfl, c0⟩ := hb 0 (by omega)
        have c1 : w.cell? (x.add 1) = some (.int .u8 (f 1)) := by obtain ⟨y, hy, c⟩ := hb 1 (by omega); cases hy; exact c
        rw [add_k] at c1
        subst h0
        cases hg : kn (f 0) (f 1)
        · have e : prC 80 2 f = 101 := by unfold prC; rw [if_pos rfl, if_neg h1, if_neg h2, if_neg (by rw [hg]; simp)]
          rw [e, if_neg (by omega), if_neg (by omega)]
          exact readNoX sq (f 0) (f 1) x cap (hz 0 (by omega)) (hz 1 (by omega)) hg w he c0 c1
        · have e : prC 80 2 f = 0 := by unfold prC; rw [if_pos rfl, if_neg h1, if_neg h2, if_pos hg]
          rw [e, if_pos rfl, if_pos rfl]
          exact readGoodX sq (f 0) (f 1) x cap (hz 0 (by omega)) (hz 1 (by omega)) hg w c0 c1
  · have e : prC id n f = 101 := by unfold prC; rw [if_neg h0]
    rw [e, if_neg (by omega), if_neg (by omega)]
    exact readId id sq a n cap h0 w he
theorem pilRdR (id sq : Int) (a : Option Addr) (n cap : Nat) (f : Nat → Int) (w : World) (hb : Byt w a n f) (hz : ∀ i, i < n → 0 ≤ f i ∧ f i < 256) :
    Calls Tryd.prog 17 #[.agg #[.int .u8 id, .int .u8 sq, .slice a n cap]] w fun r w' => r = .returned (.tuple #[.int .i64 (prX id n f), .int .i64 (prY id n f), .int .i64 (prC id n f)]) ∧ Below w.heap.size w w' := by
  unfold prX prY
  by_cases h0 : id = 80
  · by_cases h1 : n < 2
    · have e : prC id n f = 103 := by unfold prC; rw [if_pos h0, if_pos h1]
      rw [e, if_neg (by omega), if_neg (by omega)]
      subst h0
      exact rpLong sq a n cap 103 (by rw [if_pos h1]) (by omega) w
    · by_cases h2 : 2 < n
      · have e : prC id n f = 102 := by unfold prC; rw [if_pos h0, if_neg h1, if_pos h2]
        rw [e, if_neg (by omega), if_neg (by omega)]
        subst h0
        exact rpLong sq a n cap 102 (by rw [if_neg h1, if_pos h2]) (by omega) w
      · obtain rfl : n = 2 := by omega
        obtain ⟨x, rfl, c0⟩ := hb 0 (by omega)
        have c1 : w.cell? (x.add 1) = some (.int .u8 (f 1)) := by obtain ⟨y, hy, c⟩ := hb 1 (by omega); cases hy; exact c
        rw [add_k] at c1
        subst h0
        cases hg : kn (f 0) (f 1)
        · have e : prC 80 2 f = 101 := by unfold prC; rw [if_pos rfl, if_neg h1, if_neg h2, if_neg (by rw [hg]; simp)]
          rw [e, if_neg (by omega), if_neg (by omega)]
          exact rpNo sq (f 0) (f 1) x cap (hz 0 (by omega)) (hz 1 (by omega)) hg w c0 c1
        · have e : prC 80 2 f = 0 := by unfold prC; rw [if_pos rfl, if_neg h1, if_neg h2, if_pos hg]
          rw [e, if_pos rfl, if_pos rfl]
          exact rpGood sq (f 0) (f 1) x cap (hz 0 (by omega)) (hz 1 (by omega)) hg w c0 c1
  · have e : prC id n f = 101 := by unfold prC; rw [if_neg h0]
    rw [e, if_neg (by omega), if_neg (by omega)]
    exact rpId id sq a n cap h0 w
end Go.Proofs.YtiiomiekjlggfaaDoor
