/- A frame as a sample, by the document; both as one answer. Conditions: the seven errors lie apart. -/
import Derived.Test.YtiiomiekjlggfaaDoorSenE
namespace Go.Proofs.YtiiomiekjlggfaaDoor
open Go Go.RowKit
set_option linter.unusedVariables false
set_option maxRecDepth 20000
def srC (id : Int) (n : Nat) (f : Nat → Int) : Int := if (rangeI id).2.2 = true then (if n < 4 then 103 else if 4 < n then 102 else if withinB id (sgn4 (val4 (f 0) (f 1) (f 2) (f 3))) = true then 0 else 101) else 101
def srX (id : Int) (n : Nat) (f : Nat → Int) : Int := if srC id n f = 0 then id else 0
def srY (id : Int) (n : Nat) (f : Nat → Int) : Int := if srC id n f = 0 then sgn4 (val4 (f 0) (f 1) (f 2) (f 3)) else 0
theorem srC_in (id : Int) (n : Nat) (f : Nat → Int) : srC id n f = 0 ∨ (101 ≤ srC id n f ∧ srC id n f ≤ 107) := by
  unfold srC
  (repeat' split) <;> omega
theorem senRdAll {E : Nat → Addr} (id sq : Int) (a : Option Addr) (n cap : Nat) (f : Nat → Int) (hi : 0 ≤ id ∧ id < 256) (w : World) (he : Ers E w) (hb : Byt w a n f) (hz : ∀ i, i < n → 0 ≤ f i ∧ f i < 256) :
    Calls Tryd.prog 37 #[.agg #[.int .u8 id, .int .u8 sq, .slice a n cap]] w fun r w' => r = .returned (.tuple #[.int .i64 (srX id n f), .int .i64 (srY id n f), errOf E (srC id n f)]) ∧ Below w.heap.size w w' := by
  unfold srX srY
  cases h0 : (rangeI id).2.2
  · have e : srC id n f = 101 := by unfold srC; rw [if_neg (by rw [h0]; simp)]
    rw [e, if_neg (by omega), if_neg (by omega)]
    exact senId id sq a n cap hi h0 w he
  · by_cases h1 : n < 4
    · have e : srC id n f = 103 := by unfold srC; rw [if_pos h0, if_pos h1]
      rw [e, if_neg (by omega), if_neg (by omega)]
      exact senShort id sq a n cap hi h0 h1 w he
    · by_cases h2 : 4 < n
      · have e : srC id n f = 102 := by unfold srC; rw [if_pos h0, if_neg h1, if_pos h2]
        rw [e, if_neg (by omega), if_neg (by omega)]
        exact senLong id sq a n cap hi h0 h2 w he
      · obtain rfl : n = 4 := by omega
        obtain ⟨x, rfl, c0⟩ := hb 0 (by omega)
        have ck : ∀ k, k < 4 → w.cell? (x.add k) = some (.int .u8 (f k)) := fun k hk => by obtain ⟨y, hy, c⟩ := hb k hk; cases hy; exact c
        have c1 := ck 1 (by omega)
        have c2 := ck 2 (by omega)
        have c3 := ck 3 (by omega)
        rw [add_k] at c1 c2 c3
        have K := senValX id sq (f 0) (f 1) (f 2) (f 3) x cap _ hi (hz 0 (by omega)) (hz 1 (by omega)) (hz 2 (by omega)) (hz 3 (by omega)) h0 rfl w he c0 c1 c2 c3
        cases hg : withinB id (sgn4 (val4 (f 0) (f 1) (f 2) (f 3)))
        · have e : srC id 4 f = 101 := by unfold srC; rw [if_pos h0, if_neg h1, if_neg h2, if_neg (by rw [hg]; simp)]
          rw [e, if_neg (by omega), if_neg (by omega)]
          rw [hg] at K
          exact K
        · have e : srC id 4 f = 0 := by unfold srC; rw [if_pos h0, if_neg h1, if_neg h2, if_pos hg]
          rw [e, if_pos rfl, if_pos rfl]
          rw [hg] at K
          exact K
set_option maxHeartbeats 8000000 in
theorem srId (id sq : Int) (a : Option Addr) (n cap : Nat) (hi : 0 ≤ id ∧ id < 256) (h0 : (rangeI id).2.2 = false) (w : World) :
    Calls Tryd.prog 38 #[.agg #[.int .u8 id, .int .u8 sq, .slice a n cap]] w fun r w' => r = .returned (.tuple #[.int .i64 0, .int .i64 0, .int .i64 101]) ∧ Below w.heap.size w w' := by
  have K := Lib.hid fun (w : World) => rangeR id w
  generalize rangeI id = R at *
  obtain ⟨lo, hh, is⟩ := R
  dsimp only at h0 K
  subst h0
  have v0 : IntKind.i64.wrap id = id := IntWalk.i64_in _ (by omega)
  go_enter Tryd.func38, Tryd.ntmps38
  go_upto_region 1 with fail
  have B0 := Lib.hid (Bx.new w #[.int .u8 id, .int .u8 sq, .slice a n cap] 24)
  generalize World.alloc w _ = W at *
  have x0 : W.cell? ⟨w.heap.size, 0, none⟩ = some (.int .u8 id) := B0.out.cell 0 rfl
  go_wp2_with fail
  refine (K.out _).mono ?_
  rintro e w1 ⟨rfl, hb⟩
  have hal := (Below.refl w1.heap.size w1).alloc (Nat.le_refl _) (.cells #[.int .i64 lo, .int .i64 hh] 65)
  have B1 := Lib.hid (B0.out.below (hb.trans (hal.mono hb.size)))
  have S1 := Lib.hid (Bx.new w1 #[.int .i64 lo, .int .i64 hh] 65)
  have L1 := Lib.hid (B0.out.lo.trans ((hb.trans (hal.mono hb.size)).mono B0.out.lo.size))
  clear hb hal B0 x0
  go_upto_region 2 with fail
  generalize World.alloc w1 _ = w2 at *
  go_wp2_with fail
  go_returns
  exact ⟨rfl, B1.out.lo⟩
set_option maxHeartbeats 8000000 in
theorem srLong (id sq : Int) (a : Option Addr) (n cap : Nat) (c : Int) (hc : (if n < 4 then (103 : Int) else if 4 < n then 102 else 0) = c) (hc0 : c ≠ 0) (hi : 0 ≤ id ∧ id < 256) (h0 : (rangeI id).2.2 = true) (w : World) :
    Calls Tryd.prog 38 #[.agg #[.int .u8 id, .int .u8 sq, .slice a n cap]] w fun r w' => r = .returned (.tuple #[.int .i64 0, .int .i64 0, .int .i64 c]) ∧ Below w.heap.size w w' := by
  have K := Lib.hid fun (w : World) => rangeR id w
  generalize rangeI id = R at *
  obtain ⟨lo, hh, is⟩ := R
  dsimp only at h0 K
  subst h0
  have v0 : IntKind.i64.wrap id = id := IntWalk.i64_in _ (by omega)
  have KL := Lib.hid fun (w : World) => longC id sq a n cap 4 w
  rw [hc] at KL
  have g0 : (c != 0) = true := by simp [hc0]
  clear hc hc0
  go_enter Tryd.func38, Tryd.ntmps38
  go_upto_region 1 with fail
  have B0 := Lib.hid (Bx.new w #[.int .u8 id, .int .u8 sq, .slice a n cap] 24)
  generalize World.alloc w _ = W at *
  have x0 : W.cell? ⟨w.heap.size, 0, none⟩ = some (.int .u8 id) := B0.out.cell 0 rfl
  go_wp2_with fail
  refine (K.out _).mono ?_
  rintro e w1 ⟨rfl, hb⟩
  have hal := (Below.refl w1.heap.size w1).alloc (Nat.le_refl _) (.cells #[.int .i64 lo, .int .i64 hh] 65)
  have B1 := Lib.hid (B0.out.below (hb.trans (hal.mono hb.size)))
  have S1 := Lib.hid (Bx.new w1 #[.int .i64 lo, .int .i64 hh] 65)
  have L1 := Lib.hid (B0.out.lo.trans ((hb.trans (hal.mono hb.size)).mono B0.out.lo.size))
  clear hb hal B0 x0
  go_upto_region 2 with fail
  generalize World.alloc w1 _ = w2 at *
  have x0 : w2.cell? ⟨w.heap.size, 0, none⟩ = some (.int .u8 id) := B1.out.cell 0 rfl
  have x1 : w2.cell? ⟨w.heap.size, 1, none⟩ = some (.int .u8 sq) := B1.out.cell 1 rfl
  have x2 : w2.cell? ⟨w.heap.size, 2, none⟩ = some (.slice a n cap) := B1.out.cell 2 rfl
  go_wp2_with fail
  refine (KL.out _).mono ?_
  rintro e w3 ⟨rfl, hb⟩
  have B3 := Lib.hid (B1.out.below hb)
  clear hb B1 x0 x1 x2
  go_wp2_with fail
  go_returns
  exact ⟨rfl, B3.out.lo⟩
set_option maxHeartbeats 8000000 in
theorem srFour (id sq b0 b1 b2 b3 : Int) (y : Addr) (cap : Nat) (g : Bool) (hi : 0 ≤ id ∧ id < 256) (h5 : 0 ≤ b0 ∧ b0 < 256) (h6 : 0 ≤ b1 ∧ b1 < 256) (h7 : 0 ≤ b2 ∧ b2 < 256) (h8 : 0 ≤ b3 ∧ b3 < 256) (h0 : (rangeI id).2.2 = true) (hv : withinB id (sgn4 (val4 b0 b1 b2 b3)) = g) (w : World) (c0 : w.cell? y = some (.int .u8 b0)) (c1 : w.cell? ⟨y.block, y.off + 1, none⟩ = some (.int .u8 b1)) (c2 : w.cell? ⟨y.block, y.off + 2, none⟩ = some (.int .u8 b2)) (c3 : w.cell? ⟨y.block, y.off + 3, none⟩ = some (.int .u8 b3)) :
    Calls Tryd.prog 38 #[.agg #[.int .u8 id, .int .u8 sq, .slice (some y) 4 cap]] w fun r w' => r = .returned (cond g (.tuple #[.int .i64 id, .int .i64 (sgn4 (val4 b0 b1 b2 b3)), .int .i64 0]) (.tuple #[.int .i64 0, .int .i64 0, .int .i64 101])) ∧ Below w.heap.size w w' := by
  have vb := val4_lt b0 b1 b2 b3 h5 h6 h7 h8
  have s0 : IntKind.u32.wrap (b0 * 16777216) = b0 * 16777216 := by rw [IntKind.wrap_u32]; omega
  have s1 : IntKind.u32.wrap (b1 * 65536) = b1 * 65536 := by rw [IntKind.wrap_u32]; omega
  have s2 : IntKind.u32.wrap (b2 * 256) = b2 * 256 := by rw [IntKind.wrap_u32]; omega
  have o1 : bits .or .u32 (b0 * 16777216) (b1 * 65536) = (b0 * 256 + b1) * 65536 := (or_u32 24 b0 (b1 * 65536) h5.1 (by omega) (by omega) (by omega)).trans (by omega)
  have o2 : bits .or .u32 ((b0 * 256 + b1) * 65536) (b2 * 256) = ((b0 * 256 + b1) * 256 + b2) * 256 := (or_u32 16 (b0 * 256 + b1) (b2 * 256) (by omega) (by omega) (by omega) (by omega)).trans (by omega)
  have o3 : bits .or .u32 (((b0 * 256 + b1) * 256 + b2) * 256) b3 = val4 b0 b1 b2 b3 := (or_u32 8 ((b0 * 256 + b1) * 256 + b2) b3 (by omega) (by omega) (by omega) (by omega)).trans rfl
  have u0 := u32_in b0 h5.1 h5.2
  have u1 := u32_in b1 h6.1 h6.2
  have u2 := u32_in b2 h7.1 h7.2
  have u3 := u32_in b3 h8.1 h8.2
  generalize val4 b0 b1 b2 b3 = m at *
  generalize ((b0 * 256 + b1) * 256 + b2) * 256 = m2 at *
  generalize (b0 * 256 + b1) * 65536 = m1 at *
  have e1 : IntKind.i32.wrap m = sgn4 m := by rw [IntKind.wrap_i32]; unfold sgn4; split <;> omega
  have e2 : IntKind.i64.wrap (sgn4 m) = sgn4 m := IntWalk.i64_in _ (by unfold sgn4; split <;> omega)
  clear h5 h6 h7 h8 vb
  unfold withinB at hv
  have K := Lib.hid fun (w : World) => rangeR id w
  generalize rangeI id = R at *
  obtain ⟨lo, hh, is⟩ := R
  dsimp only at h0 K
  subst h0
  have v0 : IntKind.i64.wrap id = id := IntWalk.i64_in _ (by omega)
  have KL := Lib.hid fun (w : World) => longC id sq (some y) 4 cap 4 w
  rw [if_neg (by omega), if_neg (by omega)] at KL
  generalize sgn4 m = sv at *
  have KH := Lib.hid fun (w : World) => hasRef lo hh sv w
  dsimp only at hv
  rw [Bool.true_and] at hv
  rw [hv] at KH
  clear hv
  go_enter Tryd.func38, Tryd.ntmps38
  go_upto_region 1 with fail
  have B0 := Lib.hid (Bx.new w #[.int .u8 id, .int .u8 sq, .slice (some y) 4 cap] 24)
  generalize World.alloc w _ = W at *
  have x0 : W.cell? ⟨w.heap.size, 0, none⟩ = some (.int .u8 id) := B0.out.cell 0 rfl
  go_wp2_with fail
  refine (K.out _).mono ?_
  rintro e w1 ⟨rfl, hb⟩
  have hal := (Below.refl w1.heap.size w1).alloc (Nat.le_refl _) (.cells #[.int .i64 lo, .int .i64 hh] 65)
  have B1 := Lib.hid (B0.out.below (hb.trans (hal.mono hb.size)))
  have S1 := Lib.hid (Bx.new w1 #[.int .i64 lo, .int .i64 hh] 65)
  have L1 := Lib.hid (B0.out.lo.trans ((hb.trans (hal.mono hb.size)).mono B0.out.lo.size))
  clear hb hal B0 x0
  go_upto_region 2 with fail
  generalize World.alloc w1 _ = w2 at *
  have x0 : w2.cell? ⟨w.heap.size, 0, none⟩ = some (.int .u8 id) := B1.out.cell 0 rfl
  have x1 : w2.cell? ⟨w.heap.size, 1, none⟩ = some (.int .u8 sq) := B1.out.cell 1 rfl
  have x2 : w2.cell? ⟨w.heap.size, 2, none⟩ = some (.slice (some y) 4 cap) := B1.out.cell 2 rfl
  go_wp2_with fail
  refine (KL.out _).mono ?_
  rintro e w3 ⟨rfl, hb⟩
  have B3 := Lib.hid (B1.out.below hb)
  have S3 := Lib.hid (S1.out.below hb)
  have d0 := below_cell (L1.out.trans (hb.mono L1.out.size)) c0
  have d1 := below_cell (L1.out.trans (hb.mono L1.out.size)) c1
  have d2 := below_cell (L1.out.trans (hb.mono L1.out.size)) c2
  have d3 := below_cell (L1.out.trans (hb.mono L1.out.size)) c3
  clear hb B1 S1 L1 x0 x1 x2 c0 c1 c2 c3
  have r0 := fun d => below_cell (reach_below w3.heap.size w3 d) d0
  have r1 := fun d => below_cell (reach_below w3.heap.size w3 d) d1
  have r2 := fun d => below_cell (reach_below w3.heap.size w3 d) d2
  have r3 := fun d => below_cell (reach_below w3.heap.size w3 d) d3
  have rx := fun d => below_cell (reach_below w3.heap.size w3 d) (show w3.cell? ⟨w.heap.size, 2, none⟩ = some (.slice (some y) 4 cap) from B3.out.cell 2 rfl)
  go_upto_region 7 with fail
  refine wp_region_reach w3.heap.size (by kernel_rfl) (by kernel_rfl) ?_
  repeat (go_big_quiet_step (fail))
  refine wpQuiet_nil ?_
  rintro w' ⟨d, rfl⟩
  have B5 := Lib.hid (B3.out.reach d)
  have S5 := Lib.hid (S3.out.reach d)
  clear r0 r1 r2 r3 rx d0 d1 d2 d3 B3 S3
  generalize reach w3.heap.size w3 d = w5 at *
  have t0 : w5.cell? ⟨w1.heap.size, 0, none⟩ = some (.int .i64 lo) := S5.out.cell 0 rfl
  have t1 : w5.cell? ⟨w1.heap.size, 1, none⟩ = some (.int .i64 hh) := S5.out.cell 1 rfl
  go_wp2_with fail
  refine (KH.out _).mono ?_
  rintro e w6 ⟨rfl, hb⟩
  have B6 := Lib.hid (B5.out.below hb)
  clear hb B5 S5 t0 t1
  have x0 : w6.cell? ⟨w.heap.size, 0, none⟩ = some (.int .u8 id) := B6.out.cell 0 rfl
  cases g
  · go_wp2_with fail
    go_returns
    exact ⟨rfl, B6.out.lo⟩
  · go_wp2_with fail
    go_returns
    exact ⟨rfl, B6.out.lo⟩
theorem senRdR (id sq : Int) (a : Option Addr) (n cap : Nat) (f : Nat → Int) (hi : 0 ≤ id ∧ id < 256) (w : World) (hb : Byt w a n f) (hz : ∀ i, i < n → 0 ≤ f i ∧ f i < 256) :
    Calls Tryd.prog 38 #[.agg #[.int .u8 id, .int .u8 sq, .slice a n cap]] w fun r w' => r = .returned (.tuple #[.int .i64 (srX id n f), .int .i64 (srY id n f), .int .i64 (srC id n f)]) ∧ Below w.heap.size w w' := by
  unfold srX srY
  cases h0 : (rangeI id).2.2
  · have e : srC id n f = 101 := by unfold srC; rw [if_neg (by rw [h0]; simp)]
    rw [e, if_neg (by omega), if_neg (by omega)]
    exact srId id sq a n cap hi h0 w
  · by_cases h1 : n < 4
    · have e : srC id n f = 103 := by unfold srC; rw [if_pos h0, if_pos h1]
      rw [e, if_neg (by omega), if_neg (by omega)]
      exact srLong id sq a n cap 103 (by rw [if_pos h1]) (by omega) hi h0 w
    · by_cases h2 : 4 < n
      · have e : srC id n f = 102 := by unfold srC; rw [if_pos h0, if_neg h1, if_pos h2]
        rw [e, if_neg (by omega), if_neg (by omega)]
        exact srLong id sq a n cap 102 (by rw [if_neg h1, if_pos h2]) (by omega) hi h0 w
      · obtain rfl : n = 4 := by omega
        obtain ⟨x, rfl, c0⟩ := hb 0 (by omega)
        have ck : ∀ k, k < 4 → w.cell? (x.add k) = some (.int .u8 (f k)) := fun k hk => by obtain ⟨y, hy, c⟩ := hb k hk; cases hy; exact c
        have c1 := ck 1 (by omega)
        have c2 := ck 2 (by omega)
        have c3 := ck 3 (by omega)
        rw [add_k] at c1 c2 c3
        have K := srFour id sq (f 0) (f 1) (f 2) (f 3) x cap _ hi (hz 0 (by omega)) (hz 1 (by omega)) (hz 2 (by omega)) (hz 3 (by omega)) h0 rfl w c0 c1 c2 c3
        cases hg : withinB id (sgn4 (val4 (f 0) (f 1) (f 2) (f 3)))
        · have e : srC id 4 f = 101 := by unfold srC; rw [if_pos h0, if_neg h1, if_neg h2, if_neg (by rw [hg]; simp)]
          rw [e, if_neg (by omega), if_neg (by omega)]
          rw [hg] at K
          exact K
        · have e : srC id 4 f = 0 := by unfold srC; rw [if_pos h0, if_neg h1, if_neg h2, if_pos hg]
          rw [e, if_pos rfl, if_pos rfl]
          rw [hg] at K
          exact K
end Go.Proofs.YtiiomiekjlggfaaDoor
