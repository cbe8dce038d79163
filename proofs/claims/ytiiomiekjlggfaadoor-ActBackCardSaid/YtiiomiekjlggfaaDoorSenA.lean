/- Which samples may be, as frames, out of frames. Conditions: the seven errors lie apart. -/
import Derived.Test.YtiiomiekjlggfaaDoorRange
import Derived.Test.YtiiomiekjlggfaaDoorErrF
namespace Go.Proofs.YtiiomiekjlggfaaDoor
open Go.RowKit
set_option linter.unusedVariables false
set_option maxRecDepth 20000
def withinB (ch v : Int) : Bool := (rangeI ch).2.2 && (decide ((rangeI ch).1 ≤ v) && decide (v ≤ (rangeI ch).2.1))
theorem hasSen (a : Int) (b : Int) (x : Int) (w : World) :
    Calls Tryd.prog 50 #[.agg #[.int .i64 a, .int .i64 b], .int .i64 x] w fun e w' => e = .returned (.bool (decide (a ≤ x) && decide (x ≤ b))) ∧ Below w.heap.size w w' := by
  go_enter Tryd.func50, Tryd.ntmps50
  go_wp2
  all_goals
    go_returns
    refine ⟨?_, by go_grown⟩
    have ret_b : ∀ {a b : Bool}, a = b → Ending.returned (.bool a) = .returned (.bool b) := fun h => by rw [h]
    exact ret_b (by simp <;> omega)
set_option maxHeartbeats 4000000 in
theorem withinC (ch v : Int) (w : World) :
    Calls Tryd.prog 46 #[.int .i64 ch, .int .i64 v] w fun e w' => e = .returned (.bool (withinB ch v)) ∧ Below w.heap.size w w' := by
  have K := Lib.hid fun (w : World) => rangeC ch w
  unfold withinB
  generalize rangeI ch = R at *
  obtain ⟨lo, hi, is⟩ := R
  have KH := Lib.hid fun (w : World) => hasSen lo hi v w
  generalize hc : (decide (lo ≤ v) && decide (v ≤ hi)) = c
  dsimp only at hc ⊢
  rw [hc] at KH
  clear hc
  go_enter Tryd.func46, Tryd.ntmps46
  go_wp2_with fail
  refine (K.out _).mono ?_
  rintro e w1 ⟨rfl, hb⟩
  have B1 := Lib.hid hb
  clear hb
  dsimp only
  cases is
  · go_wp2_with fail
    have B2 := Lib.hid (B1.out.alloc B1.out.size (.cells #[.int .i64 lo, .int .i64 hi] 65))
    generalize World.alloc w1 _ = W3 at *
    go_returns
    exact ⟨by simp, B2.out⟩
  · go_wp2_with fail
    have B2 := Lib.hid (B1.out.alloc B1.out.size (.cells #[.int .i64 lo, .int .i64 hi] 65))
    generalize World.alloc w1 _ = W3 at *
    refine (KH.out _).mono ?_
    rintro e w4 ⟨rfl, hb⟩
    have B7 := Lib.hid (B2.out.trans (hb.mono B2.out.size))
    clear hb
    go_wp2_with fail
    go_returns
    exact ⟨by simp, B7.out⟩
set_option maxHeartbeats 4000000 in
theorem senId {E : Nat → Addr} (id sq : Int) (a : Option Addr) (n cap : Nat) (hi : 0 ≤ id ∧ id < 256) (hr : (rangeI id).2.2 = false) (w : World) (he : Ers E w) :
    Calls Tryd.prog 37 #[.agg #[.int .u8 id, .int .u8 sq, .slice a n cap]] w fun e w' => e = .returned (.tuple #[.int .i64 0, .int .i64 0, .iface 102 (.pointer (some (E 0)))]) ∧ Below w.heap.size w w' := by
  have HE := Lib.hid he
  have K := Lib.hid fun (w : World) => rangeC id w
  clear he
  generalize rangeI id = R at *
  obtain ⟨lo, hh, is⟩ := R
  dsimp only at hr
  subst hr
  have v0 : IntKind.i64.wrap id = id := IntWalk.i64_in _ (by omega)
  go_enter Tryd.func37, Tryd.ntmps37
  go_upto_region 1 with fail
  have B0 := Lib.hid (Bx.new w #[.int .u8 id, .int .u8 sq, .slice a n cap] 24)
  generalize World.alloc w _ = W at *
  have x0 : W.cell? ⟨w.heap.size, 0, none⟩ = some (.int .u8 id) := B0.out.cell 0 rfl
  have x2 : W.cell? ⟨w.heap.size, 2, none⟩ = some (.slice a n cap) := B0.out.cell 2 rfl
  go_wp2_with fail
  refine (K.out _).mono ?_
  rintro e w1 ⟨rfl, hb⟩
  have B1 := Lib.hid ((B0.out.below hb).below ((Below.refl _ _).alloc (Nat.le_refl _) (.cells #[.int .i64 lo, .int .i64 hh] 65)))
  clear hb B0 x0 x2
  have x2 : (w1.alloc (.cells #[.int .i64 lo, .int .i64 hh] 65)).cell? ⟨w.heap.size, 2, none⟩ = some (.slice a n cap) := B1.out.cell 2 rfl
  have q0 := (HE.out.below B1.out.lo).g0
  unfold errV at q0
  go_wp2_with fail
  generalize World.alloc w1 _ = w1 at *
  have G0 := fun d => below_cell (reach_below w1.heap.size w1 d) q0
  refine wp_region_reach w1.heap.size (by kernel_rfl) (by kernel_rfl) ?_
  repeat (go_big_quiet_step (fail))
  refine wpQuiet_nil ?_
  rintro w' ⟨d9, rfl⟩
  go_wp2_with fail
  go_returns
  exact ⟨rfl, (B1.out.reach d9).lo⟩
set_option maxHeartbeats 4000000 in
theorem senShort {E : Nat → Addr} (id sq : Int) (a : Option Addr) (n cap : Nat) (hi : 0 ≤ id ∧ id < 256) (hr : (rangeI id).2.2 = true) (hn : n < 4) (w : World) (he : Ers E w) :
    Calls Tryd.prog 37 #[.agg #[.int .u8 id, .int .u8 sq, .slice a n cap]] w fun e w' => e = .returned (.tuple #[.int .i64 0, .int .i64 0, .iface 102 (.pointer (some (E 2)))]) ∧ Below w.heap.size w w' := by
  have HE := Lib.hid he
  have K := Lib.hid fun (w : World) => rangeC id w
  clear he
  generalize rangeI id = R at *
  obtain ⟨lo, hh, is⟩ := R
  dsimp only at hr
  subst hr
  have v0 : IntKind.i64.wrap id = id := IntWalk.i64_in _ (by omega)
  have g1 : decide ((n : Int) < 4) = true := decide_eq_true (by omega)
  go_enter Tryd.func37, Tryd.ntmps37
  go_upto_region 1 with fail
  have B0 := Lib.hid (Bx.new w #[.int .u8 id, .int .u8 sq, .slice a n cap] 24)
  generalize World.alloc w _ = W at *
  have x0 : W.cell? ⟨w.heap.size, 0, none⟩ = some (.int .u8 id) := B0.out.cell 0 rfl
  have x2 : W.cell? ⟨w.heap.size, 2, none⟩ = some (.slice a n cap) := B0.out.cell 2 rfl
  go_wp2_with fail
  refine (K.out _).mono ?_
  rintro e w1 ⟨rfl, hb⟩
  have B1 := Lib.hid ((B0.out.below hb).below ((Below.refl _ _).alloc (Nat.le_refl _) (.cells #[.int .i64 lo, .int .i64 hh] 65)))
  clear hb B0 x0 x2
  have x2 : (w1.alloc (.cells #[.int .i64 lo, .int .i64 hh] 65)).cell? ⟨w.heap.size, 2, none⟩ = some (.slice a n cap) := B1.out.cell 2 rfl
  have q0 := (HE.out.below B1.out.lo).g2
  unfold errV at q0
  go_wp2_with fail
  generalize World.alloc w1 _ = w1 at *
  have G0 := fun d => below_cell (reach_below w1.heap.size w1 d) q0
  refine wp_region_reach w1.heap.size (by kernel_rfl) (by kernel_rfl) ?_
  repeat (go_big_quiet_step (fail))
  refine wpQuiet_nil ?_
  rintro w' ⟨d9, rfl⟩
  go_wp2_with fail
  go_returns
  exact ⟨rfl, (B1.out.reach d9).lo⟩
set_option maxHeartbeats 4000000 in
theorem senLong {E : Nat → Addr} (id sq : Int) (a : Option Addr) (n cap : Nat) (hi : 0 ≤ id ∧ id < 256) (hr : (rangeI id).2.2 = true) (hn : 4 < n) (w : World) (he : Ers E w) :
    Calls Tryd.prog 37 #[.agg #[.int .u8 id, .int .u8 sq, .slice a n cap]] w fun e w' => e = .returned (.tuple #[.int .i64 0, .int .i64 0, .iface 102 (.pointer (some (E 1)))]) ∧ Below w.heap.size w w' := by
  have HE := Lib.hid he
  have K := Lib.hid fun (w : World) => rangeC id w
  clear he
  generalize rangeI id = R at *
  obtain ⟨lo, hh, is⟩ := R
  dsimp only at hr
  subst hr
  have v0 : IntKind.i64.wrap id = id := IntWalk.i64_in _ (by omega)
  have g1 : decide ((n : Int) < 4) = false := decide_eq_false (by omega)
  have g2 : decide ((4 : Int) < (n : Int)) = true := decide_eq_true (by omega)
  go_enter Tryd.func37, Tryd.ntmps37
  go_upto_region 1 with fail
  have B0 := Lib.hid (Bx.new w #[.int .u8 id, .int .u8 sq, .slice a n cap] 24)
  generalize World.alloc w _ = W at *
  have x0 : W.cell? ⟨w.heap.size, 0, none⟩ = some (.int .u8 id) := B0.out.cell 0 rfl
  have x2 : W.cell? ⟨w.heap.size, 2, none⟩ = some (.slice a n cap) := B0.out.cell 2 rfl
  go_wp2_with fail
  refine (K.out _).mono ?_
  rintro e w1 ⟨rfl, hb⟩
  have B1 := Lib.hid ((B0.out.below hb).below ((Below.refl _ _).alloc (Nat.le_refl _) (.cells #[.int .i64 lo, .int .i64 hh] 65)))
  clear hb B0 x0 x2
  have x2 : (w1.alloc (.cells #[.int .i64 lo, .int .i64 hh] 65)).cell? ⟨w.heap.size, 2, none⟩ = some (.slice a n cap) := B1.out.cell 2 rfl
  have q0 := (HE.out.below B1.out.lo).g1
  unfold errV at q0
  go_wp2_with fail
  generalize World.alloc w1 _ = w1 at *
  have G0 := fun d => below_cell (reach_below w1.heap.size w1 d) q0
  refine wp_region_reach w1.heap.size (by kernel_rfl) (by kernel_rfl) ?_
  repeat (go_big_quiet_step (fail))
  refine wpQuiet_nil ?_
  rintro w' ⟨d9, rfl⟩
  go_wp2_with fail
  go_returns
  exact ⟨rfl, (B1.out.reach d9).lo⟩
/-- Four bytes, the greatest first, as a number with a sign. -/
def val4 (a b c d : Int) : Int := ((a * 256 + b) * 256 + c) * 256 + d
def sgn4 (n : Int) : Int := if n < 2147483648 then n else n - 4294967296
def by4 (b0 b1 b2 b3 : Int) : Nat → Int
  | 0 => b0
  | 1 => b1
  | 2 => b2
  | _ => b3
def pre4 (b0 b1 b2 b3 : Int) : Nat → Int
  | 0 => 0
  | 1 => b0
  | 2 => b0 * 256 + b1
  | 3 => (b0 * 256 + b1) * 256 + b2
  | _ => val4 b0 b1 b2 b3
theorem val4_lt (b0 b1 b2 b3 : Int) (h0 : 0 ≤ b0 ∧ b0 < 256) (h1 : 0 ≤ b1 ∧ b1 < 256) (h2 : 0 ≤ b2 ∧ b2 < 256) (h3 : 0 ≤ b3 ∧ b3 < 256) : 0 ≤ val4 b0 b1 b2 b3 ∧ val4 b0 b1 b2 b3 < 4294967296 := by
  unfold val4
  omega
theorem pre4_step (b0 b1 b2 b3 : Int) (h0 : 0 ≤ b0 ∧ b0 < 256) (h1 : 0 ≤ b1 ∧ b1 < 256) (h2 : 0 ≤ b2 ∧ b2 < 256) (h3 : 0 ≤ b3 ∧ b3 < 256) (k : Nat) (hk : k < 4) :
    (0 ≤ pre4 b0 b1 b2 b3 k ∧ pre4 b0 b1 b2 b3 k < 16777216 ∧ 0 ≤ by4 b0 b1 b2 b3 k ∧ by4 b0 b1 b2 b3 k < 256) ∧ pre4 b0 b1 b2 b3 (k + 1) = pre4 b0 b1 b2 b3 k * 256 + by4 b0 b1 b2 b3 k := by
  match k, hk with
  | 0, _ => show ((0 : Int) ≤ 0 ∧ (0 : Int) < 16777216 ∧ 0 ≤ b0 ∧ b0 < 256) ∧ b0 = 0 * 256 + b0; omega
  | 1, _ => show (0 ≤ b0 ∧ b0 < 16777216 ∧ 0 ≤ b1 ∧ b1 < 256) ∧ b0 * 256 + b1 = b0 * 256 + b1; omega
  | 2, _ => show (0 ≤ b0 * 256 + b1 ∧ b0 * 256 + b1 < 16777216 ∧ 0 ≤ b2 ∧ b2 < 256) ∧ (b0 * 256 + b1) * 256 + b2 = (b0 * 256 + b1) * 256 + b2; omega
  | 3, _ => show (0 ≤ (b0 * 256 + b1) * 256 + b2 ∧ (b0 * 256 + b1) * 256 + b2 < 16777216 ∧ 0 ≤ b3 ∧ b3 < 256) ∧ ((b0 * 256 + b1) * 256 + b2) * 256 + b3 = ((b0 * 256 + b1) * 256 + b2) * 256 + b3; omega
theorem u32_in (x : Int) (h : 0 ≤ x) (h2 : x < 256) : IntKind.u32.wrap x = x := by rw [IntKind.wrap_u32]; omega
theorem or_nat (a b : Nat) (hb : b < 256) : a * 256 ||| b = a * 256 + b := by
  have := Nat.shiftLeft_add_eq_or_of_lt (i := 8) (b := b) (by omega) a
  rw [Nat.shiftLeft_eq] at this
  exact this.symm
theorem or_low (m x : Int) (hm : 0 ≤ m) (hm2 : m < 16777216) (hx : 0 ≤ x) (hx2 : x < 256) : bits .or .u32 (m * 256) x = m * 256 + x := by
  show IntKind.u32.wrap ((BitVec.ofInt 32 (m * 256) ||| BitVec.ofInt 32 x).toNat : Int) = _
  obtain ⟨a, rfl⟩ := Int.eq_ofNat_of_zero_le hm
  obtain ⟨b, rfl⟩ := Int.eq_ofNat_of_zero_le hx
  rw [show ((a : Int) * 256) = ((a * 256 : Nat) : Int) by omega, BitVec.ofInt_natCast, BitVec.ofInt_natCast, BitVec.toNat_or, BitVec.toNat_ofNat, BitVec.toNat_ofNat, Nat.mod_eq_of_lt (by omega), Nat.mod_eq_of_lt (by omega), or_nat a b (by omega), IntKind.wrap_u32]
  omega
set_option maxHeartbeats 4000000 in
theorem senVal {E : Nat → Addr} (id sq b0 b1 b2 b3 : Int) (B cap : Nat) (ok : Bool) (hi : 0 ≤ id ∧ id < 256) (h0 : 0 ≤ b0 ∧ b0 < 256) (h1 : 0 ≤ b1 ∧ b1 < 256) (h2 : 0 ≤ b2 ∧ b2 < 256) (h3 : 0 ≤ b3 ∧ b3 < 256) (hr : (rangeI id).2.2 = true) (hv : withinB id (sgn4 (val4 b0 b1 b2 b3)) = ok) (w : World) (he : Ers E w)
    (c0 : w.cell? ⟨B, 0, none⟩ = some (.int .u8 b0)) (c1 : w.cell? ⟨B, 1, none⟩ = some (.int .u8 b1)) (c2 : w.cell? ⟨B, 2, none⟩ = some (.int .u8 b2)) (c3 : w.cell? ⟨B, 3, none⟩ = some (.int .u8 b3)) :
    Calls Tryd.prog 37 #[.agg #[.int .u8 id, .int .u8 sq, .slice (some ⟨B, 0, none⟩) 4 cap]] w fun e w' => e = .returned (cond ok (.tuple #[.int .i64 id, .int .i64 (sgn4 (val4 b0 b1 b2 b3)), .nilIface]) (.tuple #[.int .i64 0, .int .i64 0, .iface 102 (.pointer (some (E 0)))])) ∧ Below w.heap.size w w' := by
  have HE := Lib.hid he
  have K := Lib.hid fun (w : World) => rangeC id w
  have KW := Lib.hid fun (w : World) => withinC id (sgn4 (val4 b0 b1 b2 b3)) w
  rw [hv] at KW
  clear he hv
  generalize rangeI id = R at *
  obtain ⟨lo, hh, is⟩ := R
  dsimp only at hr
  subst hr
  have v0 : IntKind.i64.wrap id = id := IntWalk.i64_in _ (by omega)
  go_enter Tryd.func37, Tryd.ntmps37
  go_upto_region 1 with fail
  have B0 := Lib.hid (Bx.new w #[.int .u8 id, .int .u8 sq, .slice (some ⟨B, 0, none⟩) 4 cap] 24)
  generalize World.alloc w _ = W at *
  have x0 : W.cell? ⟨w.heap.size, 0, none⟩ = some (.int .u8 id) := B0.out.cell 0 rfl
  have d0 := below_cell B0.out.lo c0
  have d1 := below_cell B0.out.lo c1
  have d2 := below_cell B0.out.lo c2
  have d3 := below_cell B0.out.lo c3
  clear c0 c1 c2 c3
  go_wp2_with fail
  refine (K.out _).mono ?_
  rintro e w1 ⟨rfl, hb⟩
  have hb2 := hb.alloc hb.size (.cells #[.int .i64 lo, .int .i64 hh] 65)
  have B1 := Lib.hid (B0.out.below hb2)
  have c0 := below_cell hb2 d0
  have c1 := below_cell hb2 d1
  have c2 := below_cell hb2 d2
  have c3 := below_cell hb2 d3
  clear hb hb2 B0 x0 d0 d1 d2 d3
  have x2 : (w1.alloc (.cells #[.int .i64 lo, .int .i64 hh] 65)).cell? ⟨w.heap.size, 2, none⟩ = some (.slice (some ⟨B, 0, none⟩) 4 cap) := B1.out.cell 2 rfl
  go_wp2_with fail
  have q0 := (HE.out.below B1.out.lo)
  generalize World.alloc w1 _ = W1 at *
  have HQ := Lib.hid q0
  have D := Lib.hid (show ∀ k : Nat, k < 4 → W1.cell? ⟨B, k, none⟩ = some (.int .u8 (by4 b0 b1 b2 b3 k)) by
    intro k hk
    match k, hk with
    | 0, _ => exact c0
    | 1, _ => exact c1
    | 2, _ => exact c2
    | 3, _ => exact c3)
  clear q0 c0 c1 c2 c3 x2 v0 HE
  go_loopw [8, 36] (fun n c wr => ∃ k : Nat, k ≤ 4 ∧ c = .int .i64 k ∧ n = .int .u32 (pre4 b0 b1 b2 b3 k) ∧ wr = W1) (fun _ c _ => 4 - (intOf c).toNat)
  case atStart => exact ⟨0, by omega, rfl, rfl, rfl⟩
  case round =>
    obtain ⟨k, hk, rfl, rfl, rfl⟩ := hrel
    by_cases h4 : k = 4
    · subst h4
      rw [show pre4 b0 b1 b2 b3 4 = val4 b0 b1 b2 b3 from rfl]
      have vb := val4_lt b0 b1 b2 b3 h0 h1 h2 h3
      generalize hm : val4 b0 b1 b2 b3 = m at *
      have HM := Lib.hid hm
      clear hm
      have e1 : IntKind.i32.wrap m = sgn4 m := by rw [IntKind.wrap_i32]; unfold sgn4; split <;> omega
      have e2 : IntKind.i64.wrap (sgn4 m) = sgn4 m := IntWalk.i64_in _ (by unfold sgn4; split <;> omega)
      clear hk
      go_wp2_with fail
      refine (KW.out _).mono ?_
      rintro e w3 ⟨rfl, hb⟩
      have B3 := Lib.hid (B1.out.below hb)
      have q3 := (HQ.out.below hb).g0
      unfold errV at q3
      clear hb B1 e1 e2 D
      cases ok
      · go_wp2_with fail
        have G0 := fun d => below_cell (reach_below w3.heap.size w3 d) q3
        refine wp_region_reach w3.heap.size (by kernel_rfl) (by kernel_rfl) ?_
        repeat (go_big_quiet_step (fail))
        refine wpQuiet_nil ?_
        rintro w' ⟨d9, rfl⟩
        go_wp2_with fail
        go_returns
        exact ⟨rfl, (B3.out.reach d9).lo⟩
      · go_wp2_with fail
        go_returns
        exact ⟨by rw [HM.out]; rfl, B3.out.lo⟩
    · have hk4 : k < 4 := by omega
      have hc := D.out k hk4
      have ea : (⟨B, 0, none⟩ : Addr).add k = ⟨B, k, none⟩ := by simp [Addr.add]; omega
      have hc2 : wr.cell? ((⟨B, 0, none⟩ : Addr).add k) = some (.int .u8 (by4 b0 b1 b2 b3 k)) := by rw [ea]; exact hc
      obtain ⟨hp, hs⟩ := pre4_step b0 b1 b2 b3 h0 h1 h2 h3 k hk4
      have hp2 : pre4 b0 b1 b2 b3 k < 16777216 := hp.2.1
      have hp1 := hp.1
      have hq1 := hp.2.2.1
      have hq2 := hp.2.2.2
      have HS := Lib.hid hs
      clear hs hp
      generalize pre4 b0 b1 b2 b3 k = m at *
      generalize by4 b0 b1 b2 b3 k = x at *
      have e1 := u32_in x hq1 hq2
      have e2 : IntKind.u32.wrap (m * 256) = m * 256 := by rw [IntKind.wrap_u32]; omega
      have e3 := or_low m x hp1 hp2 hq1 hq2
      have i1 : decide ((k : Int) < 4) = true := decide_eq_true (by omega)
      go_wp2_with fail
      go_roundw
      case rel => exact ⟨k + 1, by omega, by go_num, by rw [HS.out], trivial⟩
      case measure => simp [intOf]; omega
end Go.Proofs.YtiiomiekjlggfaaDoor
