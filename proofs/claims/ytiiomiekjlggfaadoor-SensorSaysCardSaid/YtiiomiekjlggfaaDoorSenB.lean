/- A sample as a frame; a body of another length is told. Conditions: the seven errors lie apart. -/
import Derived.Test.YtiiomiekjlggfaaDoorSenA
import Derived.Test.YtiiomiekjlggfaaDoorPilB
namespace Go.Proofs.YtiiomiekjlggfaaDoor
open Go.RowKit
set_option linter.unusedVariables false
set_option maxRecDepth 20000
theorem range_of (ch : Int) (h : 1 ≤ ch ∧ ch < 48) : ∃ lo hi, rangeI ch = (lo, hi, true) ∧ -500000 ≤ lo ∧ lo ≤ 0 ∧ 1 ≤ hi ∧ hi ≤ 500000 := by
  rcases (show (1 ≤ ch ∧ ch < 5) ∨ (5 ≤ ch ∧ ch < 9) ∨ (9 ≤ ch ∧ ch < 12) ∨ (12 ≤ ch ∧ ch < 15) ∨ (15 ≤ ch ∧ ch < 23) ∨ (23 ≤ ch ∧ ch < 25) ∨ (25 ≤ ch ∧ ch < 29) ∨ (29 ≤ ch ∧ ch < 30) ∨ (30 ≤ ch ∧ ch < 46) ∨ (46 ≤ ch ∧ ch < 48) by omega) with q | q | q | q | q | q | q | q | q | q
  · exact ⟨_, _, (show rangeI ch = (0, 60000, true) by unfold rangeI; repeat (first | rw [if_pos (by omega)] | rw [if_neg (by omega)])), by omega, by omega, by omega, by omega⟩
  · exact ⟨_, _, (show rangeI ch = (-500000, 500000, true) by unfold rangeI; repeat (first | rw [if_pos (by omega)] | rw [if_neg (by omega)])), by omega, by omega, by omega, by omega⟩
  · exact ⟨_, _, (show rangeI ch = (0, 60000, true) by unfold rangeI; repeat (first | rw [if_pos (by omega)] | rw [if_neg (by omega)])), by omega, by omega, by omega, by omega⟩
  · exact ⟨_, _, (show rangeI ch = (0, 500000, true) by unfold rangeI; repeat (first | rw [if_pos (by omega)] | rw [if_neg (by omega)])), by omega, by omega, by omega, by omega⟩
  · exact ⟨_, _, (show rangeI ch = (0, 6000, true) by unfold rangeI; repeat (first | rw [if_pos (by omega)] | rw [if_neg (by omega)])), by omega, by omega, by omega, by omega⟩
  · exact ⟨_, _, (show rangeI ch = (-500, 1500, true) by unfold rangeI; repeat (first | rw [if_pos (by omega)] | rw [if_neg (by omega)])), by omega, by omega, by omega, by omega⟩
  · exact ⟨_, _, (show rangeI ch = (-30000, 30000, true) by unfold rangeI; repeat (first | rw [if_pos (by omega)] | rw [if_neg (by omega)])), by omega, by omega, by omega, by omega⟩
  · exact ⟨_, _, (show rangeI ch = (0, 127, true) by unfold rangeI; repeat (first | rw [if_pos (by omega)] | rw [if_neg (by omega)])), by omega, by omega, by omega, by omega⟩
  · exact ⟨_, _, (show rangeI ch = (0, 1, true) by unfold rangeI; repeat (first | rw [if_pos (by omega)] | rw [if_neg (by omega)])), by omega, by omega, by omega, by omega⟩
  · exact ⟨_, _, (show rangeI ch = (-500000, 500000, true) by unfold rangeI; repeat (first | rw [if_pos (by omega)] | rw [if_neg (by omega)])), by omega, by omega, by omega, by omega⟩
theorem range_is (ch : Int) (h : 1 ≤ ch) (h2 : ch < 48) : (rangeI ch).2.2 = true := by
  obtain ⟨lo, hi, e, _⟩ := range_of ch ⟨h, h2⟩
  rw [e]
theorem range_no (ch : Int) (h : ch < 1 ∨ 48 ≤ ch) : (rangeI ch).2.2 = false := by
  unfold rangeI
  rcases h with q | q
  · rw [if_pos q]
  · repeat (rw [if_neg (by omega)])
theorem within_of (ch v : Int) (h : withinB ch v = true) : (1 ≤ ch ∧ ch < 48) ∧ -500000 ≤ v ∧ v ≤ 500000 := by
  unfold withinB at h
  by_cases q : 1 ≤ ch ∧ ch < 48
  · obtain ⟨lo, hi, e, h1, h2, h3, h4⟩ := range_of ch q
    rw [e] at h
    simp at h
    omega
  · rw [range_no ch (by omega)] at h
    simp at h
def by0 (v : Int) : Int := v % 4294967296 / 16777216
def by1 (v : Int) : Int := v % 4294967296 / 65536 % 256
def by2 (v : Int) : Int := v % 4294967296 / 256 % 256
def by3 (v : Int) : Int := v % 256
theorem by_back (v : Int) (h : -2147483648 ≤ v) (h2 : v ≤ 2147483647) : sgn4 (val4 (by0 v) (by1 v) (by2 v) (by3 v)) = v := by
  unfold sgn4 val4 by0 by1 by2 by3
  split <;> omega
theorem row_set (w : World) (p : Addr) (v : Value) (b : Nat) (h : p.block ≠ b) : (w.setCell p v).heap[b]? = w.heap[b]? := by
  simp [World.setCell, Array.getElem?_modify, h]
set_option maxHeartbeats 4000000 in
theorem senPut {E : Nat → Addr} (ch s v : Int) (hw : withinB ch v = true) (w : World) :
    Calls Tryd.prog 35 #[.int .i64 ch, .int .u8 s, .int .i64 v] w fun e w' => ∃ B, e = .returned (.tuple #[.agg #[.int .u8 ch, .int .u8 s, .slice (some ⟨B, 0, none⟩) 4 4], .nilIface]) ∧ w'.heap[B]? = some (.cells #[.int .u8 (by0 v), .int .u8 (by1 v), .int .u8 (by2 v), .int .u8 (by3 v)] 5 (0, 0)) ∧ w.heap.size ≤ B ∧ Below w.heap.size w w' := by
  have K := Lib.hid fun (w : World) => withinC ch v w
  rw [hw] at K
  obtain ⟨hc, hv⟩ := within_of ch v hw
  clear hw
  have v0 : IntKind.u8.wrap ch = ch := by rw [IntKind.wrap_u8]; omega
  have v1 : IntKind.i32.wrap v = v := by rw [IntKind.wrap_i32]; omega
  have v2 : IntKind.u32.wrap v = v % 4294967296 := by rw [IntKind.wrap_u32]
  go_enter Tryd.func35, Tryd.ntmps35
  go_wp2_with fail
  have B0 := Lib.hid (Bx.new w #[.int .u8 0, .int .u8 0, .slice none 0 0] 24)
  generalize World.alloc w _ = W at *
  refine (K.out _).mono ?_
  rintro e w1 ⟨rfl, hb⟩
  have B1 := Lib.hid (B0.out.below hb)
  clear hb B0
  have B2 := Lib.hid (B1.out.below ((Below.refl _ _).alloc (Nat.le_refl _) (.cells #[.int .u8 (v % 4294967296 / 16777216), .int .u8 (v % 4294967296 / 65536 % 256), .int .u8 (v % 4294967296 / 256 % 256), .int .u8 (v % 256)] 5)))
  have R2 := Lib.hid (heap_alloc_new w1 (.cells #[.int .u8 (v % 4294967296 / 16777216), .int .u8 (v % 4294967296 / 65536 % 256), .int .u8 (v % 4294967296 / 256 % 256), .int .u8 (v % 256)] 5))
  have hsz := B1.out.size
  have y0 : w1.cell? ⟨w.heap.size, 0, none⟩ = some (.int .u8 0) := B1.out.cell 0 rfl
  have y1 : w1.cell? ⟨w.heap.size, 1, none⟩ = some (.int .u8 0) := B1.out.cell 1 rfl
  have y2 : w1.cell? ⟨w.heap.size, 2, none⟩ = some (.slice none 0 0) := B1.out.cell 2 rfl
  have yf := B1.out.froz
  have x0 : (w1.alloc (.cells #[.int .u8 (v % 4294967296 / 16777216), .int .u8 (v % 4294967296 / 65536 % 256), .int .u8 (v % 4294967296 / 256 % 256), .int .u8 (v % 256)] 5)).cell? ⟨w.heap.size, 0, none⟩ = some (.int .u8 0) := B2.out.cell 0 rfl
  have x1 : (w1.alloc (.cells #[.int .u8 (v % 4294967296 / 16777216), .int .u8 (v % 4294967296 / 65536 % 256), .int .u8 (v % 4294967296 / 256 % 256), .int .u8 (v % 256)] 5)).cell? ⟨w.heap.size, 1, none⟩ = some (.int .u8 0) := B2.out.cell 1 rfl
  have x2 : (w1.alloc (.cells #[.int .u8 (v % 4294967296 / 16777216), .int .u8 (v % 4294967296 / 65536 % 256), .int .u8 (v % 4294967296 / 256 % 256), .int .u8 (v % 256)] 5)).cell? ⟨w.heap.size, 2, none⟩ = some (.slice none 0 0) := B2.out.cell 2 rfl
  have xf := B2.out.froz
  go_wp2_with fail
  have B6 := Lib.hid (((B1.out.set 0 (.int .u8 ch)).set 1 (.int .u8 s)).set 2 (.slice (some ⟨w1.heap.size, 0, none⟩) 4 4))
  have hs2 : (((w1.setCell ⟨w.heap.size, 0, none⟩ (.int .u8 ch)).setCell ⟨w.heap.size, 1, none⟩ (.int .u8 s)).setCell ⟨w.heap.size, 2, none⟩ (.slice (some ⟨w1.heap.size, 0, none⟩) 4 4)).heap.size = w1.heap.size := by simp
  clear x0 x1 x2 xf y0 y1 y2 yf B2 R2
  generalize World.setCell (World.setCell (World.setCell w1 _ _) _ _) _ _ = W3 at *
  have R3 := Lib.hid (show (W3.alloc (.cells #[.int .u8 (v % 4294967296 / 16777216), .int .u8 (v % 4294967296 / 65536 % 256), .int .u8 (v % 4294967296 / 256 % 256), .int .u8 (v % 256)] 5)).heap[w1.heap.size]? = some (.cells #[.int .u8 (v % 4294967296 / 16777216), .int .u8 (v % 4294967296 / 65536 % 256), .int .u8 (v % 4294967296 / 256 % 256), .int .u8 (v % 256)] 5 (0, 0)) by rw [← hs2]; exact heap_alloc_new _ _)
  have B7 := Lib.hid (B6.out.below ((Below.refl _ _).alloc (Nat.le_refl _) (.cells #[.int .u8 (v % 4294967296 / 16777216), .int .u8 (v % 4294967296 / 65536 % 256), .int .u8 (v % 4294967296 / 256 % 256), .int .u8 (v % 256)] 5)))
  generalize World.alloc W3 _ = W4 at *
  have q0 : W4.cell? ⟨w.heap.size, 0, none⟩ = some (.int .u8 ch) := B7.out.cell 0 rfl
  have q1 : W4.cell? ⟨w.heap.size, 1, none⟩ = some (.int .u8 s) := B7.out.cell 1 rfl
  have q2 : W4.cell? ⟨w.heap.size, 2, none⟩ = some (.slice (some ⟨w1.heap.size, 0, none⟩) 4 4) := B7.out.cell 2 rfl
  refine bodyPost_ret (v := .tuple #[.agg #[.int .u8 ch, .int .u8 s, .slice (some ⟨w1.heap.size, 0, none⟩) 4 4], .nilIface]) (by simp [results, Tryd.results35, go_sem, q0, q1, q2]) rfl ⟨w1.heap.size, rfl, R3.out, by omega, B7.out.lo⟩
set_option maxHeartbeats 4000000 in
theorem senFirst (w : World) : Calls Tryd.prog 32 #[] w fun e w' => e = .returned (.bool true) ∧ Below w.heap.size w w' := by
  have K0 := Lib.hid fun (w : World) => rangeC 0 w
  have K1 := Lib.hid fun (w : World) => rangeC 29 w
  rw [show rangeI 0 = (0, 0, false) from rfl] at K0
  rw [show rangeI 29 = (0, 127, true) from rfl] at K1
  dsimp only at K0 K1
  go_enter Tryd.func32, Tryd.ntmps32
  go_wp2_with fail
  refine (K0.out _).mono ?_
  rintro e w1 ⟨rfl, hb⟩
  have B1 := Lib.hid (hb.alloc hb.size (.cells #[.int .i64 0, .int .i64 0] 65))
  clear hb
  go_wp2_with fail
  generalize World.alloc w1 _ = W1 at *
  refine (K1.out _).mono ?_
  rintro e w2 ⟨rfl, hb⟩
  have hb2 := hb.alloc hb.size (.cells #[.int .i64 0, .int .i64 127] 65)
  have x1 : (w2.alloc (.cells #[.int .i64 0, .int .i64 127] 65)).cell? ⟨w2.heap.size, 1, none⟩ = some (.int .i64 127) := (Bx.new w2 #[.int .i64 0, .int .i64 127] 65).cell 1 rfl
  have B2 := Lib.hid (B1.out.trans (hb2.mono B1.out.size))
  clear hb hb2
  go_wp2_with fail
  go_returns
  exact ⟨rfl, B2.out⟩
def wantI (n : Nat) : Int := if n < 4 then 103 else if 4 < n then 102 else 0
theorem val_zero (id : Int) (h : (rangeI id).2.2 = true) : withinB id 0 = true := by
  by_cases q : 1 ≤ id ∧ id < 48
  · obtain ⟨lo, hi, e, h1, h2, h3, h4⟩ := range_of id q
    unfold withinB
    rw [e]
    simp
    omega
  · rw [range_no id (by omega)] at h
    cases h
set_option maxHeartbeats 4000000 in
theorem senZero {E : Nat → Addr} (id sq : Int) (B n : Nat) (hi : 0 ≤ id ∧ id < 256) (hr : (rangeI id).2.2 = true) (w : World) (he : Ers E w) (hz : ∀ k, k < n → w.cell? ⟨B, k, none⟩ = some (.int .u8 0)) :
    Calls Tryd.prog 37 #[.agg #[.int .u8 id, .int .u8 sq, .slice (some ⟨B, 0, none⟩) n n]] w fun e w' => ∃ x y v, e = .returned (.tuple #[.int .i64 x, .int .i64 y, v]) ∧ ErrIs E w' v (wantI n) false 0 ∧ Below w.heap.size w w' := by
  rcases (show n < 4 ∨ n = 4 ∨ 4 < n by omega) with q | q | q
  · refine (senShort id sq (some ⟨B, 0, none⟩) n n hi hr q w he).mono ?_
    rintro e w' ⟨rfl, hb⟩
    exact ⟨_, _, _, rfl, by rw [show wantI n = 101 + ((2 : Nat) : Int) by unfold wantI; rw [if_pos q]; rfl]; exact .bare 2 (by omega), hb⟩
  · subst q
    refine (senVal id sq 0 0 0 0 B 4 true hi (by omega) (by omega) (by omega) (by omega) hr (val_zero id hr) w he (hz 0 (by omega)) (hz 1 (by omega)) (hz 2 (by omega)) (hz 3 (by omega))).mono ?_
    rintro e w' ⟨rfl, hb⟩
    exact ⟨_, _, _, rfl, .fine, hb⟩
  · refine (senLong id sq (some ⟨B, 0, none⟩) n n hi hr q w he).mono ?_
    rintro e w' ⟨rfl, hb⟩
    exact ⟨_, _, _, rfl, by rw [show wantI n = 101 + ((1 : Nat) : Int) by unfold wantI; rw [if_neg (by omega), if_pos q]; rfl]; exact .bare 1 (by omega), hb⟩
theorem made0 {w : World} (n : Nat) {wr : World} (h : Bx w wr (madeCells #[.int .u8 0] n) 5) (k : Nat) (hk : k < n) : wr.cell? ⟨w.heap.size, k, none⟩ = some (.int .u8 0) := by
  refine h.cell k ?_
  simp [madeCells, hk, Nat.mod_one]
set_option maxHeartbeats 8000000 in
theorem walkSensorBodies (a0 : Int) (a1 : Int) (a2 : Int) (w : World) (w0 : (Lit.int .i64 a0).wf = true) (w1 : (Lit.int .i64 a1).wf = true) (w2 : (Lit.int .u8 a2).wf = true) (hE : ∃ E, Ers E w) :
    Calls Tryd.prog 12 #[.int .i64 a0, .int .i64 a1, .int .u8 a2] w fun e w' => e = .returned (.bool true) ∧ Below w.heap.size w w' := by
  obtain ⟨E, hE⟩ := hE
  have b2 : 0 ≤ a2 ∧ a2 < 256 := by have := bounds_u8 w2; omega
  have HE := Lib.hid hE
  clear w0 w1 w2 hE
  have n0 := Int.emod_nonneg a1 (show (10 : Int) ≠ 0 by omega)
  have n1 := Int.emod_lt_of_pos a1 (show (0 : Int) < 10 by omega)
  obtain ⟨n, hn⟩ : ∃ n : Nat, a1 % 10 = (n : Int) := ⟨_, (Int.toNat_of_nonneg n0).symm⟩
  have KN := Lib.hid fun (w : World) => numbC a1 10 (by omega) (by omega) w
  rw [hn] at KN
  have hn6 : n < 10 := by omega
  clear n0 n1 hn
  have n0 := Int.emod_nonneg a0 (show (47 : Int) ≠ 0 by omega)
  have n1 := Int.emod_lt_of_pos a0 (show (0 : Int) < 47 by omega)
  have KC := Lib.hid fun (w : World) => numbC a0 47 (by omega) (by omega) w
  generalize a0 % 47 = c at *
  have v0 : IntKind.u8.wrap (c + 1) = c + 1 := by rw [IntKind.wrap_u8]; omega
  have hc := Lib.hid (range_is (c + 1) (by omega) (by omega))
  go_enter Tryd.func12, Tryd.ntmps12
  go_wp2_with fail
  refine (senFirst _).mono ?_
  rintro e wa ⟨rfl, hba⟩
  have HA := Lib.hid hba
  clear hba
  go_wp2_with fail
  refine (KC.out _).mono ?_
  rintro e wb ⟨rfl, rfl⟩
  go_wp2_with fail
  refine (KN.out _).mono ?_
  rintro e wb ⟨rfl, rfl⟩
  have ix := makeB n (by omega) wa
  go_wp2_with fail
  have M1 := Lib.hid (Bx.new wa (madeCells #[.int .u8 0] n) 5)
  have BM := Lib.hid (HA.out.alloc HA.out.size (.cells (madeCells #[.int .u8 0] n) 5))
  generalize World.alloc wa _ = WM at *
  clear ix
  refine (senZero (E := E) (c + 1) 0 wa.heap.size n (by omega) hc.out _ (HE.out.below BM.out) (fun k hk => made0 n M1.out k hk)).mono ?_
  rintro e w1 ⟨x1, y1, v1, rfl, hv, hb⟩
  have B1 := Lib.hid (BM.out.trans (hb.mono BM.out.size))
  have V1 := Lib.hid hv
  clear hb hv BM M1
  have ix : (Instr.makeSlice 22 (.int .i64 4) (.int .i64 4)).run Tryd.prog w1 = .ok (.slice (some ⟨w1.heap.size, 0, none⟩) 4 4) (w1.alloc (.cells (madeCells #[.int .u8 0] 4) 5)) := makeB 4 (by omega) w1
  have BS := Lib.hid (B1.out.alloc B1.out.size (.cells (madeCells #[.int .u8 0] 4) 5))
  have S1 := Lib.hid (Bx.new w1 (madeCells #[.int .u8 0] 4) 5)
  by_cases hk : 1 ≤ a2 ∧ a2 < 48
  · have g1 : decide (1 ≤ a2) = true := decide_eq_true (by omega)
    have g2 : decide (a2 < 48) = true := decide_eq_true (by omega)
    have v1 : IntKind.i64.wrap a2 = a2 := IntWalk.i64_in _ (by omega)
    have hr2 := Lib.hid (range_is a2 hk.1 hk.2)
    go_wp2_with fail
    generalize World.alloc w1 _ = WS at *
    clear ix
    refine (senVal (E := E) a2 0 0 0 0 0 w1.heap.size 4 true (by omega) (by omega) (by omega) (by omega) (by omega) hr2.out (val_zero a2 hr2.out) WS (HE.out.below BS.out) (made0 4 S1.out 0 (by omega)) (made0 4 S1.out 1 (by omega)) (made0 4 S1.out 2 (by omega)) (made0 4 S1.out 3 (by omega))).mono ?_
    rintro e w2 ⟨rfl, hb⟩
    have B2 := Lib.hid (BS.out.trans (hb.mono BS.out.size))
    have V2 := Lib.hid ((V1.out.below (S1.out.lo)).below hb)
    clear hb BS S1 hk
    rcases (show n < 4 ∨ n = 4 ∨ 4 < n by omega) with q | rfl | q
    · rw [show wantI n = 103 by unfold wantI; rw [if_pos q]] at V2
      have g5 : decide ((n : Int) < 4) = true := decide_eq_true (by omega)
      have g6 : decide ((4 : Int) < (n : Int)) = false := decide_eq_false (by omega)
      go_wp2_with fail
      refine (isC (HE.out.below B2.out) V2.out).mono ?_
      rintro e w5 ⟨rfl, hb⟩
      have B5 := Lib.hid (B2.out.trans (hb.mono B2.out.size))
      clear hb
      go_wp2_with fail
      go_returns
      exact ⟨rfl, B5.out⟩
    · rw [show wantI 4 = 0 by unfold wantI; rfl] at V2
      go_wp2_with fail
      refine (isC (HE.out.below B2.out) V2.out).mono ?_
      rintro e w5 ⟨rfl, hb⟩
      have B5 := Lib.hid (B2.out.trans (hb.mono B2.out.size))
      clear hb
      go_wp2_with fail
      go_returns
      exact ⟨rfl, B5.out⟩
    · rw [show wantI n = 102 by unfold wantI; rw [if_neg (by omega), if_pos q]] at V2
      have g5 : decide ((n : Int) < 4) = false := decide_eq_false (by omega)
      have g6 : decide ((4 : Int) < (n : Int)) = true := decide_eq_true (by omega)
      go_wp2_with fail
      refine (isC (HE.out.below B2.out) V2.out).mono ?_
      rintro e w5 ⟨rfl, hb⟩
      have B5 := Lib.hid (B2.out.trans (hb.mono B2.out.size))
      clear hb
      go_wp2_with fail
      go_returns
      exact ⟨rfl, B5.out⟩
  · have hr2 := Lib.hid (range_no a2 (by omega))
    go_wp2_with fail
    generalize World.alloc w1 _ = WS at *
    clear ix
    refine (senId (E := E) a2 0 (some ⟨w1.heap.size, 0, none⟩) 4 4 (by omega) hr2.out WS (HE.out.below BS.out)).mono ?_
    rintro e w2 ⟨rfl, hb⟩
    have B2 := Lib.hid (BS.out.trans (hb.mono BS.out.size))
    have V2 := Lib.hid ((V1.out.below (S1.out.lo)).below hb)
    clear hb BS S1
    rcases (show n < 4 ∨ n = 4 ∨ 4 < n by omega) with q | rfl | q
    · rw [show wantI n = 103 by unfold wantI; rw [if_pos q]] at V2
      have g5 : decide ((n : Int) < 4) = true := decide_eq_true (by omega)
      have g6 : decide ((4 : Int) < (n : Int)) = false := decide_eq_false (by omega)
      by_cases p1 : 1 ≤ a2
      · have g1 : decide (1 ≤ a2) = true := decide_eq_true (by omega)
        have g2 : decide (a2 < 48) = false := decide_eq_false (by omega)
        have v1 : IntKind.i64.wrap a2 = a2 := IntWalk.i64_in _ (by omega)
        go_wp2_with fail
        refine (isC (HE.out.below B2.out) V2.out).mono ?_
        rintro e w5 ⟨rfl, hb⟩
        have B5 := Lib.hid (B2.out.trans (hb.mono B2.out.size))
        clear hb
        go_wp2_with fail
        go_returns
        exact ⟨rfl, B5.out⟩
      · have g1 : decide (1 ≤ a2) = false := decide_eq_false (by omega)
        go_wp2_with fail
        refine (isC (HE.out.below B2.out) V2.out).mono ?_
        rintro e w5 ⟨rfl, hb⟩
        have B5 := Lib.hid (B2.out.trans (hb.mono B2.out.size))
        clear hb
        go_wp2_with fail
        go_returns
        exact ⟨rfl, B5.out⟩
    · rw [show wantI 4 = 0 by unfold wantI; rfl] at V2
      by_cases p1 : 1 ≤ a2
      · have g1 : decide (1 ≤ a2) = true := decide_eq_true (by omega)
        have g2 : decide (a2 < 48) = false := decide_eq_false (by omega)
        have v1 : IntKind.i64.wrap a2 = a2 := IntWalk.i64_in _ (by omega)
        go_wp2_with fail
        refine (isC (HE.out.below B2.out) V2.out).mono ?_
        rintro e w5 ⟨rfl, hb⟩
        have B5 := Lib.hid (B2.out.trans (hb.mono B2.out.size))
        clear hb
        go_wp2_with fail
        go_returns
        exact ⟨rfl, B5.out⟩
      · have g1 : decide (1 ≤ a2) = false := decide_eq_false (by omega)
        go_wp2_with fail
        refine (isC (HE.out.below B2.out) V2.out).mono ?_
        rintro e w5 ⟨rfl, hb⟩
        have B5 := Lib.hid (B2.out.trans (hb.mono B2.out.size))
        clear hb
        go_wp2_with fail
        go_returns
        exact ⟨rfl, B5.out⟩
    · rw [show wantI n = 102 by unfold wantI; rw [if_neg (by omega), if_pos q]] at V2
      have g5 : decide ((n : Int) < 4) = false := decide_eq_false (by omega)
      have g6 : decide ((4 : Int) < (n : Int)) = true := decide_eq_true (by omega)
      by_cases p1 : 1 ≤ a2
      · have g1 : decide (1 ≤ a2) = true := decide_eq_true (by omega)
        have g2 : decide (a2 < 48) = false := decide_eq_false (by omega)
        have v1 : IntKind.i64.wrap a2 = a2 := IntWalk.i64_in _ (by omega)
        go_wp2_with fail
        refine (isC (HE.out.below B2.out) V2.out).mono ?_
        rintro e w5 ⟨rfl, hb⟩
        have B5 := Lib.hid (B2.out.trans (hb.mono B2.out.size))
        clear hb
        go_wp2_with fail
        go_returns
        exact ⟨rfl, B5.out⟩
      · have g1 : decide (1 ≤ a2) = false := decide_eq_false (by omega)
        go_wp2_with fail
        refine (isC (HE.out.below B2.out) V2.out).mono ?_
        rintro e w5 ⟨rfl, hb⟩
        have B5 := Lib.hid (B2.out.trans (hb.mono B2.out.size))
        clear hb
        go_wp2_with fail
        go_returns
        exact ⟨rfl, B5.out⟩
end Go.Proofs.YtiiomiekjlggfaaDoor
