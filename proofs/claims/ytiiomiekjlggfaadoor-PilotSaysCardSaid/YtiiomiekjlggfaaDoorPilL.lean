/- Once LAND was told nothing takes it back; a command that was put is read as it was. Conditions: none. -/
import Derived.Test.YtiiomiekjlggfaaDoorPilP
import Derived.Test.YtiiomiekjlggfaaDoorFlat
import Derived.Test.YtiiomiekjlggfaaDoorTail
namespace Go.Proofs.YtiiomiekjlggfaaDoor
open Go.RowKit
set_option linter.unusedVariables false
theorem add_succL (x : Addr) (k : Nat) : x.add (k + 1) = ⟨(x.add k).block, (x.add k).off + 1, none⟩ := by
  unfold Addr.add
  by_cases h : k = 0
  · subst h; simp
  · simp [h]; omega
theorem pair_atL {w : World} {a : Option Addr} {len cap : Nat} {z : Nat → List Value} (h : CameS [.int .i64, .int .i64] w a len cap z) (i : Nat) (hi : i < len) :
    ∃ x c d, a = some x ∧ w.cell? (x.add (i * 2)) = some (.int .i64 c) ∧ w.cell? ⟨(x.add (i * 2)).block, (x.add (i * 2)).off + 1, none⟩ = some (.int .i64 d) := by
  obtain ⟨x, hx, ho, hc⟩ := h.at i hi
  obtain ⟨c0, r0, e0, ⟨a0, rfl, _⟩, o1⟩ := oks_cons ho
  obtain ⟨c1, r1, e1, ⟨a1, rfl, _⟩, o2⟩ := oks_cons o1
  have h0 := hc 0 (.int .i64 a0) (by rw [e0]; rfl)
  have h1 := hc 1 (.int .i64 a1) (by rw [e0, e1]; rfl)
  simp only [List.length_cons, List.length_nil, Nat.add_zero, Nat.zero_add, Nat.reduceAdd] at h0 h1
  rw [add_succL] at h1
  exact ⟨x, a0, a1, hx, h0, h1⟩
theorem app_land {p : PS} (h : p.l = true) (c d : Int) : (p.app c d).l = true := by
  unfold PS.app
  split
  · split
    · exact h
    · split
      · exact h
      · split
        · rfl
        · split <;> exact h
  · exact h
theorem app_count {p : PS} {k : Int} (h0 : 0 ≤ p.c) (h1 : p.c ≤ 1000) (c d : Int) : 0 ≤ (p.app c d).c ∧ (p.app c d).c ≤ 1000 := by
  unfold PS.app
  split
  · split
    · exact ⟨h0, h1⟩
    · split
      · exact ⟨h0, h1⟩
      · split
        · exact ⟨h0, h1⟩
        · split
          · exact ⟨h0, h1⟩
          · show 0 ≤ min p.c 999 + 1 ∧ min p.c 999 + 1 ≤ 1000
            omega
  · exact ⟨h0, h1⟩
theorem tmod_l (a : Int) (b : Int) (hb : 0 < b) : -b < a.tmod b ∧ a.tmod b < b := by
  have h1 := Int.tmod_lt_of_pos a hb
  have h2 := Int.tmod_lt_of_pos (-a) hb
  rw [Int.neg_tmod] at h2
  omega
theorem and_one (a : Int) : bits .and .i64 a 1 = 0 ∨ bits .and .i64 a 1 = 1 := by
  have e : bits .and .i64 a 1 = IntKind.i64.wrap ((((BitVec.ofInt 64 a).toNat % 2 : Nat)) : Int) := by
    show IntKind.i64.wrap ((BitVec.ofInt 64 a &&& BitVec.ofInt 64 1).toNat : Int) = _
    rw [BitVec.toNat_and, show (BitVec.ofInt 64 1).toNat = 1 by decide, Nat.and_one_is_mod]
  rw [e]
  rcases Nat.mod_two_eq_zero_or_one (BitVec.ofInt 64 a).toNat with h | h
  · rw [h]; exact .inl (IntWalk.i64_in _ (by omega))
  · rw [h]; exact .inr (IntWalk.i64_in _ (by omega))
set_option maxRecDepth 20000 in
set_option maxHeartbeats 8000000 in
theorem walkPilotLands (a0 : Option Addr) (len0 cap0 : Nat) (z0 : Nat → List Value) (a1 : Int) (a2 : Int) (a3 : Int) (w : World) (w0 : CameS [.int .i64, .int .i64] w a0 len0 cap0 z0) (w1 : (Lit.int .i64 a1).wf = true) (w2 : (Lit.int .i64 a2).wf = true) (w3 : (Lit.int .u8 a3).wf = true) :
    Calls Tryd.prog 4 #[.slice a0 len0 cap0, .int .i64 a1, .int .i64 a2, .int .u8 a3] w fun e w' => e = .returned (.bool true) ∧ Below w.heap.size w w' := by
  obtain ⟨b1, b1'⟩ := bounds_i64 w1
  obtain ⟨b2, b2'⟩ := bounds_i64 w2
  have H0 := Lib.hid w0
  clear w0 w1 w2 w3
  go_enter Tryd.func4, Tryd.ntmps4
  go_wp2_with fail
  refine (pilFirst _).mono ?_
  rintro e wa ⟨rfl, hba⟩
  have HA := Lib.hid hba
  clear hba
  by_cases l1 : 40 < len0
  · have g1 : decide ((40 : Int) < (len0 : Int)) = true := decide_eq_true (by omega)
    go_wp2_with fail
    go_returns
    exact ⟨rfl, HA.out⟩
  have g1 : decide ((40 : Int) < (len0 : Int)) = false := decide_eq_false (by omega)
  go_wp2_with fail
  have P0 := Lib.hid (show Pl (wa.alloc (.cells #[.bool false, .bool false, .bool true, .bool false, .int .i64 0] 40)) wa.heap.size ⟨false, false, true, false, 0⟩ from heap_alloc_new _ _)
  have B0 := Lib.hid (HA.out.alloc HA.out.size (.cells #[.bool false, .bool false, .bool true, .bool false, .int .i64 0] 40))
  have hS : w.heap.size ≤ wa.heap.size := HA.out.size
  generalize World.alloc wa _ = wz at *
  go_loopw [11] (fun s wr => ∃ (i : Nat) (p : PS), i ≤ len0 ∧ s = .int .i64 i ∧ p.l = true ∧ (0 ≤ p.c ∧ p.c ≤ 1000) ∧ Pl wr wa.heap.size p ∧ Below w.heap.size w wr) (fun s _ => len0 - (intOf s).toNat)
  case atStart => exact ⟨0, ⟨false, false, true, false, 0⟩, by omega, rfl, rfl, by decide, P0.out, B0.out⟩
  case round =>
    obtain ⟨i, p, hi, rfl, pl, hc, hp, hb⟩ := hrel
    have PP := Lib.hid hp
    have PL := Lib.hid pl
    have BW := Lib.hid hb
    clear hp hb pl
    by_cases hl : i < len0
    · obtain ⟨x, c, d, rfl, r0, r1⟩ := pair_atL H0.out i hl
      have s0 := fun e => below_cell (BW.out.trans ((reach_below wr.heap.size wr e).mono BW.out.size)) r0
      have s1 := fun e => below_cell (BW.out.trans ((reach_below wr.heap.size wr e).mono BW.out.size)) r1
      clear r0 r1
      go_upto_region 10 with fail
      refine wp_region_tailR wr.heap.size 10 (by kernel_rfl) (by kernel_rfl) ?_
      simp only [List.take_succ_cons, List.take_zero, List.drop_succ_cons, List.drop_zero]
      repeat (go_big_quiet_step (fail))
      refine wpQuiet_nil ?_
      rintro w' ⟨e, rfl⟩
      have P1 := Lib.hid (PP.out.below (reach_below wr.heap.size wr e) PP.out.lt)
      have B1 := Lib.hid (BW.out.trans ((reach_below wr.heap.size wr e).mono BW.out.size))
      clear s0 s1 PP BW
      generalize reach wr.heap.size wr e = wq at *
      go_wp2_with fail
      refine (applyC wa.heap.size p c d _ P1.out (by omega)).mono ?_
      rintro e2 w2 ⟨rfl, h2, o2⟩
      have P2 := Lib.hid h2
      have B2 := Lib.hid (B1.out.trans (o2.below hS B1.out.size))
      have x2 : w2.cell? ⟨wa.heap.size, 2, none⟩ = some (.bool true) := by
        have := h2.cell 2 rfl
        rw [this]
        show some (Value.bool (p.app c d).l) = _
        rw [app_land PL.out]
      clear h2 o2 P1 B1
      go_wp2_with fail
      go_roundw
      case rel => exact ⟨i + 1, p.app c d, by omega, by go_num, app_land PL.out c d, app_count (k := 0) hc.1 hc.2 c d, P2.out, B2.out⟩
      case measure => simp [intOf]; omega
    · have t1 := tmod_l a1 5 (by omega)
      go_upto_region 15 with fail
      have u1 : 0 ≤ a1.tmod 5 % 5 ∧ a1.tmod 5 % 5 < 5 := ⟨Int.emod_nonneg _ (by omega), Int.emod_lt_of_pos _ (by omega)⟩
      have ao := and_one a2
      obtain ⟨C, hC⟩ : ∃ C, a1.tmod 5 % 5 + 1 = C := ⟨_, rfl⟩
      rw [hC]
      have c1 : 1 ≤ C ∧ C ≤ 5 := by omega
      generalize bits .and .i64 a2 1 = D at *
      clear hC u1 t1 b1 b1' b2 b2' PP PL hc
      have hk : kn C D = true := by unfold kn; simp [c1.1, c1.2, ao]
      have PG := Lib.hid fun (w : World) => putGood C D a3 hk w
      have HK := Lib.hid hk
      clear hk
      go_wp2_with fail
      refine (PG.out _).mono ?_
      rintro e w1 ⟨B, rfl, hr, hb⟩
      have B1 := Lib.hid (BW.out.trans (hb.mono BW.out.size))
      have R1 := Lib.hid hr
      clear hb hr PG BW
      go_upto_region 16 with fail
      have B2 := Lib.hid (B1.out.alloc B1.out.size (.cells #[.int .u8 80, .int .u8 a3, .slice (some ⟨B, 0, none⟩) 2 2] 24))
      have F2 := Lib.hid (Bx.new w1 #[.int .u8 80, .int .u8 a3, .slice (some ⟨B, 0, none⟩) 2 2] 24)
      have R2 := Lib.hid ((((Below.refl w1.heap.size w1).alloc (Nat.le_refl _) (.cells #[.int .u8 80, .int .u8 a3, .slice (some ⟨B, 0, none⟩) 2 2] 24)).block B (Array.getElem?_eq_some_iff.1 R1.out).1).trans R1.out)
      clear B1 R1
      generalize World.alloc w1 _ = W2 at *
      have x0 : W2.cell? ⟨w1.heap.size, 0, none⟩ = some (.int .u8 80) := F2.out.cell 0 rfl
      have x1 : W2.cell? ⟨w1.heap.size, 1, none⟩ = some (.int .u8 a3) := F2.out.cell 1 rfl
      have x2 : W2.cell? ⟨w1.heap.size, 2, none⟩ = some (.slice (some ⟨B, 0, none⟩) 2 2) := F2.out.cell 2 rfl
      go_wp2_with fail
      refine (readGood a3 C D B 2 (by omega) (by omega) HK.out _ (cell_of_row _ _ 0 _ _ _ R2.out) (cell_of_row _ _ 1 _ _ _ R2.out)).mono ?_
      rintro e w3 ⟨rfl, hb⟩
      have B3 := Lib.hid (B2.out.trans (hb.mono B2.out.size))
      have F3 := Lib.hid (F2.out.below hb)
      clear hb x0 x1 x2 B2 F2
      have x0 : w3.cell? ⟨w1.heap.size, 0, none⟩ = some (.int .u8 80) := F3.out.cell 0 rfl
      have e1 : (C == C) = true := by simp
      have e2 : (D == D) = true := by simp
      go_wp2_with fail
      go_returns
      exact ⟨rfl, B3.out⟩
end Go.Proofs.YtiiomiekjlggfaaDoor
