/- A command's frame of another name, another length, or with numbers that are none, is told. Conditions: none. -/
import Derived.Test.YtiiomiekjlggfaaDoorPilR
import Derived.Test.YtiiomiekjlggfaaDoorNumb
import Derived.Laws.Small
import Derived.Maps.AppendAt
import Derived.Deep.AppendLies
import Derived.OwnWalk
import Derived.Laws.OwnMore
namespace Go.Proofs.YtiiomiekjlggfaaDoor
open Go.RowKit
set_option linter.unusedVariables false
set_option maxRecDepth 20000
theorem makeB (n : Nat) (hn : n ≤ 1000) (w : World) : (Instr.makeSlice 22 (.int .i64 (n : Int)) (.int .i64 (n : Int))).run Tryd.prog w = .ok (.slice (some ⟨w.heap.size, 0, none⟩) n n) (w.alloc (.cells (madeCells #[.int .u8 0] n) 5)) := by
  obtain ⟨i, hi, hz, hs, hb⟩ : ∃ i, Tryd.prog.info? 5 = some i ∧ i.zero = some (.int .u8 0) ∧ i.size = 1 ∧ i.bytes = 1 := by
    have hm : (Tryd.prog.info? 5).map (fun i => (i.zero, i.size, i.bytes)) = some (some (.int .u8 0), 1, 1) := by kernel_rfl
    cases h : Tryd.prog.info? 5 with
    | none => rw [h] at hm; cases hm
    | some i =>
      rw [h] at hm
      simp only [Option.map_some, Option.some.injEq, Prod.mk.injEq] at hm
      exact ⟨i, rfl, hm.1, hm.2.1, hm.2.2⟩
  have := run_makeSlice (P := Tryd.prog) (w := w) 22 5 i _ Tryd.underlying22 hi hz .i64 .i64 (n : Int) (n : Int) (by omega) (Int.le_refl _) (by rw [hs]; omega) (by rw [hb]; omega) (by omega)
  rw [hs] at this
  simp only [Int.toNat_natCast, Nat.mul_one] at this
  exact this
theorem isC {E : Nat → Addr} {w : World} (h : Ers E w) {v : Value} {c : Int} (he : ErrIs E w v c false 0) :
    Calls Tryd.prog 19 #[v, .int .i64 c] w fun e w' => e = .returned (.bool true) ∧ Below w.heap.size w w' := by
  have H := Lib.hid h
  have HE := Lib.hid he
  clear h he
  go_enter Tryd.func19, Tryd.ntmps19
  go_wp2_with fail
  refine (bareC c _).mono ?_
  rintro e w1 ⟨rfl, hb⟩
  have B1 := Lib.hid hb
  clear hb
  go_wp2_with fail
  refine (sameC (H.out.below B1.out) (HE.out.below B1.out)).mono ?_
  rintro e w2 ⟨rfl, hb⟩
  have B2 := Lib.hid (B1.out.trans (hb.mono B1.out.size))
  clear hb
  go_wp2_with fail
  go_returns
  exact ⟨rfl, B2.out⟩
theorem Ers.alloc {E : Nat → Addr} {w : World} (h : Ers E w) (o : Obj) : Ers E (w.alloc o) := h.below ((Below.refl _ _).alloc (Nat.le_refl _) o)
set_option maxHeartbeats 8000000 in
theorem walkPilotBodies (a0 : Int) (a1 : Int) (a2 : Int) (a3 : Int) (w : World) (w0 : (Lit.int .u8 a0).wf = true) (w1 : (Lit.int .i64 a1).wf = true) (w2 : (Lit.int .u8 a2).wf = true) (w3 : (Lit.int .u8 a3).wf = true) (hE : ∃ E, Ers E w) :
    Calls Tryd.prog 5 #[.int .u8 a0, .int .i64 a1, .int .u8 a2, .int .u8 a3] w fun e w' => e = .returned (.bool true) ∧ Below w.heap.size w w' := by
  obtain ⟨E, hE⟩ := hE
  have b2 : 0 ≤ a2 ∧ a2 < 256 := by have := bounds_u8 w2; omega
  have b3 : 0 ≤ a3 ∧ a3 < 256 := by have := bounds_u8 w3; omega
  have HE := Lib.hid hE
  clear w0 w1 w2 w3 hE
  have n0 := Int.emod_nonneg a1 (show (6 : Int) ≠ 0 by omega)
  have n1 := Int.emod_lt_of_pos a1 (show (0 : Int) < 6 by omega)
  obtain ⟨n, hn⟩ : ∃ n : Nat, a1 % 6 = (n : Int) := ⟨_, (Int.toNat_of_nonneg n0).symm⟩
  have KN := Lib.hid fun (w : World) => numbC a1 6 (by omega) (by omega) w
  rw [hn] at KN
  have hn6 : n < 6 := by omega
  clear n0 n1 hn
  go_enter Tryd.func5, Tryd.ntmps5
  go_wp2_with fail
  refine (pilFirst _).mono ?_
  rintro e wa ⟨rfl, hba⟩
  have HA := Lib.hid hba
  clear hba
  go_wp2_with fail
  refine (KN.out _).mono ?_
  rintro e wb ⟨rfl, rfl⟩
  have ix := makeB n (by omega) wa
  rcases (show n < 2 ∨ n = 2 ∨ 2 < n by omega) with q | rfl | q
  · have g5 : decide ((n : Int) < 2) = true := decide_eq_true (by omega)
    have g6 : decide ((2 : Int) < (n : Int)) = false := decide_eq_false (by omega)
    go_wp2_with fail
    have M1 := Lib.hid (Bx.new wa (madeCells #[.int .u8 0] n) 5)
    have BM := Lib.hid (HA.out.alloc HA.out.size (.cells (madeCells #[.int .u8 0] n) 5))
    generalize World.alloc wa _ = WM at *
    clear ix
    refine (readShort (E := E) 0 (some ⟨wa.heap.size, 0, none⟩) n n q _ (HE.out.below BM.out)).mono ?_
    rintro e w1 ⟨rfl, hb⟩
    have B1 := Lib.hid (BM.out.trans (hb.mono BM.out.size))
    clear hb BM M1
    go_upto_region 7 with fail
    go_wp2_with fail
    have S1 := Lib.hid (Bx.new w1 #[.int .u8 1, .int .u8 1] 5)
    have BS := Lib.hid (B1.out.alloc B1.out.size (.cells #[.int .u8 1, .int .u8 1] 5))
    generalize World.alloc w1 _ = WS at *
    by_cases h80 : a0 = 80
    · subst h80
      refine (readGood 0 1 1 w1.heap.size 2 (by omega) (by omega) (by decide) _ (S1.out.cell 0 rfl) (S1.out.cell 1 rfl)).mono ?_
      rintro e w2 ⟨rfl, hb⟩
      have B2 := Lib.hid (BS.out.trans (hb.mono BS.out.size))
      clear hb BS S1 B1
      go_upto_region 8 with fail
      go_wp2_with fail
      have S3 := Lib.hid (Bx.new w2 #[.int .u8 a2, .int .u8 a3] 5)
      have B3 := Lib.hid (B2.out.alloc B2.out.size (.cells #[.int .u8 a2, .int .u8 a3] 5))
      generalize World.alloc w2 _ = W3 at *
      generalize hk : kn a2 a3 = K
      cases K
      · refine (readNo (E := E) 0 a2 a3 w2.heap.size 2 b2 b3 hk _ (HE.out.below B3.out) (S3.out.cell 0 rfl) (S3.out.cell 1 rfl)).mono ?_
        rintro e w4 ⟨rfl, hb⟩
        have B4 := Lib.hid (B3.out.trans (hb.mono B3.out.size))
        have hno : a2 < 1 ∨ (1 ≤ a2 ∧ 5 < a2) ∨ (1 ≤ a2 ∧ a2 ≤ 5 ∧ 1 < a3) := by
          unfold kn at hk
          by_cases q1 : 1 ≤ a2
          · by_cases q2 : a2 ≤ 5
            · simp [q1, q2] at hk; omega
            · omega
          · omega
        clear hb B3 S3 hk
        go_upto_region 9 with fail
        go_cut [20] (fun s wx => s = .bool false ∧ wx = w4)
        case first =>
          rcases hno with q | ⟨q, q2⟩ | ⟨q, q2, q3⟩
          · have g1 : decide (1 ≤ a2) = false := decide_eq_false (by omega)
            go_wp2_with fail
            go_meet
            exact ⟨rfl, rfl⟩
          · have g1 : decide (1 ≤ a2) = true := decide_eq_true (by omega)
            have g2 : decide (a2 ≤ 5) = false := decide_eq_false (by omega)
            go_wp2_with fail
            go_meet
            exact ⟨rfl, rfl⟩
          · have g1 : decide (1 ≤ a2) = true := decide_eq_true (by omega)
            have g2 : decide (a2 ≤ 5) = true := decide_eq_true (by omega)
            have g3 : decide (a3 ≤ 1) = false := decide_eq_false (by omega)
            go_wp2_with fail
            go_meet
            exact ⟨rfl, rfl⟩
        case rest =>
        obtain ⟨rfl, rfl⟩ := hcut
        go_wp2_with fail
        refine (isC (HE.out.below B4.out) (.bare 2 (by omega))).mono ?_
        rintro e w5 ⟨rfl, hb⟩
        have B5 := Lib.hid (B4.out.trans (hb.mono B4.out.size))
        clear hb
        go_wp2_with fail
        go_returns
        exact ⟨rfl, B5.out⟩
      · refine (readGood 0 a2 a3 w2.heap.size 2 b2 b3 hk _ (S3.out.cell 0 rfl) (S3.out.cell 1 rfl)).mono ?_
        rintro e w4 ⟨rfl, hb⟩
        have B4 := Lib.hid (B3.out.trans (hb.mono B3.out.size))
        have hk2 : (1 ≤ a2 ∧ a2 ≤ 5) ∧ (a3 = 0 ∨ a3 = 1) := by
          unfold kn at hk
          simpa using hk
        have g1 : decide (1 ≤ a2) = true := decide_eq_true (by omega)
        have g2 : decide (a2 ≤ 5) = true := decide_eq_true (by omega)
        have g3 : decide (a3 ≤ 1) = true := decide_eq_true (by omega)
        have e1 : (a2 == a2) = true := by simp
        have e2 : (a3 == a3) = true := by simp
        have v1 : IntKind.i64.wrap a2 = a2 := IntWalk.i64_in _ (by omega)
        have v2 : IntKind.i64.wrap a3 = a3 := IntWalk.i64_in _ (by omega)
        clear hb B3 S3 hk hk2
        go_wp2_with fail
        refine (isC (HE.out.below B4.out) (.bare 2 (by omega))).mono ?_
        rintro e w5 ⟨rfl, hb⟩
        have B5 := Lib.hid (B4.out.trans (hb.mono B4.out.size))
        clear hb
        go_wp2_with fail
        go_returns
        exact ⟨rfl, B5.out⟩
    · have e80 : (a0 == 80) = false := by rw [beq_eq_false_iff_ne]; exact h80
      refine (readId (E := E) a0 0 (some ⟨w1.heap.size, 0, none⟩) 2 2 h80 _ (HE.out.below BS.out)).mono ?_
      rintro e w2 ⟨rfl, hb⟩
      have B2 := Lib.hid (BS.out.trans (hb.mono BS.out.size))
      clear hb BS S1 B1
      go_upto_region 8 with fail
      go_wp2_with fail
      have S3 := Lib.hid (Bx.new w2 #[.int .u8 a2, .int .u8 a3] 5)
      have B3 := Lib.hid (B2.out.alloc B2.out.size (.cells #[.int .u8 a2, .int .u8 a3] 5))
      generalize World.alloc w2 _ = W3 at *
      generalize hk : kn a2 a3 = K
      cases K
      · refine (readNo (E := E) 0 a2 a3 w2.heap.size 2 b2 b3 hk _ (HE.out.below B3.out) (S3.out.cell 0 rfl) (S3.out.cell 1 rfl)).mono ?_
        rintro e w4 ⟨rfl, hb⟩
        have B4 := Lib.hid (B3.out.trans (hb.mono B3.out.size))
        have hno : a2 < 1 ∨ (1 ≤ a2 ∧ 5 < a2) ∨ (1 ≤ a2 ∧ a2 ≤ 5 ∧ 1 < a3) := by
          unfold kn at hk
          by_cases q1 : 1 ≤ a2
          · by_cases q2 : a2 ≤ 5
            · simp [q1, q2] at hk; omega
            · omega
          · omega
        clear hb B3 S3 hk
        go_upto_region 9 with fail
        go_cut [20] (fun s wx => s = .bool false ∧ wx = w4)
        case first =>
          rcases hno with q | ⟨q, q2⟩ | ⟨q, q2, q3⟩
          · have g1 : decide (1 ≤ a2) = false := decide_eq_false (by omega)
            go_wp2_with fail
            go_meet
            exact ⟨rfl, rfl⟩
          · have g1 : decide (1 ≤ a2) = true := decide_eq_true (by omega)
            have g2 : decide (a2 ≤ 5) = false := decide_eq_false (by omega)
            go_wp2_with fail
            go_meet
            exact ⟨rfl, rfl⟩
          · have g1 : decide (1 ≤ a2) = true := decide_eq_true (by omega)
            have g2 : decide (a2 ≤ 5) = true := decide_eq_true (by omega)
            have g3 : decide (a3 ≤ 1) = false := decide_eq_false (by omega)
            go_wp2_with fail
            go_meet
            exact ⟨rfl, rfl⟩
        case rest =>
        obtain ⟨rfl, rfl⟩ := hcut
        go_wp2_with fail
        refine (isC (HE.out.below B4.out) (.bare 2 (by omega))).mono ?_
        rintro e w5 ⟨rfl, hb⟩
        have B5 := Lib.hid (B4.out.trans (hb.mono B4.out.size))
        clear hb
        go_wp2_with fail
        go_returns
        exact ⟨rfl, B5.out⟩
      · refine (readGood 0 a2 a3 w2.heap.size 2 b2 b3 hk _ (S3.out.cell 0 rfl) (S3.out.cell 1 rfl)).mono ?_
        rintro e w4 ⟨rfl, hb⟩
        have B4 := Lib.hid (B3.out.trans (hb.mono B3.out.size))
        have hk2 : (1 ≤ a2 ∧ a2 ≤ 5) ∧ (a3 = 0 ∨ a3 = 1) := by
          unfold kn at hk
          simpa using hk
        have g1 : decide (1 ≤ a2) = true := decide_eq_true (by omega)
        have g2 : decide (a2 ≤ 5) = true := decide_eq_true (by omega)
        have g3 : decide (a3 ≤ 1) = true := decide_eq_true (by omega)
        have e1 : (a2 == a2) = true := by simp
        have e2 : (a3 == a3) = true := by simp
        have v1 : IntKind.i64.wrap a2 = a2 := IntWalk.i64_in _ (by omega)
        have v2 : IntKind.i64.wrap a3 = a3 := IntWalk.i64_in _ (by omega)
        clear hb B3 S3 hk hk2
        go_wp2_with fail
        refine (isC (HE.out.below B4.out) (.bare 2 (by omega))).mono ?_
        rintro e w5 ⟨rfl, hb⟩
        have B5 := Lib.hid (B4.out.trans (hb.mono B4.out.size))
        clear hb
        go_wp2_with fail
        go_returns
        exact ⟨rfl, B5.out⟩
  · have ix2 : (Instr.makeSlice 22 (.int .i64 2) (.int .i64 2)).run Tryd.prog wa = .ok (.slice (some ⟨wa.heap.size, 0, none⟩) 2 2) (wa.alloc (.cells (madeCells #[.int .u8 0] 2) 5)) := makeB 2 (by omega) wa
    go_wp2_with fail
    have M1 := Lib.hid (Bx.new wa (madeCells #[.int .u8 0] 2) 5)
    have BM := Lib.hid (HA.out.alloc HA.out.size (.cells (madeCells #[.int .u8 0] 2) 5))
    generalize World.alloc wa _ = WM at *
    clear ix
    refine (readNo (E := E) 0 0 0 wa.heap.size 2 (by omega) (by omega) (by decide) _ (HE.out.below BM.out) (M1.out.cell 0 (by kernel_rfl)) (M1.out.cell 1 (by kernel_rfl))).mono ?_
    rintro e w1 ⟨rfl, hb⟩
    have B1 := Lib.hid (BM.out.trans (hb.mono BM.out.size))
    clear hb BM M1
    go_upto_region 7 with fail
    go_wp2_with fail
    have S1 := Lib.hid (Bx.new w1 #[.int .u8 1, .int .u8 1] 5)
    have BS := Lib.hid (B1.out.alloc B1.out.size (.cells #[.int .u8 1, .int .u8 1] 5))
    generalize World.alloc w1 _ = WS at *
    by_cases h80 : a0 = 80
    · subst h80
      refine (readGood 0 1 1 w1.heap.size 2 (by omega) (by omega) (by decide) _ (S1.out.cell 0 rfl) (S1.out.cell 1 rfl)).mono ?_
      rintro e w2 ⟨rfl, hb⟩
      have B2 := Lib.hid (BS.out.trans (hb.mono BS.out.size))
      clear hb BS S1 B1
      go_upto_region 8 with fail
      go_wp2_with fail
      have S3 := Lib.hid (Bx.new w2 #[.int .u8 a2, .int .u8 a3] 5)
      have B3 := Lib.hid (B2.out.alloc B2.out.size (.cells #[.int .u8 a2, .int .u8 a3] 5))
      generalize World.alloc w2 _ = W3 at *
      generalize hk : kn a2 a3 = K
      cases K
      · refine (readNo (E := E) 0 a2 a3 w2.heap.size 2 b2 b3 hk _ (HE.out.below B3.out) (S3.out.cell 0 rfl) (S3.out.cell 1 rfl)).mono ?_
        rintro e w4 ⟨rfl, hb⟩
        have B4 := Lib.hid (B3.out.trans (hb.mono B3.out.size))
        have hno : a2 < 1 ∨ (1 ≤ a2 ∧ 5 < a2) ∨ (1 ≤ a2 ∧ a2 ≤ 5 ∧ 1 < a3) := by
          unfold kn at hk
          by_cases q1 : 1 ≤ a2
          · by_cases q2 : a2 ≤ 5
            · simp [q1, q2] at hk; omega
            · omega
          · omega
        clear hb B3 S3 hk
        go_upto_region 9 with fail
        go_cut [20] (fun s wx => s = .bool false ∧ wx = w4)
        case first =>
          rcases hno with q | ⟨q, q2⟩ | ⟨q, q2, q3⟩
          · have g1 : decide (1 ≤ a2) = false := decide_eq_false (by omega)
            go_wp2_with fail
            go_meet
            exact ⟨rfl, rfl⟩
          · have g1 : decide (1 ≤ a2) = true := decide_eq_true (by omega)
            have g2 : decide (a2 ≤ 5) = false := decide_eq_false (by omega)
            go_wp2_with fail
            go_meet
            exact ⟨rfl, rfl⟩
          · have g1 : decide (1 ≤ a2) = true := decide_eq_true (by omega)
            have g2 : decide (a2 ≤ 5) = true := decide_eq_true (by omega)
            have g3 : decide (a3 ≤ 1) = false := decide_eq_false (by omega)
            go_wp2_with fail
            go_meet
            exact ⟨rfl, rfl⟩
        case rest =>
        obtain ⟨rfl, rfl⟩ := hcut
        go_wp2_with fail
        refine (isC (HE.out.below B4.out) (.bare 0 (by omega))).mono ?_
        rintro e w5 ⟨rfl, hb⟩
        have B5 := Lib.hid (B4.out.trans (hb.mono B4.out.size))
        clear hb
        go_wp2_with fail
        go_returns
        exact ⟨rfl, B5.out⟩
      · refine (readGood 0 a2 a3 w2.heap.size 2 b2 b3 hk _ (S3.out.cell 0 rfl) (S3.out.cell 1 rfl)).mono ?_
        rintro e w4 ⟨rfl, hb⟩
        have B4 := Lib.hid (B3.out.trans (hb.mono B3.out.size))
        have hk2 : (1 ≤ a2 ∧ a2 ≤ 5) ∧ (a3 = 0 ∨ a3 = 1) := by
          unfold kn at hk
          simpa using hk
        have g1 : decide (1 ≤ a2) = true := decide_eq_true (by omega)
        have g2 : decide (a2 ≤ 5) = true := decide_eq_true (by omega)
        have g3 : decide (a3 ≤ 1) = true := decide_eq_true (by omega)
        have e1 : (a2 == a2) = true := by simp
        have e2 : (a3 == a3) = true := by simp
        have v1 : IntKind.i64.wrap a2 = a2 := IntWalk.i64_in _ (by omega)
        have v2 : IntKind.i64.wrap a3 = a3 := IntWalk.i64_in _ (by omega)
        clear hb B3 S3 hk hk2
        go_wp2_with fail
        refine (isC (HE.out.below B4.out) (.bare 0 (by omega))).mono ?_
        rintro e w5 ⟨rfl, hb⟩
        have B5 := Lib.hid (B4.out.trans (hb.mono B4.out.size))
        clear hb
        go_wp2_with fail
        go_returns
        exact ⟨rfl, B5.out⟩
    · have e80 : (a0 == 80) = false := by rw [beq_eq_false_iff_ne]; exact h80
      refine (readId (E := E) a0 0 (some ⟨w1.heap.size, 0, none⟩) 2 2 h80 _ (HE.out.below BS.out)).mono ?_
      rintro e w2 ⟨rfl, hb⟩
      have B2 := Lib.hid (BS.out.trans (hb.mono BS.out.size))
      clear hb BS S1 B1
      go_upto_region 8 with fail
      go_wp2_with fail
      have S3 := Lib.hid (Bx.new w2 #[.int .u8 a2, .int .u8 a3] 5)
      have B3 := Lib.hid (B2.out.alloc B2.out.size (.cells #[.int .u8 a2, .int .u8 a3] 5))
      generalize World.alloc w2 _ = W3 at *
      generalize hk : kn a2 a3 = K
      cases K
      · refine (readNo (E := E) 0 a2 a3 w2.heap.size 2 b2 b3 hk _ (HE.out.below B3.out) (S3.out.cell 0 rfl) (S3.out.cell 1 rfl)).mono ?_
        rintro e w4 ⟨rfl, hb⟩
        have B4 := Lib.hid (B3.out.trans (hb.mono B3.out.size))
        have hno : a2 < 1 ∨ (1 ≤ a2 ∧ 5 < a2) ∨ (1 ≤ a2 ∧ a2 ≤ 5 ∧ 1 < a3) := by
          unfold kn at hk
          by_cases q1 : 1 ≤ a2
          · by_cases q2 : a2 ≤ 5
            · simp [q1, q2] at hk; omega
            · omega
          · omega
        clear hb B3 S3 hk
        go_upto_region 9 with fail
        go_cut [20] (fun s wx => s = .bool false ∧ wx = w4)
        case first =>
          rcases hno with q | ⟨q, q2⟩ | ⟨q, q2, q3⟩
          · have g1 : decide (1 ≤ a2) = false := decide_eq_false (by omega)
            go_wp2_with fail
            go_meet
            exact ⟨rfl, rfl⟩
          · have g1 : decide (1 ≤ a2) = true := decide_eq_true (by omega)
            have g2 : decide (a2 ≤ 5) = false := decide_eq_false (by omega)
            go_wp2_with fail
            go_meet
            exact ⟨rfl, rfl⟩
          · have g1 : decide (1 ≤ a2) = true := decide_eq_true (by omega)
            have g2 : decide (a2 ≤ 5) = true := decide_eq_true (by omega)
            have g3 : decide (a3 ≤ 1) = false := decide_eq_false (by omega)
            go_wp2_with fail
            go_meet
            exact ⟨rfl, rfl⟩
        case rest =>
        obtain ⟨rfl, rfl⟩ := hcut
        go_wp2_with fail
        refine (isC (HE.out.below B4.out) (.bare 0 (by omega))).mono ?_
        rintro e w5 ⟨rfl, hb⟩
        have B5 := Lib.hid (B4.out.trans (hb.mono B4.out.size))
        clear hb
        go_wp2_with fail
        go_returns
        exact ⟨rfl, B5.out⟩
      · refine (readGood 0 a2 a3 w2.heap.size 2 b2 b3 hk _ (S3.out.cell 0 rfl) (S3.out.cell 1 rfl)).mono ?_
        rintro e w4 ⟨rfl, hb⟩
        have B4 := Lib.hid (B3.out.trans (hb.mono B3.out.size))
        have hk2 : (1 ≤ a2 ∧ a2 ≤ 5) ∧ (a3 = 0 ∨ a3 = 1) := by
          unfold kn at hk
          simpa using hk
        have g1 : decide (1 ≤ a2) = true := decide_eq_true (by omega)
        have g2 : decide (a2 ≤ 5) = true := decide_eq_true (by omega)
        have g3 : decide (a3 ≤ 1) = true := decide_eq_true (by omega)
        have e1 : (a2 == a2) = true := by simp
        have e2 : (a3 == a3) = true := by simp
        have v1 : IntKind.i64.wrap a2 = a2 := IntWalk.i64_in _ (by omega)
        have v2 : IntKind.i64.wrap a3 = a3 := IntWalk.i64_in _ (by omega)
        clear hb B3 S3 hk hk2
        go_wp2_with fail
        refine (isC (HE.out.below B4.out) (.bare 0 (by omega))).mono ?_
        rintro e w5 ⟨rfl, hb⟩
        have B5 := Lib.hid (B4.out.trans (hb.mono B4.out.size))
        clear hb
        go_wp2_with fail
        go_returns
        exact ⟨rfl, B5.out⟩
  · have g5 : decide ((n : Int) < 2) = false := decide_eq_false (by omega)
    have g6 : decide ((2 : Int) < (n : Int)) = true := decide_eq_true (by omega)
    go_wp2_with fail
    have M1 := Lib.hid (Bx.new wa (madeCells #[.int .u8 0] n) 5)
    have BM := Lib.hid (HA.out.alloc HA.out.size (.cells (madeCells #[.int .u8 0] n) 5))
    generalize World.alloc wa _ = WM at *
    clear ix
    refine (readLong (E := E) 0 (some ⟨wa.heap.size, 0, none⟩) n n q _ (HE.out.below BM.out)).mono ?_
    rintro e w1 ⟨rfl, hb⟩
    have B1 := Lib.hid (BM.out.trans (hb.mono BM.out.size))
    clear hb BM M1
    go_upto_region 7 with fail
    go_wp2_with fail
    have S1 := Lib.hid (Bx.new w1 #[.int .u8 1, .int .u8 1] 5)
    have BS := Lib.hid (B1.out.alloc B1.out.size (.cells #[.int .u8 1, .int .u8 1] 5))
    generalize World.alloc w1 _ = WS at *
    by_cases h80 : a0 = 80
    · subst h80
      refine (readGood 0 1 1 w1.heap.size 2 (by omega) (by omega) (by decide) _ (S1.out.cell 0 rfl) (S1.out.cell 1 rfl)).mono ?_
      rintro e w2 ⟨rfl, hb⟩
      have B2 := Lib.hid (BS.out.trans (hb.mono BS.out.size))
      clear hb BS S1 B1
      go_upto_region 8 with fail
      go_wp2_with fail
      have S3 := Lib.hid (Bx.new w2 #[.int .u8 a2, .int .u8 a3] 5)
      have B3 := Lib.hid (B2.out.alloc B2.out.size (.cells #[.int .u8 a2, .int .u8 a3] 5))
      generalize World.alloc w2 _ = W3 at *
      generalize hk : kn a2 a3 = K
      cases K
      · refine (readNo (E := E) 0 a2 a3 w2.heap.size 2 b2 b3 hk _ (HE.out.below B3.out) (S3.out.cell 0 rfl) (S3.out.cell 1 rfl)).mono ?_
        rintro e w4 ⟨rfl, hb⟩
        have B4 := Lib.hid (B3.out.trans (hb.mono B3.out.size))
        have hno : a2 < 1 ∨ (1 ≤ a2 ∧ 5 < a2) ∨ (1 ≤ a2 ∧ a2 ≤ 5 ∧ 1 < a3) := by
          unfold kn at hk
          by_cases q1 : 1 ≤ a2
          · by_cases q2 : a2 ≤ 5
            · simp [q1, q2] at hk; omega
            · omega
          · omega
        clear hb B3 S3 hk
        go_upto_region 9 with fail
        go_cut [20] (fun s wx => s = .bool false ∧ wx = w4)
        case first =>
          rcases hno with q | ⟨q, q2⟩ | ⟨q, q2, q3⟩
          · have g1 : decide (1 ≤ a2) = false := decide_eq_false (by omega)
            go_wp2_with fail
            go_meet
            exact ⟨rfl, rfl⟩
          · have g1 : decide (1 ≤ a2) = true := decide_eq_true (by omega)
            have g2 : decide (a2 ≤ 5) = false := decide_eq_false (by omega)
            go_wp2_with fail
            go_meet
            exact ⟨rfl, rfl⟩
          · have g1 : decide (1 ≤ a2) = true := decide_eq_true (by omega)
            have g2 : decide (a2 ≤ 5) = true := decide_eq_true (by omega)
            have g3 : decide (a3 ≤ 1) = false := decide_eq_false (by omega)
            go_wp2_with fail
            go_meet
            exact ⟨rfl, rfl⟩
        case rest =>
        obtain ⟨rfl, rfl⟩ := hcut
        go_wp2_with fail
        refine (isC (HE.out.below B4.out) (.bare 1 (by omega))).mono ?_
        rintro e w5 ⟨rfl, hb⟩
        have B5 := Lib.hid (B4.out.trans (hb.mono B4.out.size))
        clear hb
        go_wp2_with fail
        go_returns
        exact ⟨rfl, B5.out⟩
      · refine (readGood 0 a2 a3 w2.heap.size 2 b2 b3 hk _ (S3.out.cell 0 rfl) (S3.out.cell 1 rfl)).mono ?_
        rintro e w4 ⟨rfl, hb⟩
        have B4 := Lib.hid (B3.out.trans (hb.mono B3.out.size))
        have hk2 : (1 ≤ a2 ∧ a2 ≤ 5) ∧ (a3 = 0 ∨ a3 = 1) := by
          unfold kn at hk
          simpa using hk
        have g1 : decide (1 ≤ a2) = true := decide_eq_true (by omega)
        have g2 : decide (a2 ≤ 5) = true := decide_eq_true (by omega)
        have g3 : decide (a3 ≤ 1) = true := decide_eq_true (by omega)
        have e1 : (a2 == a2) = true := by simp
        have e2 : (a3 == a3) = true := by simp
        have v1 : IntKind.i64.wrap a2 = a2 := IntWalk.i64_in _ (by omega)
        have v2 : IntKind.i64.wrap a3 = a3 := IntWalk.i64_in _ (by omega)
        clear hb B3 S3 hk hk2
        go_wp2_with fail
        refine (isC (HE.out.below B4.out) (.bare 1 (by omega))).mono ?_
        rintro e w5 ⟨rfl, hb⟩
        have B5 := Lib.hid (B4.out.trans (hb.mono B4.out.size))
        clear hb
        go_wp2_with fail
        go_returns
        exact ⟨rfl, B5.out⟩
    · have e80 : (a0 == 80) = false := by rw [beq_eq_false_iff_ne]; exact h80
      refine (readId (E := E) a0 0 (some ⟨w1.heap.size, 0, none⟩) 2 2 h80 _ (HE.out.below BS.out)).mono ?_
      rintro e w2 ⟨rfl, hb⟩
      have B2 := Lib.hid (BS.out.trans (hb.mono BS.out.size))
      clear hb BS S1 B1
      go_upto_region 8 with fail
      go_wp2_with fail
      have S3 := Lib.hid (Bx.new w2 #[.int .u8 a2, .int .u8 a3] 5)
      have B3 := Lib.hid (B2.out.alloc B2.out.size (.cells #[.int .u8 a2, .int .u8 a3] 5))
      generalize World.alloc w2 _ = W3 at *
      generalize hk : kn a2 a3 = K
      cases K
      · refine (readNo (E := E) 0 a2 a3 w2.heap.size 2 b2 b3 hk _ (HE.out.below B3.out) (S3.out.cell 0 rfl) (S3.out.cell 1 rfl)).mono ?_
        rintro e w4 ⟨rfl, hb⟩
        have B4 := Lib.hid (B3.out.trans (hb.mono B3.out.size))
        have hno : a2 < 1 ∨ (1 ≤ a2 ∧ 5 < a2) ∨ (1 ≤ a2 ∧ a2 ≤ 5 ∧ 1 < a3) := by
          unfold kn at hk
          by_cases q1 : 1 ≤ a2
          · by_cases q2 : a2 ≤ 5
            · simp [q1, q2] at hk; omega
            · omega
          · omega
        clear hb B3 S3 hk
        go_upto_region 9 with fail
        go_cut [20] (fun s wx => s = .bool false ∧ wx = w4)
        case first =>
          rcases hno with q | ⟨q, q2⟩ | ⟨q, q2, q3⟩
          · have g1 : decide (1 ≤ a2) = false := decide_eq_false (by omega)
            go_wp2_with fail
            go_meet
            exact ⟨rfl, rfl⟩
          · have g1 : decide (1 ≤ a2) = true := decide_eq_true (by omega)
            have g2 : decide (a2 ≤ 5) = false := decide_eq_false (by omega)
            go_wp2_with fail
            go_meet
            exact ⟨rfl, rfl⟩
          · have g1 : decide (1 ≤ a2) = true := decide_eq_true (by omega)
            have g2 : decide (a2 ≤ 5) = true := decide_eq_true (by omega)
            have g3 : decide (a3 ≤ 1) = false := decide_eq_false (by omega)
            go_wp2_with fail
            go_meet
            exact ⟨rfl, rfl⟩
        case rest =>
        obtain ⟨rfl, rfl⟩ := hcut
        go_wp2_with fail
        refine (isC (HE.out.below B4.out) (.bare 1 (by omega))).mono ?_
        rintro e w5 ⟨rfl, hb⟩
        have B5 := Lib.hid (B4.out.trans (hb.mono B4.out.size))
        clear hb
        go_wp2_with fail
        go_returns
        exact ⟨rfl, B5.out⟩
      · refine (readGood 0 a2 a3 w2.heap.size 2 b2 b3 hk _ (S3.out.cell 0 rfl) (S3.out.cell 1 rfl)).mono ?_
        rintro e w4 ⟨rfl, hb⟩
        have B4 := Lib.hid (B3.out.trans (hb.mono B3.out.size))
        have hk2 : (1 ≤ a2 ∧ a2 ≤ 5) ∧ (a3 = 0 ∨ a3 = 1) := by
          unfold kn at hk
          simpa using hk
        have g1 : decide (1 ≤ a2) = true := decide_eq_true (by omega)
        have g2 : decide (a2 ≤ 5) = true := decide_eq_true (by omega)
        have g3 : decide (a3 ≤ 1) = true := decide_eq_true (by omega)
        have e1 : (a2 == a2) = true := by simp
        have e2 : (a3 == a3) = true := by simp
        have v1 : IntKind.i64.wrap a2 = a2 := IntWalk.i64_in _ (by omega)
        have v2 : IntKind.i64.wrap a3 = a3 := IntWalk.i64_in _ (by omega)
        clear hb B3 S3 hk hk2
        go_wp2_with fail
        refine (isC (HE.out.below B4.out) (.bare 1 (by omega))).mono ?_
        rintro e w5 ⟨rfl, hb⟩
        have B5 := Lib.hid (B4.out.trans (hb.mono B4.out.size))
        clear hb
        go_wp2_with fail
        go_returns
        exact ⟨rfl, B5.out⟩
end Go.Proofs.YtiiomiekjlggfaaDoor
