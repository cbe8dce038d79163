/- What the document's flags are, and the first examples. Conditions: each cell's volts are from 0 to 6000. -/
import Derived.Test.YtomjhoaffbjkgaaCellF
namespace Go.Proofs.Ytomjhoaffbjkgaa
open Go.RowKit
set_option linter.unusedVariables false
theorem cells8 {w : World} {B : Nat} {v : Nat → Int} {f : Nat → Bool} {t : TypeId} (h : w.heap[B]? = some (.cells (cellsA v f) t (0, 0))) (k : Nat) (hk : k < 4) :
    w.cell? ⟨B, k * 2, none⟩ = some (.int .i64 (v k)) ∧ w.cell? ⟨B, k * 2 + 1, none⟩ = some (.bool (f k)) := by
  refine ⟨(cell_of_row w B _ _ _ _ h).trans ?_, (cell_of_row w B _ _ _ _ h).trans ?_⟩
  · obtain rfl | rfl | rfl | rfl : k = 0 ∨ k = 1 ∨ k = 2 ∨ k = 3 := by omega
    all_goals rfl
  · obtain rfl | rfl | rfl | rfl : k = 0 ∨ k = 1 ∨ k = 2 ∨ k = 3 := by omega
    all_goals rfl
set_option maxHeartbeats 8000000 in
theorem refFlagsC (A : Array Value) (mn mx gp tm : Int) (h11 : A[11]? = some (.int .i64 mn)) (h12 : A[12]? = some (.int .i64 mx)) (h13 : A[13]? = some (.int .i64 gp)) (h14 : A[14]? = some (.int .i64 tm))
    (v : Nat → Int) (f : Nat → Bool) (hv : ∀ i, i < 4 → 0 ≤ v i ∧ v i ≤ 6000) (tv : Int) (tf : Bool) (w : World) :
    Calls Try.prog 26 #[.agg A, .agg (cellsA v f), .agg #[.int .i64 tv, .bool tf]] w fun e w' => e = .returned (.int .i64 (flagsL mn mx gp tm (volts v f 4) tv tf)) ∧ Below w.heap.size w w' := by
  have HV := Lib.hid hv
  clear hv
  go_enter Try.func26, Try.ntmps26
  go_upto_region 1 with fail
  generalize hW : World.alloc (World.alloc (World.alloc w _) _) _ = W0
  obtain ⟨r0, r1, r2, hb0, hs0⟩ := boxes3 hW
  clear hW
  have c11 : W0.cell? ⟨w.heap.size, 11, none⟩ = some (.int .i64 mn) := (cell_of_row W0 _ 11 _ _ _ r0).trans h11
  have c12 : W0.cell? ⟨w.heap.size, 12, none⟩ = some (.int .i64 mx) := (cell_of_row W0 _ 12 _ _ _ r0).trans h12
  have c13 : W0.cell? ⟨w.heap.size, 13, none⟩ = some (.int .i64 gp) := (cell_of_row W0 _ 13 _ _ _ r0).trans h13
  have c14 : W0.cell? ⟨w.heap.size, 14, none⟩ = some (.int .i64 tm) := (cell_of_row W0 _ 14 _ _ _ r0).trans h14
  have d0 : W0.cell? ⟨w.heap.size + 2, 0, none⟩ = some (.int .i64 tv) := cell_of_row W0 _ 0 _ _ _ r2
  have d1 : W0.cell? ⟨w.heap.size + 2, 1, none⟩ = some (.bool tf) := cell_of_row W0 _ 1 _ _ _ r2
  have R1 := Lib.hid r1
  have HB := Lib.hid hb0
  clear r0 r1 r2 hb0 hs0 h11 h12 h13 h14
  go_wp2_with fail
  go_loop [8, 9, 10, 11] (fun n lo hi i => ∃ k : Nat, k ≤ 4 ∧ i = .int .i64 k ∧ n = .int .i64 (volts v f k).length ∧ lo = .int .i64 (loL (volts v f k)) ∧ hi = .int .i64 (hiL (volts v f k))) (fun _ _ _ i => 4 - (intOf i).toNat)
  case atStart => exact ⟨0, by omega, rfl, rfl, rfl, rfl⟩
  case round =>
    obtain ⟨k, hk, rfl, rfl, rfl, rfl⟩ := hrel
    by_cases hlt : k < 4
    · obtain ⟨x0, x1⟩ := cells8 R1.out k hlt
      have vb := HV.out k hlt
      have vl := volts_len v f k
      have S1 := Lib.hid (volts_succ v f k)
      have LS := Lib.hid (loL_snoc (volts v f k) (v k))
      have HS := Lib.hid (hiL_snoc (volts v f k) (v k))
      obtain ⟨L, hL⟩ : ∃ L, volts v f k = L := ⟨_, rfl⟩
      rw [hL] at S1 LS HS vl
      rw [hL]
      clear hL
      obtain ⟨fk, hfk⟩ : ∃ b, f k = b := ⟨_, rfl⟩
      rw [hfk] at x1 S1
      clear hfk
      obtain ⟨z, hz⟩ : ∃ b, v k = b := ⟨_, rfl⟩
      rw [hz] at x0 S1 LS HS vb
      clear hz
      cases fk
      · go_wp2_with fail
        go_round
        case rel => exact ⟨k + 1, by omega, by go_num, by rw [S1.out]; rfl, by rw [S1.out]; rfl, by rw [S1.out]; rfl⟩
        case measure => simp [intOf]; omega
      · by_cases hemp : L = []
        · subst hemp
          go_wp2_with fail
          go_round
          case rel => exact ⟨k + 1, by omega, by go_num, by rw [S1.out]; rfl, by rw [S1.out]; rfl, by rw [S1.out]; rfl⟩
          case measure => simp [intOf]; omega
        · have hpos : 0 < L.length := Nat.pos_of_ne_zero fun h => hemp (List.eq_nil_of_length_eq_zero h)
          have e0 : ((L.length : Int) == 0) = false := by rw [beq_eq_false_iff_ne]; omega
          have HE := Lib.hid hemp
          clear hemp
          obtain ⟨a, ha⟩ : ∃ a, loL L = a := ⟨_, rfl⟩
          obtain ⟨b, hb⟩ : ∃ a, hiL L = a := ⟨_, rfl⟩
          rw [ha] at LS
          rw [hb] at HS
          rw [ha, hb]
          clear ha hb
          go_wp2_with fail
          all_goals
            go_round
            case rel => exact ⟨k + 1, by omega, by go_num, by rw [S1.out]; simp, by rw [S1.out, if_pos rfl, LS.out, if_neg HE.out]; exact congrArg (Value.int .i64) (by omega), by rw [S1.out, if_pos rfl, HS.out, if_neg HE.out]; exact congrArg (Value.int .i64) (by omega)⟩
            case measure => simp [intOf]; omega
    · obtain rfl : k = 4 := by omega
      have VM := volts_mem v f (fun z => 0 ≤ z ∧ z ≤ 6000) 4 HV.out
      have hle := volts_len v f 4
      have B1 := loL_bd (volts v f 4) 0 6000 VM
      have B2 := hiL_bd (volts v f 4) 0 6000 VM
      clear VM
      obtain ⟨L, hL⟩ : ∃ L, volts v f 4 = L := ⟨_, rfl⟩
      rw [hL] at hle B1 B2
      rw [hL]
      have HL := Lib.hid hL
      clear hL
      by_cases hemp : L = []
      · subst hemp
        clear B1 B2
        cases tf
        all_goals
          go_wp2_with fail
          all_goals
            go_ret
            refine ⟨ret_i64 ?_, HB.out⟩
            unfold flagsL
            rw [HL.out]
            first
            | rw [decide_eq_true (show true = true ∧ tm < tv from ⟨rfl, by omega⟩)]; rfl
            | rw [decide_eq_false (show ¬ (true = true ∧ tm < tv) by omega)]; rfl
            | rfl
      · have b1 := B1 hemp
        have b2 := B2 hemp
        have hpos : 0 < L.length := Nat.pos_of_ne_zero fun h => hemp (List.eq_nil_of_length_eq_zero h)
        have HE := Lib.hid (show decide (L ≠ [] ∧ loL L < mn) = decide (loL L < mn) ∧ decide (L ≠ [] ∧ mx < hiL L) = decide (mx < hiL L) ∧ decide (L ≠ [] ∧ gp < hiL L - loL L) = decide (gp < hiL L - loL L) by simp [hemp])
        clear hemp B1 B2
        obtain ⟨a, ha⟩ : ∃ a, loL L = a := ⟨_, rfl⟩
        obtain ⟨b, hb⟩ : ∃ a, hiL L = a := ⟨_, rfl⟩
        rw [ha] at b1
        rw [hb] at b2
        rw [ha, hb]
        rw [ha, hb] at HE
        have HA := Lib.hid ha
        have HB' := Lib.hid hb
        clear ha hb
        obtain ⟨n, hn⟩ : ∃ n, L.length = n := ⟨_, rfl⟩
        rw [hn] at hpos hle
        rw [hn]
        have HN := Lib.hid hn
        clear hn
        cases tf
        all_goals
          go_wp2_with fail
          all_goals
            go_ret
            refine ⟨ret_i64 ?_, HB.out⟩
            unfold flagsL
            rw [HL.out, HA.out, HB'.out, HN.out, HE.out.1, HE.out.2.1, HE.out.2.2]
            (first | rw [show decide (a < mn) = true from decide_eq_true (by omega)] | rw [show decide (a < mn) = false from decide_eq_false (by omega)])
            (first | rw [show decide (mx < b) = true from decide_eq_true (by omega)] | rw [show decide (mx < b) = false from decide_eq_false (by omega)])
            (first | rw [show decide (gp < b - a) = true from decide_eq_true (by omega)] | rw [show decide (gp < b - a) = false from decide_eq_false (by omega)])
            (first | rfl | (rw [decide_eq_true (show n < 3 by omega)]; rfl) | skip)
            (first | rw [decide_eq_true (show true = true ∧ tm < tv from ⟨rfl, by omega⟩)] | rw [decide_eq_false (show ¬ (true = true ∧ tm < tv) by omega)] | skip)
            (first | rw [decide_eq_true (show n < 3 ∨ true = false from .inl (by omega))] | rw [decide_eq_false (show ¬ (n < 3 ∨ true = false) by simp; omega)] | skip)
            first | rfl | (rw [decide_eq_false (show ¬ (false = true ∧ tm < tv) by simp), decide_eq_true (show n < 3 ∨ false = false from .inr rfl)]; rfl)
end Go.Proofs.Ytomjhoaffbjkgaa
