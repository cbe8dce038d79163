/- CellAll holds: each call returns true. Conditions: the arguments are numbers of 64 bits. -/
import Derived.Test.YtomjhoaffbjkgaaCellO
import Derived.Deep.CutBlock
import Derived.Test.YtomjhoaffbjkgaaReach
namespace Go.Proofs.Ytomjhoaffbjkgaa
open Go.RowKit
set_option linter.unusedVariables false
def anyB (p : Nat → Bool) : Nat → Bool
  | 0 => false
  | k + 1 => anyB p k || p k
def far (v : Nat → Int) (b a : Nat) : Bool := decide (300 < v b - v a) || decide (300 < v a - v b)
def gapB (v : Nat → Int) : Nat → Bool := anyB fun b => anyB (far v b) b
def lowB (v : Nat → Int) : Nat → Bool := anyB fun j => decide (v j < 3000)
def highB (v : Nat → Int) : Nat → Bool := anyB fun j => decide (4200 < v j)
theorem or1 (u o g : Bool) : bits .or .i64 (fl u o g false false) 1 = fl true o g false false := by cases u <;> cases o <;> cases g <;> rfl
theorem or2 (u o g : Bool) : bits .or .i64 (fl u o g false false) 2 = fl u true g false false := by cases u <;> cases o <;> cases g <;> rfl
theorem or4 (u o g : Bool) : bits .or .i64 (fl u o g false false) 4 = fl u o true false false := by cases u <;> cases o <;> cases g <;> rfl
theorem flagsAll (v : Nat → Int) : flagsL 3000 4200 300 600 (volts v (fun _ => true) 4) 1 true = fl (lowB v 4) (highB v 4) (gapB v 4) false false := by
  simp only [volts, flagsL, loL, hiL, if_true, List.nil_append, List.cons_append, List.foldl, List.length]
  refine fl_eq ?_ ?_ ?_ (by decide) (by decide)
  · simp only [lowB, anyB, Bool.false_or, ← Bool.decide_or]
    exact decide_eq_decide.2 (by simp; omega)
  · simp only [highB, anyB, Bool.false_or, ← Bool.decide_or]
    exact decide_eq_decide.2 (by simp; omega)
  · simp only [gapB, anyB, far, Bool.false_or, ← Bool.decide_or]
    exact decide_eq_decide.2 (by simp; omega)
theorem vals4 {w : World} {B : Nat} {v : Nat → Int} {t : TypeId} (h : w.heap[B]? = some (.cells #[.int .i64 (v 0), .int .i64 (v 1), .int .i64 (v 2), .int .i64 (v 3)] t (0, 0))) (k : Nat) (hk : k < 4) : w.cell? ⟨B, k, none⟩ = some (.int .i64 (v k)) := by
  refine (cell_of_row w B _ _ _ _ h).trans ?_
  obtain rfl | rfl | rfl | rfl : k = 0 ∨ k = 1 ∨ k = 2 ∨ k = 3 := by omega
  all_goals rfl
set_option maxRecDepth 100000 in
set_option maxHeartbeats 8000000 in
theorem walkCellAll (a0 : Int) (a1 : Int) (a2 : Int) (a3 : Int) (w : World) (w0 : (Lit.int .i64 a0).wf = true) (w1 : (Lit.int .i64 a1).wf = true) (w2 : (Lit.int .i64 a2).wf = true) (w3 : (Lit.int .i64 a3).wf = true) :
    Calls Try.prog 9 #[.int .i64 a0, .int .i64 a1, .int .i64 a2, .int .i64 a3] w fun e w' => e = .returned (.bool true) ∧ Below w.heap.size w w' := by
  clear w0 w1 w2 w3
  have tt : ∀ a : Int, -6000 ≤ a.tmod 6001 ∧ a.tmod 6001 ≤ 6000 := fun a => by
    have h1 := Int.tmod_lt_of_pos (-a) (show (0 : Int) < 6001 by omega)
    have h2 := Int.tmod_lt_of_pos a (show (0 : Int) < 6001 by omega)
    rw [Int.neg_tmod] at h1; omega
  have t0 := tt a0
  have t1 := tt a1
  have t2 := tt a2
  have t3 := tt a3
  clear tt
  go_enter Try.func9, Try.ntmps9
  go_wp2_with fail
  refine (first15 _).mono ?_
  rintro e w1 ⟨rfl, hb⟩
  have BB := Lib.hid hb
  clear hb
  go_wp2_with fail
  refine (configC 0 0 0 _).mono ?_
  rintro e w2 ⟨O, fa, fn, fc, rfl, hO, hv, hb1⟩
  rw [show (0 : Int) % 1048576 = 0 from rfl]
  generalize cfgOf 0 0 0 = c at *
  simp only [cfgV]
  go_wp2_with fail
  refine upon_fresh (by simp) rfl (cfgA_one rfl rfl) ?_
  intro W1 b1 s1' h1
  have bb := hb1.trans (b1.mono hb1.size)
  have F1 := Lib.hid h1
  have F4 := Lib.hid (BB.out.trans (bb.mono BB.out.size))
  clear hb1 b1 s1' h1 bb BB hv hO
  go_upto_region 7 with fail
  obtain ⟨v, hv0, hv1, hv2, hv3, hvb⟩ : ∃ v : Nat → Int, a0.tmod 6001 % 6001 = v 0 ∧ a1.tmod 6001 % 6001 = v 1 ∧ a2.tmod 6001 % 6001 = v 2 ∧ a3.tmod 6001 % 6001 = v 3 ∧ Hid (∀ i, i < 4 → 0 ≤ v i ∧ v i ≤ 6000) :=
    ⟨fun k => if k = 0 then a0.tmod 6001 % 6001 else if k = 1 then a1.tmod 6001 % 6001 else if k = 2 then a2.tmod 6001 % 6001 else a3.tmod 6001 % 6001, rfl, rfl, rfl, rfl, fun i hi => by
      obtain rfl | rfl | rfl | rfl : i = 0 ∨ i = 1 ∨ i = 2 ∨ i = 3 := by omega
      all_goals simp; omega⟩
  simp only [show ∀ a : Int, (a + 6001) % 6001 = a % 6001 from fun a => by omega, hv0, hv1, hv2, hv3]
  clear hv0 hv1 hv2 hv3 t0 t1 t2 t3
  generalize hW : World.alloc (World.alloc W1 _) _ = W2
  have hC : w2.heap.size < W1.heap.size := (Array.getElem?_eq_some_iff.1 F1.out).1
  have hw1 := F4.out.size
  obtain ⟨G1, G2, G3, G4⟩ : Hid (W2.heap[w2.heap.size]? = some (.cells (cfgA c (.slice (some ⟨O, 0, none⟩) 4 4) (.slice fa fn fc)) 34 (0, 0))) ∧ Hid (W2.heap[W1.heap.size + 1]? = some (.cells (cellsA (fun _ => 0) (fun _ => false)) 51 (0, 0))) ∧ Hid (W2.heap[W1.heap.size]? = some (.cells #[.int .i64 (v 0), .int .i64 (v 1), .int .i64 (v 2), .int .i64 (v 3)] 56 (0, 0))) ∧ Hid (Below w.heap.size w W2) := by
    rw [← hW]
    have b2 := boxes2 (w := W1) (A := #[.int .i64 (v 0), .int .i64 (v 1), .int .i64 (v 2), .int .i64 (v 3)]) (B := cellsA (fun _ => 0) (fun _ => false)) (s := 56) (t := 51) (Below.refl _ _)
    exact ⟨Lib.hid ((b2.2.2.1.block _ hC).trans F1.out), Lib.hid b2.2.1, Lib.hid b2.1, Lib.hid (F4.out.trans (b2.2.2.1.mono hw1))⟩
  clear hW F1 F4
  generalize W1.heap.size = L at *
  go_wp2_with fail
  go_loopw [13, 14] (fun s i wr => ∃ (k : Nat) (f : Nat → Int) (q : Nat → Bool), k ≤ 4 ∧ i = .int .i64 k ∧ s = .int .i64 (fl (lowB v k) (highB v k) (gapB v k) false false) ∧ wr.heap[w2.heap.size]? = some (.cells (cfgA c (.slice (some ⟨O, 0, none⟩) 4 4) (.slice fa fn fc)) 34 (0, 0)) ∧ wr.heap[L + 1]? = some (.cells (cellsA f q) 51 (0, 0)) ∧ wr.heap[L]? = some (.cells #[.int .i64 (v 0), .int .i64 (v 1), .int .i64 (v 2), .int .i64 (v 3)] 56 (0, 0)) ∧ Below w.heap.size w wr ∧ Hid (∀ i, i < k → f i = v i ∧ q i = true)) (fun _ i _ => 4 - (intOf i).toNat)
  case atStart => exact ⟨0, _, _, by omega, rfl, rfl, G1.out, G2.out, G3.out, G4.out, fun i hi => by omega⟩
  case round =>
    obtain ⟨k, f, q, hk, rfl, rfl, g1, g2, g3, g4, hfq⟩ := hrel
    have F1 := Lib.hid g1
    have F2 := Lib.hid g2
    have F3 := Lib.hid g3
    have F4 := Lib.hid g4
    clear g1 g2 g3 g4 G1 G2 G3 G4
    have hne : w2.heap.size ≠ L + 1 := by omega
    by_cases hlt : k < 4
    · obtain ⟨x0, x1⟩ := cells8 F2.out k hlt
      have xf := fun j => cells_fr F2.out j
      have y0 := vals4 F3.out k hlt
      go_upto_region 12 with fail
      generalize hW : World.setCell (World.setCell wr _ _) _ _ = W4
      have hq : ∀ i, i < k + 1 → updI f k (v k) i = v i ∧ updB q k true i = true := fun i hi => by
        unfold updI updB
        by_cases hik : i = k
        · subst hik; simp
        · simp only [if_neg hik]; exact hfq.out i (by omega)
      obtain ⟨G1, G2, G3, G4⟩ : Hid (W4.heap[w2.heap.size]? = some (.cells (cfgA c (.slice (some ⟨O, 0, none⟩) 4 4) (.slice fa fn fc)) 34 (0, 0))) ∧ Hid (W4.heap[L + 1]? = some (.cells (cellsA (updI f k (v k)) (updB q k true)) 51 (0, 0))) ∧ Hid (W4.heap[L]? = some (.cells #[.int .i64 (v 0), .int .i64 (v 1), .int .i64 (v 2), .int .i64 (v 3)] 56 (0, 0))) ∧ Hid (Below w.heap.size w W4) := by
        rw [← hW]
        exact ⟨Lib.hid (((heap_setCell_other _ ⟨_, _, _⟩ _ _ hne).trans (heap_setCell_other _ ⟨_, _, _⟩ _ _ hne)).trans F1.out), Lib.hid (cells_put F2.out k hlt (v k) true), Lib.hid (((heap_setCell_other _ ⟨_, _, _⟩ _ _ (show L ≠ L + 1 by omega)).trans (heap_setCell_other _ ⟨_, _, _⟩ _ _ (show L ≠ L + 1 by omega))).trans F3.out), Lib.hid ((F4.out.setCell (p := ⟨L + 1, k * 2, none⟩) (show w.heap.size ≤ L + 1 by omega) _).setCell (p := ⟨L + 1, k * 2 + 1, none⟩) (show w.heap.size ≤ L + 1 by omega) _)⟩
      have HQ := Lib.hid hq
      clear hW F1 F2 F3 F4 x0 x1 xf y0 hq hfq
      generalize updI f k (v k) = f' at *
      generalize updB q k true = q' at *
      have hCZ := (Array.getElem?_eq_some_iff.1 G1.out).1
      have hLZ := (Array.getElem?_eq_some_iff.1 G3.out).1
      have vk := fun d => reach_cell (B := W4.heap.size) (vals4 G3.out k hlt) hLZ d
      have ck := fun d => reach_cell (B := W4.heap.size) (show W4.cell? ⟨w2.heap.size, 11, none⟩ = some (.int .i64 3000) from cell_of_row _ _ 11 _ _ _ G1.out) hCZ d
      refine wp_region_reach W4.heap.size (by kernel_rfl) (by kernel_rfl) ?_
      repeat (go_big_quiet_step (fail))
      refine wpQuiet_nil ?_
      rintro w' ⟨d, rfl⟩
      clear vk ck
      go_upto_if 52 with fail
      go_cut [13] (fun s wx => s = .int .i64 (fl (lowB v (k + 1)) (highB v k) (gapB v k) false false) ∧ wx = reach W4.heap.size W4 d)
      case first =>
        have E1 := Lib.hid (show lowB v (k + 1) = (lowB v k || decide (v k < 3000)) from rfl)
        by_cases hlo : v k < 3000
        · go_wp2_with fail
          go_meet
          rw [E1.out, decide_eq_true hlo, or1, Bool.or_true]
          exact ⟨rfl, rfl⟩
        · go_wp2_with fail
          go_meet
          rw [E1.out, decide_eq_false (show ¬ v k < 3000 by omega), Bool.or_false]
          exact ⟨rfl, rfl⟩
      case rest =>
      obtain ⟨rfl, rfl⟩ := hcut
      obtain ⟨F1, F2, F3, F4, hsz⟩ : Hid ((reach W4.heap.size W4 d).heap[w2.heap.size]? = some (.cells (cfgA c (.slice (some ⟨O, 0, none⟩) 4 4) (.slice fa fn fc)) 34 (0, 0))) ∧ Hid ((reach W4.heap.size W4 d).heap[L + 1]? = some (.cells (cellsA f' q') 51 (0, 0))) ∧ Hid ((reach W4.heap.size W4 d).heap[L]? = some (.cells #[.int .i64 (v 0), .int .i64 (v 1), .int .i64 (v 2), .int .i64 (v 3)] 56 (0, 0))) ∧ Hid (Below w.heap.size w (reach W4.heap.size W4 d)) ∧ W4.heap.size ≤ (reach W4.heap.size W4 d).heap.size := by
        have rb := reach_below W4.heap.size W4 d
        exact ⟨Lib.hid ((rb.block _ hCZ).trans G1.out), Lib.hid ((rb.block _ (Array.getElem?_eq_some_iff.1 G2.out).1).trans G2.out), Lib.hid ((rb.block _ hLZ).trans G3.out), Lib.hid (G4.out.trans (rb.mono G4.out.size)), rb.size⟩
      clear G1 G2 G3 G4
      replace hCZ := Nat.lt_of_lt_of_le hCZ hsz
      replace hLZ := Nat.lt_of_lt_of_le hLZ hsz
      clear hsz
      generalize reach W4.heap.size W4 d = W5 at *
      go_upto_region 14 with fail
      have vk := fun d => reach_cell (B := W5.heap.size) (vals4 F3.out k hlt) hLZ d
      have ck := fun d => reach_cell (B := W5.heap.size) (show W5.cell? ⟨w2.heap.size, 12, none⟩ = some (.int .i64 4200) from cell_of_row _ _ 12 _ _ _ F1.out) hCZ d
      refine wp_region_reach W5.heap.size (by kernel_rfl) (by kernel_rfl) ?_
      repeat (go_big_quiet_step (fail))
      refine wpQuiet_nil ?_
      rintro w' ⟨d, rfl⟩
      clear vk ck
      go_upto_if 60 with fail
      go_cut [13] (fun s wx => s = .int .i64 (fl (lowB v (k + 1)) (highB v (k + 1)) (gapB v k) false false) ∧ wx = reach W5.heap.size W5 d)
      case first =>
        have E1 := Lib.hid (show highB v (k + 1) = (highB v k || decide (4200 < v k)) from rfl)
        by_cases hlo : 4200 < v k
        · go_wp2_with fail
          go_meet
          rw [E1.out, decide_eq_true hlo, or2, Bool.or_true]
          exact ⟨rfl, rfl⟩
        · go_wp2_with fail
          go_meet
          rw [E1.out, decide_eq_false (show ¬ 4200 < v k by omega), Bool.or_false]
          exact ⟨rfl, rfl⟩
      case rest =>
      obtain ⟨rfl, rfl⟩ := hcut
      obtain ⟨G1, G2, G3, G4, hsz⟩ : Hid ((reach W5.heap.size W5 d).heap[w2.heap.size]? = some (.cells (cfgA c (.slice (some ⟨O, 0, none⟩) 4 4) (.slice fa fn fc)) 34 (0, 0))) ∧ Hid ((reach W5.heap.size W5 d).heap[L + 1]? = some (.cells (cellsA f' q') 51 (0, 0))) ∧ Hid ((reach W5.heap.size W5 d).heap[L]? = some (.cells #[.int .i64 (v 0), .int .i64 (v 1), .int .i64 (v 2), .int .i64 (v 3)] 56 (0, 0))) ∧ Hid (Below w.heap.size w (reach W5.heap.size W5 d)) ∧ W5.heap.size ≤ (reach W5.heap.size W5 d).heap.size := by
        have rb := reach_below W5.heap.size W5 d
        exact ⟨Lib.hid ((rb.block _ hCZ).trans F1.out), Lib.hid ((rb.block _ (Array.getElem?_eq_some_iff.1 F2.out).1).trans F2.out), Lib.hid ((rb.block _ hLZ).trans F3.out), Lib.hid (F4.out.trans (rb.mono F4.out.size)), rb.size⟩
      clear F1 F2 F3 F4
      replace hCZ := Nat.lt_of_lt_of_le hCZ hsz
      replace hLZ := Nat.lt_of_lt_of_le hLZ hsz
      clear hsz
      generalize reach W5.heap.size W5 d = W6 at *
      go_wp2_with fail
      obtain ⟨wo, hwo⟩ : ∃ wo : World, wo = wr := ⟨_, rfl⟩
      go_loopw [13, 15] (fun s i wr => ∃ j : Nat, j ≤ k ∧ i = .int .i64 j ∧ s = .int .i64 (fl (lowB v (k + 1)) (highB v (k + 1)) (gapB v k || anyB (far v k) j) false false) ∧ wr.heap[w2.heap.size]? = some (.cells (cfgA c (.slice (some ⟨O, 0, none⟩) 4 4) (.slice fa fn fc)) 34 (0, 0)) ∧ wr.heap[L + 1]? = some (.cells (cellsA f' q') 51 (0, 0)) ∧ wr.heap[L]? = some (.cells #[.int .i64 (v 0), .int .i64 (v 1), .int .i64 (v 2), .int .i64 (v 3)] 56 (0, 0)) ∧ Below w.heap.size w wr) (fun _ i _ => k - (intOf i).toNat)
      case atStart => exact ⟨0, by omega, rfl, by rw [show (gapB v k || anyB (far v k) 0) = gapB v k by simp [anyB]], G1.out, G2.out, G3.out, G4.out⟩
      case round =>
        obtain ⟨j, hj, rfl, rfl, g1, g2, g3, g4⟩ := hrel
        have F1 := Lib.hid g1
        have F2 := Lib.hid g2
        have F3 := Lib.hid g3
        have F4 := Lib.hid g4
        have hCY := (Array.getElem?_eq_some_iff.1 g1).1
        have hLY := (Array.getElem?_eq_some_iff.1 g3).1
        clear g1 g2 g3 g4 G1 G2 G3 G4 hCZ hLZ
        by_cases hl2 : j < k
        · go_upto_region 19 with fail
          have vk := fun d => reach_cell (B := wr.heap.size) (vals4 F3.out k hlt) hLY d
          have vj := fun d => reach_cell (B := wr.heap.size) (vals4 F3.out j (by omega)) hLY d
          have ck := fun d => reach_cell (B := wr.heap.size) (show wr.cell? ⟨w2.heap.size, 13, none⟩ = some (.int .i64 300) from cell_of_row _ _ 13 _ _ _ F1.out) hCY d
          have bk := hvb.out k hlt
          have bj := hvb.out j (by omega)
          have E1 := Lib.hid (show (gapB v k || anyB (far v k) (j + 1)) = ((gapB v k || anyB (far v k) j) || (decide (300 < v k - v j) || decide (300 < v j - v k))) by simp [anyB, far, Bool.or_assoc])
          obtain ⟨z, hz⟩ : ∃ z, v k = z := ⟨_, rfl⟩
          obtain ⟨y, hy⟩ : ∃ z, v j = z := ⟨_, rfl⟩
          rw [hz] at vk
          rw [hy] at vj
          rw [hz] at bk
          rw [hy] at bj
          rw [hz, hy] at E1
          clear hz hy
          have END := Lib.hid fun (d : World) => (show Hid ((reach wr.heap.size wr d).heap[w2.heap.size]? = some (.cells (cfgA c (.slice (some ⟨O, 0, none⟩) 4 4) (.slice fa fn fc)) 34 (0, 0))) ∧ Hid ((reach wr.heap.size wr d).heap[L + 1]? = some (.cells (cellsA f' q') 51 (0, 0))) ∧ Hid ((reach wr.heap.size wr d).heap[L]? = some (.cells #[.int .i64 (v 0), .int .i64 (v 1), .int .i64 (v 2), .int .i64 (v 3)] 56 (0, 0))) ∧ Hid (Below w.heap.size w (reach wr.heap.size wr d)) from by
            have rb := reach_below wr.heap.size wr d
            exact ⟨Lib.hid ((rb.block _ hCY).trans F1.out), Lib.hid ((rb.block _ (Array.getElem?_eq_some_iff.1 F2.out).1).trans F2.out), Lib.hid ((rb.block _ hLY).trans F3.out), Lib.hid (F4.out.trans (rb.mono F4.out.size))⟩)
          by_cases h1 : 300 < z - y
          · refine wp_region_reach wr.heap.size (by kernel_rfl) (by kernel_rfl) ?_
            repeat (go_big_quiet_step (fail))
            refine wpQuiet_nil ?_
            rintro w' ⟨d, rfl⟩
            obtain ⟨G1, G2, G3, G4⟩ := END.out d
            clear vk vj ck END
            go_wp2_with fail
            go_roundw
            case rel =>
              exact ⟨j + 1, by omega, by go_num, by rw [E1.out, decide_eq_true h1, Bool.true_or, Bool.or_true, or4], G1.out, G2.out, G3.out, G4.out⟩
            case measure => simp [intOf]; omega
          · have hd : decide (300 < z - y) = false := decide_eq_false h1
            by_cases h2 : 300 < y - z
            · refine wp_region_reach wr.heap.size (by kernel_rfl) (by kernel_rfl) ?_
              repeat (go_big_quiet_step (fail))
              refine wpQuiet_nil ?_
              rintro w' ⟨d, rfl⟩
              obtain ⟨G1, G2, G3, G4⟩ := END.out d
              clear vk vj ck END
              go_wp2_with fail
              go_roundw
              case rel =>
                exact ⟨j + 1, by omega, by go_num, by rw [E1.out, decide_eq_true h2, Bool.or_true, Bool.or_true, or4], G1.out, G2.out, G3.out, G4.out⟩
              case measure => simp [intOf]; omega
            · have hd2 : decide (300 < y - z) = false := decide_eq_false h2
              refine wp_region_reach wr.heap.size (by kernel_rfl) (by kernel_rfl) ?_
              repeat (go_big_quiet_step (fail))
              refine wpQuiet_nil ?_
              rintro w' ⟨d, rfl⟩
              obtain ⟨G1, G2, G3, G4⟩ := END.out d
              clear vk vj ck END
              go_wp2_with fail
              go_roundw
              case rel =>
                exact ⟨j + 1, by omega, by go_num, by rw [E1.out, hd, hd2, Bool.or_false, Bool.or_false], G1.out, G2.out, G3.out, G4.out⟩
              case measure => simp [intOf]; omega
        · obtain rfl : j = k := by omega
          go_wp2_with fail
          go_roundw
          case rel => exact ⟨j + 1, _, _, by omega, by go_num, rfl, F1.out, F2.out, F3.out, F4.out, HQ.out⟩
          case measure => simp [intOf]; omega
    · obtain rfl : k = 4 := by omega
      have K1 := Lib.hid fun (w : World) => flagsC (cfgA c (.slice (some ⟨O, 0, none⟩) 4 4) (.slice fa fn fc)) 3000 4200 300 600 rfl rfl rfl rfl rfl f q (fun i hi => by rw [(hfq.out i hi).1]; exact hvb.out i hi) 1 true w
      rw [ext4 (v' := v) (f' := fun _ => true) (fun i hi => (hfq.out i hi).1) (fun i hi => (hfq.out i hi).2), flagsAll] at K1
      obtain ⟨F, hF⟩ : ∃ F, fl (lowB v 4) (highB v 4) (gapB v 4) false false = F := ⟨_, rfl⟩
      rw [hF] at K1
      rw [hF]
      clear hF
      have q1 : (F == F) = true := by simp
      go_wp2_with (first
        | refine wpList_load_row_g (by kernel_rfl) 34 _ rfl w2.heap.size rfl 34 _ (0, 0) _ F1.out Try.underlying34 rfl (by kernel_rfl) ?_
        | refine wpList_load_row_g (by kernel_rfl) 51 _ rfl (L + 1) rfl 51 _ (0, 0) _ F2.out Try.underlying51 rfl (by kernel_rfl) ?_)
      refine (K1.out _).mono ?_
      rintro e w5 ⟨rfl, hb⟩
      have HB := Lib.hid (F4.out.trans (hb.mono F4.out.size))
      clear hb
      go_wp2_with fail
      go_ret
      exact ⟨rfl, HB.out⟩
end Go.Proofs.Ytomjhoaffbjkgaa
