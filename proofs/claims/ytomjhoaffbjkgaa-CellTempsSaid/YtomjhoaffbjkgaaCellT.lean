/- CellTemps holds: each call returns true. Conditions: the arguments are numbers of 64 bits and a bool. -/
import Derived.Test.YtomjhoaffbjkgaaCellO
namespace Go.Proofs.Ytomjhoaffbjkgaa
open Go.RowKit
set_option linter.unusedVariables false
theorem flagsTemps (t g : Nat) (ht : t < 4) (hg : g ≤ 4) (v : Nat → Int) (f : Nat → Bool) (h : ∀ i, i < 4 → v ((i + t) % 4) = 3700 ∧ f ((i + t) % 4) = decide (g ≤ i)) (x : Int) (q : Bool) :
    flagsL 3000 4200 300 600 (volts v f 4) x q = fl false false false (q && decide (600 < x)) (decide (1 < g) || !q) := by
  have h0 := h 0 (by omega)
  have h1 := h 1 (by omega)
  have h2 := h 2 (by omega)
  have h3 := h 3 (by omega)
  clear h
  obtain rfl | rfl | rfl | rfl : t = 0 ∨ t = 1 ∨ t = 2 ∨ t = 3 := by omega
  all_goals
    obtain rfl | rfl | rfl | rfl | rfl : g = 0 ∨ g = 1 ∨ g = 2 ∨ g = 3 ∨ g = 4 := by omega
    all_goals
      simp only [Nat.zero_add, Nat.reduceAdd, Nat.reduceMod, Nat.reduceLeDiff, decide_true, decide_false, Nat.le_refl] at h0 h1 h2 h3
      cases q
      all_goals
        simp only [volts, h0, h1, h2, h3]
        simp [flagsL, loL, hiL]
set_option maxRecDepth 100000 in
set_option maxHeartbeats 8000000 in
theorem walkCellTemps (a0 : Int) (a1 : Bool) (a2 : Int) (a3 : Int) (w : World) (w0 : (Lit.int .i64 a0).wf = true) (w2 : (Lit.int .i64 a2).wf = true) (w3 : (Lit.int .i64 a3).wf = true) :
    Calls Try.prog 7 #[.int .i64 a0, .bool a1, .int .i64 a2, .int .i64 a3] w fun e w' => e = .returned (.bool true) ∧ Below w.heap.size w w' := by
  clear w0 w2 w3
  have t1 : -4 ≤ a2.tmod 5 ∧ a2.tmod 5 ≤ 4 := by
    have h1 := Int.tmod_lt_of_pos (-a2) (show (0 : Int) < 5 by omega)
    have h2 := Int.tmod_lt_of_pos a2 (show (0 : Int) < 5 by omega)
    rw [Int.neg_tmod] at h1; omega
  have t2 : -3 ≤ a3.tmod 4 ∧ a3.tmod 4 ≤ 3 := by
    have h1 := Int.tmod_lt_of_pos (-a3) (show (0 : Int) < 4 by omega)
    have h2 := Int.tmod_lt_of_pos a3 (show (0 : Int) < 4 by omega)
    rw [Int.neg_tmod] at h1; omega
  go_enter Try.func7, Try.ntmps7
  go_wp2_with fail
  refine (first15 _).mono ?_
  rintro e w1 ⟨rfl, hb⟩
  have BB := Lib.hid hb
  clear hb
  go_wp2_with fail
  refine (configC 0 0 0 _).mono ?_
  rintro e w2 ⟨O, fa, fn, fc, rfl, hO, hv, hb1⟩
  rw [show (0 : Int) % 1048576 = 0 from rfl]
  generalize cfgOf 0 0 0 = c at *
  simp only [cfgV]
  go_wp2_with fail
  refine upon_fresh (by simp) rfl (cfgA_one rfl rfl) ?_
  intro W1 b1 s1' h1
  have bb := hb1.trans (b1.mono hb1.size)
  have F1 := Lib.hid h1
  have F4 := Lib.hid (BB.out.trans (bb.mono BB.out.size))
  clear hb1 b1 s1' h1 bb BB hv hO
  go_upto_region 9 with fail
  generalize hW : World.alloc W1 _ = W2
  have hC : w2.heap.size < W1.heap.size := (Array.getElem?_eq_some_iff.1 F1.out).1
  have hw1 := F4.out.size
  obtain ⟨G1, G2, G4⟩ : Hid (W2.heap[w2.heap.size]? = some (.cells (cfgA c (.slice (some ⟨O, 0, none⟩) 4 4) (.slice fa fn fc)) 34 (0, 0))) ∧ Hid (W2.heap[W1.heap.size]? = some (.cells (cellsA (fun _ => 0) (fun _ => false)) 51 (0, 0))) ∧ Hid (Below w.heap.size w W2) := by
    rw [← hW]
    have al := (Below.refl W1.heap.size W1).alloc (Nat.le_refl _) (.cells (cellsA (fun _ => 0) (fun _ => false)) 51)
    exact ⟨Lib.hid ((al.block _ hC).trans F1.out), Lib.hid (heap_alloc_new _ _), Lib.hid (F4.out.trans (al.mono hw1))⟩
  clear hW F1 F4
  generalize W1.heap.size = L at *
  obtain ⟨g, hg, hg4⟩ : ∃ m : Nat, (a2.tmod 5 + 5) % 5 = m ∧ m ≤ 4 := ⟨((a2.tmod 5 + 5) % 5).toNat, by omega, by omega⟩
  obtain ⟨t, ht, ht4⟩ : ∃ m : Nat, (a3.tmod 4 + 4) % 4 = m ∧ m < 4 := ⟨((a3.tmod 4 + 4) % 4).toNat, by omega, by omega⟩
  obtain ⟨x, hx⟩ : ∃ x, a0.tmod 1501 = x := ⟨_, rfl⟩
  rw [hg, ht, hx]
  clear hg ht hx t1 t2
  go_wp2_with fail
  go_loopw [12] (fun i wr => ∃ (k : Nat) (v : Nat → Int) (f : Nat → Bool), k ≤ 4 ∧ i = .int .i64 k ∧ wr.heap[w2.heap.size]? = some (.cells (cfgA c (.slice (some ⟨O, 0, none⟩) 4 4) (.slice fa fn fc)) 34 (0, 0)) ∧ wr.heap[L]? = some (.cells (cellsA v f) 51 (0, 0)) ∧ Below w.heap.size w wr ∧ Hid (∀ i, i < k → v ((i + t) % 4) = 3700 ∧ f ((i + t) % 4) = decide (g ≤ i))) (fun i _ => 4 - (intOf i).toNat)
  case atStart => exact ⟨0, _, _, by omega, rfl, G1.out, G2.out, G4.out, fun i hi => by omega⟩
  case round =>
    obtain ⟨k, v, f, hk, rfl, g1, g2, g4, hvf⟩ := hrel
    have F1 := Lib.hid g1
    have F2 := Lib.hid g2
    have F4 := Lib.hid g4
    clear g1 g2 g4 G1 G2 G4
    have hne : w2.heap.size ≠ L := by omega
    by_cases hlt : k < 4
    · have hm4 : (k + t) % 4 < 4 := Nat.mod_lt _ (by omega)
      obtain ⟨x0, x1⟩ := cells8 F2.out ((k + t) % 4) hm4
      have xf := fun j => cells_fr F2.out j
      go_wp2_with fail
      go_roundw
      case rel =>
        have r := cells_put F2.out ((k + t) % 4) hm4 3700 (decide (g ≤ k))
        exact ⟨k + 1, _, _, by omega, by go_num, ((heap_setCell_other _ ⟨_, _, _⟩ _ _ hne).trans (heap_setCell_other _ ⟨_, _, _⟩ _ _ hne)).trans F1.out, r, (F4.out.setCell (p := ⟨L, (k + t) % 4 * 2, none⟩) hw1 _).setCell (p := ⟨L, (k + t) % 4 * 2 + 1, none⟩) hw1 _, fun i hi => by
          unfold updI updB
          by_cases hik : i = k
          · subst hik; simp
          · have : (i + t) % 4 ≠ (k + t) % 4 := by omega
            simp only [if_neg this]
            exact hvf.out i (by omega)⟩
      case measure => simp [intOf]; omega
    · obtain rfl : k = 4 := by omega
      have K1 := Lib.hid fun (w : World) => flagsC (cfgA c (.slice (some ⟨O, 0, none⟩) 4 4) (.slice fa fn fc)) 3000 4200 300 600 rfl rfl rfl rfl rfl v f (fun i hi => by
        have e : ∀ i, i < 4 → v i = 3700 := fun i hi => by
          have := (hvf.out ((i + 4 - t) % 4) (Nat.mod_lt _ (by omega))).1
          rwa [show ((i + 4 - t) % 4 + t) % 4 = i by omega] at this
        rw [e i hi]; omega) x a1 w
      rw [flagsTemps t g ht4 hg4 v f hvf.out x a1] at K1
      have c14 := fun (d : World) (hd : Below wr.heap.size wr d) => (show d.cell? ⟨w2.heap.size, 14, none⟩ = some (.int .i64 600) from cell_of_row _ _ 14 _ _ _ ((hd.block _ (Array.getElem?_eq_some_iff.1 F1.out).1).trans F1.out))
      have C14 := Lib.hid c14
      clear c14
      have b0 : badB 0 = false := rfl
      have b8 : badB 8 = true := rfl
      have b16 : badB 16 = false := rfl
      have b24 : badB 24 = true := rfl
      have o8 : bits .or .i64 0 8 = 8 := rfl
      have o16 : bits .or .i64 0 16 = 16 := rfl
      have o24 : bits .or .i64 8 16 = 24 := rfl
      have n0 : bits .and .i64 0 8 = 0 := rfl
      have n8 : bits .and .i64 8 8 = 8 := rfl
      have n16 : bits .and .i64 16 8 = 0 := rfl
      have n24 : bits .and .i64 24 8 = 8 := rfl
      cases a1
      · rw [show fl false false false (false && decide (600 < x)) (decide (1 < g) || !false) = 16 by simp; rfl] at K1
        have KB := Lib.hid fun (w : World) => badC 16 w
        rw [b16] at KB
        by_cases h2 : 1 < g
        · go_wp2_with (first
            | refine wpList_load_row rfl 34 _ rfl w2.heap.size rfl 34 _ (0, 0) _ F1.out Try.underlying34 rfl (by kernel_rfl) ?_
            | refine wpList_load_row rfl 51 _ rfl L rfl 51 _ (0, 0) _ F2.out Try.underlying51 rfl (by kernel_rfl) ?_)
          refine (K1.out _).mono ?_
          rintro e w5 ⟨rfl, hb⟩
          have HB := Lib.hid (F4.out.trans (hb.mono F4.out.size))
          have c14 := C14.out _ hb
          clear hb
          go_wp2_with fail
          refine (KB.out _).mono ?_
          rintro e w' ⟨rfl, rfl⟩
          go_wp2_with fail
          go_ret
          exact ⟨rfl, HB.out⟩
        · go_wp2_with (first
            | refine wpList_load_row rfl 34 _ rfl w2.heap.size rfl 34 _ (0, 0) _ F1.out Try.underlying34 rfl (by kernel_rfl) ?_
            | refine wpList_load_row rfl 51 _ rfl L rfl 51 _ (0, 0) _ F2.out Try.underlying51 rfl (by kernel_rfl) ?_)
          refine (K1.out _).mono ?_
          rintro e w5 ⟨rfl, hb⟩
          have HB := Lib.hid (F4.out.trans (hb.mono F4.out.size))
          have c14 := C14.out _ hb
          clear hb
          go_wp2_with fail
          refine (KB.out _).mono ?_
          rintro e w' ⟨rfl, rfl⟩
          go_wp2_with fail
          go_ret
          exact ⟨rfl, HB.out⟩
      · by_cases h1 : 600 < x <;> by_cases h2 : 1 < g
        · rw [show fl false false false (true && decide (600 < x)) (decide (1 < g) || !true) = 24 by simp [h1, h2]; rfl] at K1
          have KB := Lib.hid fun (w : World) => badC 24 w
          rw [b24] at KB
          go_wp2_with (first
            | refine wpList_load_row rfl 34 _ rfl w2.heap.size rfl 34 _ (0, 0) _ F1.out Try.underlying34 rfl (by kernel_rfl) ?_
            | refine wpList_load_row rfl 51 _ rfl L rfl 51 _ (0, 0) _ F2.out Try.underlying51 rfl (by kernel_rfl) ?_)
          refine (K1.out _).mono ?_
          rintro e w5 ⟨rfl, hb⟩
          have HB := Lib.hid (F4.out.trans (hb.mono F4.out.size))
          have c14 := C14.out _ hb
          clear hb
          go_wp2_with fail
          refine (KB.out _).mono ?_
          rintro e w' ⟨rfl, rfl⟩
          go_wp2_with fail
          go_ret
          exact ⟨rfl, HB.out⟩
        · rw [show fl false false false (true && decide (600 < x)) (decide (1 < g) || !true) = 8 by simp [h1, h2]; rfl] at K1
          have KB := Lib.hid fun (w : World) => badC 8 w
          rw [b8] at KB
          go_wp2_with (first
            | refine wpList_load_row rfl 34 _ rfl w2.heap.size rfl 34 _ (0, 0) _ F1.out Try.underlying34 rfl (by kernel_rfl) ?_
            | refine wpList_load_row rfl 51 _ rfl L rfl 51 _ (0, 0) _ F2.out Try.underlying51 rfl (by kernel_rfl) ?_)
          refine (K1.out _).mono ?_
          rintro e w5 ⟨rfl, hb⟩
          have HB := Lib.hid (F4.out.trans (hb.mono F4.out.size))
          have c14 := C14.out _ hb
          clear hb
          go_wp2_with fail
          refine (KB.out _).mono ?_
          rintro e w' ⟨rfl, rfl⟩
          go_wp2_with fail
          go_ret
          exact ⟨rfl, HB.out⟩
        · rw [show fl false false false (true && decide (600 < x)) (decide (1 < g) || !true) = 16 by simp [h1, h2]; rfl] at K1
          have KB := Lib.hid fun (w : World) => badC 16 w
          rw [b16] at KB
          go_wp2_with (first
            | refine wpList_load_row rfl 34 _ rfl w2.heap.size rfl 34 _ (0, 0) _ F1.out Try.underlying34 rfl (by kernel_rfl) ?_
            | refine wpList_load_row rfl 51 _ rfl L rfl 51 _ (0, 0) _ F2.out Try.underlying51 rfl (by kernel_rfl) ?_)
          refine (K1.out _).mono ?_
          rintro e w5 ⟨rfl, hb⟩
          have HB := Lib.hid (F4.out.trans (hb.mono F4.out.size))
          have c14 := C14.out _ hb
          clear hb
          go_wp2_with fail
          refine (KB.out _).mono ?_
          rintro e w' ⟨rfl, rfl⟩
          go_wp2_with fail
          go_ret
          exact ⟨rfl, HB.out⟩
        · rw [show fl false false false (true && decide (600 < x)) (decide (1 < g) || !true) = 0 by simp [h1, h2]; rfl] at K1
          have KB := Lib.hid fun (w : World) => badC 0 w
          rw [b0] at KB
          go_wp2_with (first
            | refine wpList_load_row rfl 34 _ rfl w2.heap.size rfl 34 _ (0, 0) _ F1.out Try.underlying34 rfl (by kernel_rfl) ?_
            | refine wpList_load_row rfl 51 _ rfl L rfl 51 _ (0, 0) _ F2.out Try.underlying51 rfl (by kernel_rfl) ?_)
          refine (K1.out _).mono ?_
          rintro e w5 ⟨rfl, hb⟩
          have HB := Lib.hid (F4.out.trans (hb.mono F4.out.size))
          have c14 := C14.out _ hb
          clear hb
          go_wp2_with fail
          refine (KB.out _).mono ?_
          rintro e w' ⟨rfl, rfl⟩
          go_wp2_with fail
          go_ret
          exact ⟨rfl, HB.out⟩
end Go.Proofs.Ytomjhoaffbjkgaa
