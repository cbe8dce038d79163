/- CellOne holds: each call returns true. Conditions: the arguments are numbers of 64 bits and a bool. -/
import Derived.Test.YtomjhoaffbjkgaaCellS
namespace Go.Proofs.Ytomjhoaffbjkgaa
open Go.RowKit
set_option linter.unusedVariables false
def updI (v : Nat → Int) (k : Nat) (x : Int) : Nat → Int := fun j => if j = k then x else v j
def updB (f : Nat → Bool) (k : Nat) (x : Bool) : Nat → Bool := fun j => if j = k then x else f j
theorem cells_put {w : World} {B : Nat} {v : Nat → Int} {f : Nat → Bool} {t : TypeId} (h : w.heap[B]? = some (.cells (cellsA v f) t (0, 0))) (k : Nat) (hk : k < 4) (x : Int) (y : Bool) :
    ((w.setCell ⟨B, k * 2, none⟩ (.int .i64 x)).setCell ⟨B, k * 2 + 1, none⟩ (.bool y)).heap[B]? = some (.cells (cellsA (updI v k x) (updB f k y)) t (0, 0)) := by
  obtain rfl | rfl | rfl | rfl : k = 0 ∨ k = 1 ∨ k = 2 ∨ k = 3 := by omega
  all_goals simp [World.setCell, Array.getElem?_modify, h, cellsA, updI, updB]
theorem cells_fr {w : World} {B : Nat} {A : Array Value} {t : TypeId} (h : w.heap[B]? = some (.cells A t (0, 0))) (j : Nat) : w.frozen? ⟨B, j, none⟩ = false := by simp [World.frozen?, h]
theorem fl_eq {u u' o o' g g' h h' b b' : Bool} (h1 : u = u') (h2 : o = o') (h3 : g = g') (h4 : h = h') (h5 : b = b') : fl u o g h b = fl u' o' g' h' b' := by subst h1; subst h2; subst h3; subst h4; subst h5; rfl
theorem ext4 {v v' : Nat → Int} {f f' : Nat → Bool} (h : ∀ i, i < 4 → v i = v' i) (g : ∀ i, i < 4 → f i = f' i) : volts v f 4 = volts v' f' 4 := by
  simp only [volts, h 0 (by omega), h 1 (by omega), h 2 (by omega), h 3 (by omega), g 0 (by omega), g 1 (by omega), g 2 (by omega), g 3 (by omega)]
theorem flagsOne (m : Nat) (hm : m < 4) (v : Int) (q : Bool) (hv : 0 ≤ v ∧ v ≤ 6000) :
    flagsL 3000 4200 300 600 (volts (updI (fun _ => 3600) m v) (updB (fun _ => true) m q) 4) 20 true = fl (q && decide (v < 3000)) (q && decide (4200 < v)) (q && (decide (3900 < v) || decide (v < 3300))) false false := by
  obtain rfl | rfl | rfl | rfl : m = 0 ∨ m = 1 ∨ m = 2 ∨ m = 3 := by omega
  all_goals
    cases q
    all_goals
      simp only [volts, updI, updB]
      simp [flagsL, loL, hiL]
      try (refine fl_eq ?_ ?_ ?_ rfl rfl <;> first | rfl | (rw [← Bool.decide_or]; exact decide_eq_decide.2 (by omega)) | exact decide_eq_decide.2 (by omega))
set_option maxRecDepth 100000 in
set_option maxHeartbeats 8000000 in
theorem walkCellOne (a0 : Int) (a1 : Int) (a2 : Bool) (w : World) (w0 : (Lit.int .i64 a0).wf = true) (w1 : (Lit.int .i64 a1).wf = true) :
    Calls Try.prog 8 #[.int .i64 a0, .int .i64 a1, .bool a2] w fun e w' => e = .returned (.bool true) ∧ Below w.heap.size w w' := by
  clear w0 w1
  have t1 : -3 ≤ a0.tmod 4 ∧ a0.tmod 4 ≤ 3 := by
    have h1 := Int.tmod_lt_of_pos (-a0) (show (0 : Int) < 4 by omega)
    have h2 := Int.tmod_lt_of_pos a0 (show (0 : Int) < 4 by omega)
    rw [Int.neg_tmod] at h1; omega
  have t2 : -6000 ≤ a1.tmod 6001 ∧ a1.tmod 6001 ≤ 6000 := by
    have h1 := Int.tmod_lt_of_pos (-a1) (show (0 : Int) < 6001 by omega)
    have h2 := Int.tmod_lt_of_pos a1 (show (0 : Int) < 6001 by omega)
    rw [Int.neg_tmod] at h1; omega
  go_enter Try.func8, Try.ntmps8
  go_wp2_with fail
  refine (first15 _).mono ?_
  rintro e w1 ⟨rfl, hb⟩
  have BB := Lib.hid hb
  clear hb
  go_wp2_with fail
  refine (configC 0 0 0 _).mono ?_
  rintro e w2 ⟨O, fa, fn, fc, rfl, hO, hv, hb1⟩
  rw [show (0 : Int) % 1048576 = 0 from rfl]
  generalize cfgOf 0 0 0 = c at *
  simp only [cfgV]
  go_wp2_with fail
  refine upon_fresh (by simp) rfl (cfgA_one rfl rfl) ?_
  intro W1 b1 s1' h1
  have bb := hb1.trans (b1.mono hb1.size)
  have F1 := Lib.hid h1
  have F4 := Lib.hid (BB.out.trans (bb.mono BB.out.size))
  clear hb1 b1 s1' h1 bb BB hv hO
  go_upto_region 8 with fail
  generalize hW : World.alloc W1 _ = W2
  have hC : w2.heap.size < W1.heap.size := (Array.getElem?_eq_some_iff.1 F1.out).1
  have hw1 := F4.out.size
  obtain ⟨G1, G2, G4⟩ : Hid (W2.heap[w2.heap.size]? = some (.cells (cfgA c (.slice (some ⟨O, 0, none⟩) 4 4) (.slice fa fn fc)) 34 (0, 0))) ∧ Hid (W2.heap[W1.heap.size]? = some (.cells (cellsA (fun _ => 0) (fun _ => false)) 51 (0, 0))) ∧ Hid (Below w.heap.size w W2) := by
    rw [← hW]
    have al := (Below.refl W1.heap.size W1).alloc (Nat.le_refl _) (.cells (cellsA (fun _ => 0) (fun _ => false)) 51)
    exact ⟨Lib.hid ((al.block _ hC).trans F1.out), Lib.hid (heap_alloc_new _ _), Lib.hid (F4.out.trans (al.mono hw1))⟩
  clear hW F1 F4
  generalize W1.heap.size = L at *
  obtain ⟨m, hm, hm4⟩ : ∃ m : Nat, (a0.tmod 4 + 4) % 4 = m ∧ m < 4 := ⟨((a0.tmod 4 + 4) % 4).toNat, by omega, by omega⟩
  obtain ⟨v, hv, hvb⟩ : ∃ v : Int, (a1.tmod 6001 + 6001) % 6001 = v ∧ 0 ≤ v ∧ v ≤ 6000 := ⟨_, rfl, by omega, by omega⟩
  rw [hm, hv]
  clear hm hv t1 t2
  go_wp2_with fail
  go_loopw [10] (fun i wr => ∃ k : Nat, k ≤ 4 ∧ i = .int .i64 k ∧ wr.heap[w2.heap.size]? = some (.cells (cfgA c (.slice (some ⟨O, 0, none⟩) 4 4) (.slice fa fn fc)) 34 (0, 0)) ∧ wr.heap[L]? = some (.cells (cellsA (fun j => if j < k then 3600 else 0) (fun j => decide (j < k))) 51 (0, 0)) ∧ Below w.heap.size w wr) (fun i _ => 4 - (intOf i).toNat)
  case atStart => exact ⟨0, by omega, rfl, G1.out, G2.out, G4.out⟩
  case round =>
    obtain ⟨k, hk, rfl, g1, g2, g4⟩ := hrel
    have F1 := Lib.hid g1
    have F2 := Lib.hid g2
    have F4 := Lib.hid g4
    clear g1 g2 g4 G1 G2 G4
    have hne : w2.heap.size ≠ L := by omega
    by_cases hlt : k < 4
    · obtain ⟨x0, x1⟩ := cells8 F2.out k hlt
      have xf := fun j => cells_fr F2.out j
      go_wp2_with fail
      go_roundw
      case rel =>
        have r := cells_put F2.out k hlt 3600 true
        rw [show cellsA (updI (fun j => if j < k then 3600 else 0) k 3600) (updB (fun j => decide (j < k)) k true) = cellsA (fun j => if j < k + 1 then 3600 else 0) (fun j => decide (j < k + 1)) by
          have e1 : updI (fun j => if j < k then 3600 else 0) k 3600 = fun j => if j < k + 1 then 3600 else 0 := by
            funext j; unfold updI; by_cases h : j = k
            · simp [h]
            · by_cases h2 : j < k
              · simp [h, h2, show j < k + 1 by omega]
              · simp [h, h2, show ¬ j < k + 1 by omega]
          have e2 : updB (fun j => decide (j < k)) k true = fun j => decide (j < k + 1) := by
            funext j; unfold updB; by_cases h : j = k
            · simp [h]
            · simp [h]; omega
          rw [e1, e2]] at r
        exact ⟨k + 1, by omega, by go_num, ((heap_setCell_other _ ⟨_, _, _⟩ _ _ hne).trans (heap_setCell_other _ ⟨_, _, _⟩ _ _ hne)).trans F1.out, r, (F4.out.setCell (p := ⟨L, k * 2, none⟩) hw1 _).setCell (p := ⟨L, k * 2 + 1, none⟩) hw1 _⟩
      case measure => simp [intOf]; omega
    · obtain rfl : k = 4 := by omega
      have F2' := Lib.hid (show wr.heap[L]? = some (.cells (cellsA (fun _ => 3600) (fun _ => true)) 51 (0, 0)) from F2.out)
      obtain ⟨x0, x1⟩ := cells8 F2'.out m hm4
      have xf := fun j => cells_fr F2'.out j
      clear F2
      go_upto_region 13 with fail
      generalize hW : World.setCell (World.setCell wr _ _) _ _ = W4
      obtain ⟨G1, G2, G4⟩ : Hid (W4.heap[w2.heap.size]? = some (.cells (cfgA c (.slice (some ⟨O, 0, none⟩) 4 4) (.slice fa fn fc)) 34 (0, 0))) ∧ Hid (W4.heap[L]? = some (.cells (cellsA (updI (fun _ => 3600) m v) (updB (fun _ => true) m a2)) 51 (0, 0))) ∧ Hid (Below w.heap.size w W4) := by
        rw [← hW]
        exact ⟨Lib.hid (((heap_setCell_other _ ⟨_, _, _⟩ _ _ hne).trans (heap_setCell_other _ ⟨_, _, _⟩ _ _ hne)).trans F1.out), Lib.hid (cells_put F2'.out m hm4 v a2), Lib.hid ((F4.out.setCell (p := ⟨L, m * 2, none⟩) hw1 _).setCell (p := ⟨L, m * 2 + 1, none⟩) hw1 _)⟩
      clear hW F1 F2' F4 x0 x1 xf
      have K1 := Lib.hid fun (w : World) => flagsC (cfgA c (.slice (some ⟨O, 0, none⟩) 4 4) (.slice fa fn fc)) 3000 4200 300 600 rfl rfl rfl rfl rfl (updI (fun _ => 3600) m v) (updB (fun _ => true) m a2) (fun i hi => by unfold updI; split; exact hvb; exact (show (0 : Int) ≤ 3600 ∧ (3600 : Int) ≤ 6000 by omega)) 20 true w
      rw [flagsOne m hm4 v a2 hvb] at K1
      have c11 := fun (d : World) (hd : Below W4.heap.size W4 d) => (show d.cell? ⟨w2.heap.size, 11, none⟩ = some (.int .i64 3000) from cell_of_row _ _ 11 _ _ _ ((hd.block _ (Array.getElem?_eq_some_iff.1 G1.out).1).trans G1.out))
      have c12 := fun (d : World) (hd : Below W4.heap.size W4 d) => (show d.cell? ⟨w2.heap.size, 12, none⟩ = some (.int .i64 4200) from cell_of_row _ _ 12 _ _ _ ((hd.block _ (Array.getElem?_eq_some_iff.1 G1.out).1).trans G1.out))
      have c13 := fun (d : World) (hd : Below W4.heap.size W4 d) => (show d.cell? ⟨w2.heap.size, 13, none⟩ = some (.int .i64 300) from cell_of_row _ _ 13 _ _ _ ((hd.block _ (Array.getElem?_eq_some_iff.1 G1.out).1).trans G1.out))
      have C11 := Lib.hid c11
      have C12 := Lib.hid c12
      have C13 := Lib.hid c13
      clear c11 c12 c13
      obtain ⟨F, hF⟩ : ∃ F, fl (a2 && decide (v < 3000)) (a2 && decide (4200 < v)) (a2 && (decide (3900 < v) || decide (v < 3300))) false false = F := ⟨_, rfl⟩
      rw [hF] at K1
      cases a2
      · obtain rfl : F = 0 := by rw [← hF]; rfl
        clear hF C11 C12 C13
        go_wp2_with (first
          | refine wpList_load_row rfl 34 _ rfl w2.heap.size rfl 34 _ (0, 0) _ G1.out Try.underlying34 rfl (by kernel_rfl) ?_
          | refine wpList_load_row rfl 51 _ rfl L rfl 51 _ (0, 0) _ G2.out Try.underlying51 rfl (by kernel_rfl) ?_)
        refine (K1.out _).mono ?_
        rintro e w5 ⟨rfl, hb⟩
        have HB := Lib.hid (G4.out.trans (hb.mono G4.out.size))
        clear hb
        go_wp2_with fail
        go_ret
        exact ⟨rfl, HB.out⟩
      · simp only [Bool.true_and] at hF
        have o1 : bits .or .i64 0 1 = 1 := rfl
        have o2 : bits .or .i64 0 2 = 2 := rfl
        have o4 : bits .or .i64 0 4 = 4 := rfl
        have o5 : bits .or .i64 1 4 = 5 := rfl
        have o6 : bits .or .i64 2 4 = 6 := rfl
        rcases Int.lt_or_le v 3000 with h1 | h1
        · obtain rfl : F = 5 := by rw [← hF, decide_eq_true h1, decide_eq_false (show ¬ 4200 < v by omega), decide_eq_false (show ¬ 3900 < v by omega), decide_eq_true (show v < 3300 by omega)]; rfl
          clear hF
          go_wp2_with (first
            | refine wpList_load_row rfl 34 _ rfl w2.heap.size rfl 34 _ (0, 0) _ G1.out Try.underlying34 rfl (by kernel_rfl) ?_
            | refine wpList_load_row rfl 51 _ rfl L rfl 51 _ (0, 0) _ G2.out Try.underlying51 rfl (by kernel_rfl) ?_)
          refine (K1.out _).mono ?_
          rintro e w5 ⟨rfl, hb⟩
          have HB := Lib.hid (G4.out.trans (hb.mono G4.out.size))
          have c11 := C11.out _ hb
          have c12 := C12.out _ hb
          have c13 := C13.out _ hb
          clear hb
          go_wp2_with fail
          go_ret
          exact ⟨rfl, HB.out⟩
        rcases Int.lt_or_le v 3300 with h2 | h2
        · obtain rfl : F = 4 := by rw [← hF, decide_eq_false (show ¬ v < 3000 by omega), decide_eq_false (show ¬ 4200 < v by omega), decide_eq_false (show ¬ 3900 < v by omega), decide_eq_true (show v < 3300 by omega)]; rfl
          clear hF
          go_wp2_with (first
            | refine wpList_load_row rfl 34 _ rfl w2.heap.size rfl 34 _ (0, 0) _ G1.out Try.underlying34 rfl (by kernel_rfl) ?_
            | refine wpList_load_row rfl 51 _ rfl L rfl 51 _ (0, 0) _ G2.out Try.underlying51 rfl (by kernel_rfl) ?_)
          refine (K1.out _).mono ?_
          rintro e w5 ⟨rfl, hb⟩
          have HB := Lib.hid (G4.out.trans (hb.mono G4.out.size))
          have c11 := C11.out _ hb
          have c12 := C12.out _ hb
          have c13 := C13.out _ hb
          clear hb
          go_wp2_with fail
          go_ret
          exact ⟨rfl, HB.out⟩
        rcases Int.lt_or_le 4200 v with h3 | h3
        · obtain rfl : F = 6 := by rw [← hF, decide_eq_false (show ¬ v < 3000 by omega), decide_eq_true (show 4200 < v by omega), decide_eq_true (show 3900 < v by omega), decide_eq_false (show ¬ v < 3300 by omega)]; rfl
          clear hF
          go_wp2_with (first
            | refine wpList_load_row rfl 34 _ rfl w2.heap.size rfl 34 _ (0, 0) _ G1.out Try.underlying34 rfl (by kernel_rfl) ?_
            | refine wpList_load_row rfl 51 _ rfl L rfl 51 _ (0, 0) _ G2.out Try.underlying51 rfl (by kernel_rfl) ?_)
          refine (K1.out _).mono ?_
          rintro e w5 ⟨rfl, hb⟩
          have HB := Lib.hid (G4.out.trans (hb.mono G4.out.size))
          have c11 := C11.out _ hb
          have c12 := C12.out _ hb
          have c13 := C13.out _ hb
          clear hb
          go_wp2_with fail
          go_ret
          exact ⟨rfl, HB.out⟩
        rcases Int.lt_or_le 3900 v with h4 | h4
        · obtain rfl : F = 4 := by rw [← hF, decide_eq_false (show ¬ v < 3000 by omega), decide_eq_false (show ¬ 4200 < v by omega), decide_eq_true (show 3900 < v by omega), decide_eq_false (show ¬ v < 3300 by omega)]; rfl
          clear hF
          go_wp2_with (first
            | refine wpList_load_row rfl 34 _ rfl w2.heap.size rfl 34 _ (0, 0) _ G1.out Try.underlying34 rfl (by kernel_rfl) ?_
            | refine wpList_load_row rfl 51 _ rfl L rfl 51 _ (0, 0) _ G2.out Try.underlying51 rfl (by kernel_rfl) ?_)
          refine (K1.out _).mono ?_
          rintro e w5 ⟨rfl, hb⟩
          have HB := Lib.hid (G4.out.trans (hb.mono G4.out.size))
          have c11 := C11.out _ hb
          have c12 := C12.out _ hb
          have c13 := C13.out _ hb
          clear hb
          go_wp2_with fail
          go_ret
          exact ⟨rfl, HB.out⟩
        · obtain rfl : F = 0 := by rw [← hF, decide_eq_false (show ¬ v < 3000 by omega), decide_eq_false (show ¬ 4200 < v by omega), decide_eq_false (show ¬ 3900 < v by omega), decide_eq_false (show ¬ v < 3300 by omega)]; rfl
          clear hF
          go_wp2_with (first
            | refine wpList_load_row rfl 34 _ rfl w2.heap.size rfl 34 _ (0, 0) _ G1.out Try.underlying34 rfl (by kernel_rfl) ?_
            | refine wpList_load_row rfl 51 _ rfl L rfl 51 _ (0, 0) _ G2.out Try.underlying51 rfl (by kernel_rfl) ?_)
          refine (K1.out _).mono ?_
          rintro e w5 ⟨rfl, hb⟩
          have HB := Lib.hid (G4.out.trans (hb.mono G4.out.size))
          have c11 := C11.out _ hb
          have c12 := C12.out _ hb
          have c13 := C13.out _ hb
          clear hb
          go_wp2_with fail
          go_ret
          exact ⟨rfl, HB.out⟩
end Go.Proofs.Ytomjhoaffbjkgaa
