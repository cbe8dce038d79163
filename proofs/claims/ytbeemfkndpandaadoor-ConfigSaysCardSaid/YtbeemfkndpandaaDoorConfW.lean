/- The document's number of the first field that is amiss. Conditions: none. -/
import Derived.Test.YtbeemfkndpandaaDoorConfV
import Derived.Test.YtbeemfkndpandaaDoorBox3
namespace Go.Proofs.YtbeemfkndpandaaDoor
open Go.RowKit
set_option linter.unusedVariables false
set_option maxRecDepth 20000
def fiveF (c : CG) : Nat → Int
  | 0 => c.D
  | 1 => c.B
  | 2 => c.S
  | 3 => c.P
  | _ => c.H
def fiveA (c : CG) : Array Value := #[.int .i64 c.D, .int .i64 c.B, .int .i64 c.S, .int .i64 c.P, .int .i64 c.H]
theorem fiveA_at (c : CG) (i : Nat) (h : i < 5) : (fiveA c)[i]? = some (.int .i64 (fiveF c i)) := by
  rcases (show i = 0 ∨ i = 1 ∨ i = 2 ∨ i = 3 ∨ i = 4 by omega) with rfl | rfl | rfl | rfl | rfl <;> rfl
def midF (c : CG) : Nat → Int
  | 0 => c.Cap
  | 1 => c.Qmin
  | 2 => c.Imax
  | 3 => c.Trip
  | 4 => c.Vmin
  | 5 => c.Vdark
  | 6 => c.CellMin
  | 7 => c.CellMax
  | 8 => c.CellGap
  | 9 => c.TempMax
  | 10 => c.Coil
  | 11 => c.Ohm
  | 12 => c.SagErr
  | 13 => c.AmpErr
  | _ => c.Drift
def midA (c : CG) : Array Value := #[.int .i64 c.Cap, .int .i64 c.Qmin, .int .i64 c.Imax, .int .i64 c.Trip, .int .i64 c.Vmin, .int .i64 c.Vdark, .int .i64 c.CellMin, .int .i64 c.CellMax, .int .i64 c.CellGap, .int .i64 c.TempMax, .int .i64 c.Coil, .int .i64 c.Ohm, .int .i64 c.SagErr, .int .i64 c.AmpErr, .int .i64 c.Drift]
theorem midA_at (c : CG) (i : Nat) (h : i < 15) : (midA c)[i]? = some (.int .i64 (midF c i)) := by
  rcases (show i = 0 ∨ i = 1 ∨ i = 2 ∨ i = 3 ∨ i = 4 ∨ i = 5 ∨ i = 6 ∨ i = 7 ∨ i = 8 ∨ i = 9 ∨ i = 10 ∨ i = 11 ∨ i = 12 ∨ i = 13 ∨ i = 14 by omega) with rfl | rfl | rfl | rfl | rfl | rfl | rfl | rfl | rfl | rfl | rfl | rfl | rfl | rfl | rfl <;> rfl
def midLoF (c : CG) : Nat → Int
  | 0 => 1
  | 1 => 0
  | 2 => 1
  | 3 => 1
  | 4 => 1
  | 5 => 1
  | 6 => 0
  | 7 => c.CellMin
  | 8 => 0
  | 9 => (-500)
  | 10 => 1
  | 11 => 0
  | 12 => 0
  | 13 => 0
  | _ => 0
def midLoA (c : CG) : Array Value := #[.int .i64 1, .int .i64 0, .int .i64 1, .int .i64 1, .int .i64 1, .int .i64 1, .int .i64 0, .int .i64 c.CellMin, .int .i64 0, .int .i64 (-500), .int .i64 1, .int .i64 0, .int .i64 0, .int .i64 0, .int .i64 0]
theorem midLoA_at (c : CG) (i : Nat) (h : i < 15) : (midLoA c)[i]? = some (.int .i64 (midLoF c i)) := by
  rcases (show i = 0 ∨ i = 1 ∨ i = 2 ∨ i = 3 ∨ i = 4 ∨ i = 5 ∨ i = 6 ∨ i = 7 ∨ i = 8 ∨ i = 9 ∨ i = 10 ∨ i = 11 ∨ i = 12 ∨ i = 13 ∨ i = 14 by omega) with rfl | rfl | rfl | rfl | rfl | rfl | rfl | rfl | rfl | rfl | rfl | rfl | rfl | rfl | rfl <;> rfl
def midHiF (c : CG) : Nat → Int
  | 0 => 1073741824
  | 1 => c.Cap
  | 2 => 500000
  | 3 => 500000
  | 4 => 60000
  | 5 => 60000
  | 6 => 6000
  | 7 => 6000
  | 8 => 6000
  | 9 => 1500
  | 10 => 30000
  | 11 => 100000
  | 12 => 60000
  | 13 => 500000
  | _ => 1073741824
def midHiA (c : CG) : Array Value := #[.int .i64 1073741824, .int .i64 c.Cap, .int .i64 500000, .int .i64 500000, .int .i64 60000, .int .i64 60000, .int .i64 6000, .int .i64 6000, .int .i64 6000, .int .i64 1500, .int .i64 30000, .int .i64 100000, .int .i64 60000, .int .i64 500000, .int .i64 1073741824]
theorem midHiA_at (c : CG) (i : Nat) (h : i < 15) : (midHiA c)[i]? = some (.int .i64 (midHiF c i)) := by
  rcases (show i = 0 ∨ i = 1 ∨ i = 2 ∨ i = 3 ∨ i = 4 ∨ i = 5 ∨ i = 6 ∨ i = 7 ∨ i = 8 ∨ i = 9 ∨ i = 10 ∨ i = 11 ∨ i = 12 ∨ i = 13 ∨ i = 14 by omega) with rfl | rfl | rfl | rfl | rfl | rfl | rfl | rfl | rfl | rfl | rfl | rfl | rfl | rfl | rfl <;> rfl
def fourF (c : CG) : Nat → Int
  | 0 => c.GenMax
  | 1 => c.BatMax
  | 2 => c.ExtMax
  | _ => c.Eland
def fourA (c : CG) : Array Value := #[.int .i64 c.GenMax, .int .i64 c.BatMax, .int .i64 c.ExtMax, .int .i64 c.Eland]
theorem fourA_at (c : CG) (i : Nat) (h : i < 4) : (fourA c)[i]? = some (.int .i64 (fourF c i)) := by
  rcases (show i = 0 ∨ i = 1 ∨ i = 2 ∨ i = 3 by omega) with rfl | rfl | rfl | rfl <;> rfl
theorem okL_five (c : CG) (o f : Bool) (i : Nat) (h : i < 5) : (okL c o f)[0 + i]?.getD false = inB (fiveF c i) 1 100 := by
  rcases (show i = 0 ∨ i = 1 ∨ i = 2 ∨ i = 3 ∨ i = 4 by omega) with rfl | rfl | rfl | rfl | rfl <;> rfl
theorem okL_mid (c : CG) (o f : Bool) (i : Nat) (h : i < 15) : (okL c o f)[5 + i]?.getD false = inB (midF c i) (midLoF c i) (midHiF c i) := by
  rcases (show i = 0 ∨ i = 1 ∨ i = 2 ∨ i = 3 ∨ i = 4 ∨ i = 5 ∨ i = 6 ∨ i = 7 ∨ i = 8 ∨ i = 9 ∨ i = 10 ∨ i = 11 ∨ i = 12 ∨ i = 13 ∨ i = 14 by omega) with rfl | rfl | rfl | rfl | rfl | rfl | rfl | rfl | rfl | rfl | rfl | rfl | rfl | rfl | rfl <;> rfl
theorem okL_four (c : CG) (o f : Bool) (i : Nat) (h : i < 4) : (okL c o f)[21 + i]?.getD false = inB (fourF c i) 0 1073741824 := by
  rcases (show i = 0 ∨ i = 1 ∨ i = 2 ∨ i = 3 by omega) with rfl | rfl | rfl | rfl <;> rfl
theorem inB_true' {x lo hi : Int} (h1 : lo ≤ x) (h2 : x ≤ hi) : inB x lo hi = true := by
  unfold inB
  rw [decide_eq_true h1, decide_eq_true h2]; rfl
theorem inB_lo {x lo hi : Int} (h : x < lo) : inB x lo hi = false := by
  unfold inB
  rw [decide_eq_false (show ¬ lo ≤ x by omega)]; rfl
theorem inB_hi {x lo hi : Int} (h : hi < x) : inB x lo hi = false := by
  unfold inB
  rw [decide_eq_false (show ¬ x ≤ hi by omega), Bool.and_false]
theorem fault_f0 (a : Int) (p : Bool) (b : Int) (w : World) : (Instr.field 61 (.agg #[.int .i64 a, .bool p, .int .i64 b]) 0).run Tryd.prog w = .ok (.int .i64 a) w := by kernel_rfl
inductive NumIs (b : Nat → Bool) : Int → Prop
  | bad (i : Nat) (hi : i < 27) (h : b i = false) (hj : ∀ j, j < i → b j = true) : NumIs b (i + 1)
  | fine (h : ∀ j, j < 27 → b j = true) : NumIs b 0
theorem upto {b : Nat → Bool} {k i : Nat} (h : ∀ j, j < k → b j = true) (h2 : ∀ j, j < i → b (k + j) = true) : ∀ j, j < k + i → b j = true := fun j hj => by
  by_cases q : j < k
  · exact h j q
  · have := h2 (j - k) (by omega)
    rwa [show k + (j - k) = j by omega] at this
set_option maxHeartbeats 32000000 in
theorem refConf (c : CG) (a : Option Addr) (n cp : Nat) (x y : Nat → Int) (b : Option Addr) (m cq : Nat) (bu lo pr : Nat → Int) (o f : Bool) (ho : o = true ↔ ocvOk n x y c.Cap) (hf : f = true ↔ fedOk m bu lo pr)
    (hn : n < 4611686018427387904) (hm : m < 4611686018427387904) (w : World) (h : PtsG w a n x y) (g : FedG w b m bu lo pr) :
    Calls Tryd.prog 33 #[.agg (cgA c (.slice a n cp) (.slice b m cq))] w fun e w' => ∃ k, e = .returned (.int .i64 k) ∧ NumIs (fun i => (okL c o f)[i]?.getD false) k ∧ Below w.heap.size w w' := by
  have H := Lib.hid h
  have G := Lib.hid g
  have HO := Lib.hid ho
  have HF := Lib.hid hf
  have O1 := Lib.hid (okL_five c o f)
  have O2 := Lib.hid (okL_mid c o f)
  have O3 := Lib.hid (okL_four c o f)
  have O4 := Lib.hid (show (okL c o f)[20]?.getD false = o from rfl)
  have O5 := Lib.hid (show (okL c o f)[25]?.getD false = inB c.Margin c.Imax 1073741824 from rfl)
  have O6 := Lib.hid (show (okL c o f)[26]?.getD false = f from rfl)
  obtain ⟨bb, hbb⟩ : ∃ bb : Nat → Bool, bb = fun i => (okL c o f)[i]?.getD false := ⟨_, rfl⟩
  rw [← hbb]
  replace O1 := Lib.hid (show ∀ i, i < 5 → bb (0 + i) = inB (fiveF c i) 1 100 by rw [hbb]; exact O1.out)
  replace O2 := Lib.hid (show ∀ i, i < 15 → bb (5 + i) = inB (midF c i) (midLoF c i) (midHiF c i) by rw [hbb]; exact O2.out)
  replace O3 := Lib.hid (show ∀ i, i < 4 → bb (21 + i) = inB (fourF c i) 0 1073741824 by rw [hbb]; exact O3.out)
  replace O4 := Lib.hid (show bb 20 = o by rw [hbb]; exact O4.out)
  replace O5 := Lib.hid (show bb 25 = inB c.Margin c.Imax 1073741824 by rw [hbb]; exact O5.out)
  replace O6 := Lib.hid (show bb 26 = f by rw [hbb]; exact O6.out)
  clear h g ho hf hbb
  have KB := Lib.hid boundR
  go_enter Tryd.func33, Tryd.ntmps33
  go_upto_region 1 with fail
  have B0 := Lib.hid (Bx.new w (cgA c (.slice a n cp) (.slice b m cq)) 31)
  generalize World.alloc w _ = W at *
  have x0 : W.cell? ⟨w.heap.size, 0, none⟩ = some (.int .i64 c.D) := B0.out.cell 0 rfl
  have x1 : W.cell? ⟨w.heap.size, 1, none⟩ = some (.int .i64 c.B) := B0.out.cell 1 rfl
  have x2 : W.cell? ⟨w.heap.size, 2, none⟩ = some (.int .i64 c.S) := B0.out.cell 2 rfl
  have x3 : W.cell? ⟨w.heap.size, 3, none⟩ = some (.int .i64 c.P) := B0.out.cell 3 rfl
  have x4 : W.cell? ⟨w.heap.size, 4, none⟩ = some (.int .i64 c.H) := B0.out.cell 4 rfl
  go_upto_region 3 with fail
  generalize hW : World.alloc W _ = W1
  have hal : Below W.heap.size W W1 := by rw [← hW]; exact (Below.refl W.heap.size W).alloc (Nat.le_refl _) _
  have B1 := Lib.hid (B0.out.below hal)
  have R1 := Lib.hid (show W1.heap[W.heap.size]? = some (.cells (fiveA c) 3 (0, 0)) by rw [← hW]; exact heap_alloc_new W _)
  clear hW hal x0 x1 x2 x3 x4 B0
  generalize W.heap.size = F at *
  go_wp2_with fail
  go_loopw [5] (fun v wr => ∃ i : Nat, i ≤ 5 ∧ v = .int .i64 i ∧ wr = W1 ∧ (∀ j, j < i → bb j = true)) (fun v _ => 5 - (intOf v).toNat)
  case atStart => exact ⟨0, by omega, rfl, rfl, fun j h => by omega⟩
  case round =>
    obtain ⟨i, hi, rfl, rfl, hj⟩ := hrel
    have HJ := Lib.hid hj
    clear hj
    by_cases hl : i < 5
    · have ci : wr.cell? ⟨F, i, none⟩ = some (.int .i64 (fiveF c i)) := (cell_of_row _ _ i _ _ _ R1.out).trans (fiveA_at c i hl)
      have i1 : (i : Int) < 5 := by omega
      have ob := O1.out i hl
      rw [Nat.zero_add] at ob
      have OB := Lib.hid ob
      clear ob
      by_cases q1 : fiveF c i < 1
      · have g1 : decide (fiveF c i < 1) = true := decide_eq_true q1
        go_wp2_with fail
        go_returns
        exact ⟨_, rfl, .bad i (by omega) (by rw [OB.out]; unfold inB; rw [decide_eq_false (show ¬ 1 ≤ fiveF c i by omega)]; rfl) HJ.out, B1.out.lo⟩
      · have g1 : decide (fiveF c i < 1) = false := decide_eq_false q1
        by_cases q2 : 100 < fiveF c i
        · have g2 : decide (100 < fiveF c i) = true := decide_eq_true q2
          go_wp2_with fail
          go_returns
          exact ⟨_, rfl, .bad i (by omega) (by rw [OB.out]; unfold inB; rw [decide_eq_false (show ¬ fiveF c i ≤ 100 by omega), Bool.and_false]) HJ.out, B1.out.lo⟩
        · have g2 : decide (100 < fiveF c i) = false := decide_eq_false q2
          go_wp2_with fail
          go_roundw
          case rel => exact ⟨i + 1, by omega, by go_num, trivial, fun j h => by
            by_cases hj : j = i
            · subst hj; rw [OB.out]; exact inB_true' (by omega) (by omega)
            · exact HJ.out j (by omega)⟩
          case measure => simp [intOf]; omega
    · obtain rfl : i = 5 := by omega
      clear hi hl R1
      have x5 : wr.cell? ⟨w.heap.size, 5, none⟩ = some (.int .i64 c.Cap) := B1.out.cell 5 rfl
      have x6 : wr.cell? ⟨w.heap.size, 6, none⟩ = some (.int .i64 c.Qmin) := B1.out.cell 6 rfl
      have x7 : wr.cell? ⟨w.heap.size, 7, none⟩ = some (.int .i64 c.Imax) := B1.out.cell 7 rfl
      have x8 : wr.cell? ⟨w.heap.size, 8, none⟩ = some (.int .i64 c.Trip) := B1.out.cell 8 rfl
      have x9 : wr.cell? ⟨w.heap.size, 9, none⟩ = some (.int .i64 c.Vmin) := B1.out.cell 9 rfl
      have x10 : wr.cell? ⟨w.heap.size, 10, none⟩ = some (.int .i64 c.Vdark) := B1.out.cell 10 rfl
      have x11 : wr.cell? ⟨w.heap.size, 11, none⟩ = some (.int .i64 c.CellMin) := B1.out.cell 11 rfl
      have x12 : wr.cell? ⟨w.heap.size, 12, none⟩ = some (.int .i64 c.CellMax) := B1.out.cell 12 rfl
      have x13 : wr.cell? ⟨w.heap.size, 13, none⟩ = some (.int .i64 c.CellGap) := B1.out.cell 13 rfl
      have x14 : wr.cell? ⟨w.heap.size, 14, none⟩ = some (.int .i64 c.TempMax) := B1.out.cell 14 rfl
      have x15 : wr.cell? ⟨w.heap.size, 15, none⟩ = some (.int .i64 c.Coil) := B1.out.cell 15 rfl
      have x16 : wr.cell? ⟨w.heap.size, 16, none⟩ = some (.int .i64 c.Ohm) := B1.out.cell 16 rfl
      have x17 : wr.cell? ⟨w.heap.size, 17, none⟩ = some (.int .i64 c.SagErr) := B1.out.cell 17 rfl
      have x18 : wr.cell? ⟨w.heap.size, 18, none⟩ = some (.int .i64 c.AmpErr) := B1.out.cell 18 rfl
      have x19 : wr.cell? ⟨w.heap.size, 19, none⟩ = some (.int .i64 c.Drift) := B1.out.cell 19 rfl
      go_upto_region 9 with fail
      generalize hW : World.alloc wr _ = Wa
      have hal : Below wr.heap.size wr Wa := by rw [← hW]; exact (Below.refl wr.heap.size wr).alloc (Nat.le_refl _) _
      have Ba := Lib.hid (B1.out.below hal)
      have ha : Wa.heap[wr.heap.size]? = some (.cells (midA c) 2 (0, 0)) := by rw [← hW]; exact heap_alloc_new wr _
      have sa : Wa.heap.size = wr.heap.size + 1 := by rw [← hW]; simp
      clear hW B1 hal x5 x6 x7 x8 x9 x10 x11 x12 x13 x14 x15 x16 x17 x18 x19
      have x11 : Wa.cell? ⟨w.heap.size, 11, none⟩ = some (.int .i64 c.CellMin) := Ba.out.cell 11 rfl
      have RA := Lib.hid ha
      have SA := Lib.hid sa
      clear ha sa
      go_upto_region 10 with fail
      generalize hW : World.alloc Wa _ = Wb
      have hal : Below Wa.heap.size Wa Wb := by rw [← hW]; exact (Below.refl Wa.heap.size Wa).alloc (Nat.le_refl _) _
      have Bb := Lib.hid (Ba.out.below hal)
      have hb1 : Wb.heap[Wa.heap.size]? = some (.cells (midLoA c) 2 (0, 0)) := by rw [← hW]; exact heap_alloc_new Wa _
      have RA2 := Lib.hid ((hal.block _ (by rw [SA.out]; omega)).trans RA.out)
      have sb : Wb.heap.size = Wa.heap.size + 1 := by rw [← hW]; simp
      clear hW Ba hal x11 RA
      have x5 : Wb.cell? ⟨w.heap.size, 5, none⟩ = some (.int .i64 c.Cap) := Bb.out.cell 5 rfl
      have RB := Lib.hid hb1
      have SB := Lib.hid sb
      clear hb1 sb
      go_upto_region 11 with fail
      generalize hW : World.alloc Wb _ = W2
      have hal : Below Wb.heap.size Wb W2 := by rw [← hW]; exact (Below.refl Wb.heap.size Wb).alloc (Nat.le_refl _) _
      have B2 := Lib.hid (Bb.out.below hal)
      have hc1 : W2.heap[Wb.heap.size]? = some (.cells (midHiA c) 2 (0, 0)) := by rw [← hW]; exact heap_alloc_new Wb _
      have hb1 := (hal.block _ (by rw [SB.out]; omega)).trans RB.out
      have ha1 := (hal.block _ (by rw [SB.out, SA.out]; omega)).trans RA2.out
      have M0 := Lib.hid (fun i hi => (cell_of_row W2 _ i _ _ _ ha1).trans (midA_at c i hi))
      have M1 := Lib.hid (fun i hi => (cell_of_row W2 _ i _ _ _ hb1).trans (midLoA_at c i hi))
      have M2 := Lib.hid (fun i hi => (cell_of_row W2 _ i _ _ _ hc1).trans (midHiA_at c i hi))
      clear hW Bb hal x5 RB RA2 ha1 hb1 hc1 SA SB
      go_wp2_with fail
      go_loopw [9] (fun v wr => ∃ i : Nat, i ≤ 15 ∧ v = .int .i64 i ∧ Below W2.heap.size W2 wr ∧ (∀ j, j < i → bb (5 + j) = true)) (fun v _ => 15 - (intOf v).toNat)
      case atStart => exact ⟨0, by omega, rfl, Below.refl _ _, fun j h => by omega⟩
      case round =>
        obtain ⟨i, hi, rfl, hb, hj⟩ := hrel
        have HB := Lib.hid hb
        have H2 := Lib.hid (upto HJ.out hj)
        have HJ2 := Lib.hid hj
        clear hb hj
        by_cases hl : i < 15
        · have y0 := below_cell HB.out (M0.out i hl)
          have y1 := below_cell HB.out (M1.out i hl)
          have y2 := below_cell HB.out (M2.out i hl)
          have s0 := fun d => below_cell (reach_below wr.heap.size wr d) y0
          have s1 := fun d => below_cell (reach_below wr.heap.size wr d) y1
          have s2 := fun d => below_cell (reach_below wr.heap.size wr d) y2
          have i1 : (i : Int) < 15 := by omega
          have OB := Lib.hid (O2.out i hl)
          obtain ⟨bv, hbv⟩ : ∃ bv, inB (midF c i) (midLoF c i) (midHiF c i) = bv := ⟨_, rfl⟩
          have KM := Lib.hid fun w => KB.out (midF c i) (midLoF c i) (midHiF c i) w
          rw [hbv] at KM OB
          clear hbv y0 y1 y2
          go_upto_region 14 with fail
          refine wp_region_reach wr.heap.size (by kernel_rfl) (by kernel_rfl) ?_
          repeat (go_big_quiet_step ((go_at_call 48; with_reducible exact reach_call0 (KM.out _))))
          refine wpQuiet_nil ?_
          rintro w' ⟨d, rfl⟩
          have BR := Lib.hid (HB.out.trans ((reach_below wr.heap.size wr d).mono HB.out.size))
          clear s0 s1 s2
          generalize reach wr.heap.size wr d = w5 at *
          cases bv
          · go_wp2_with fail
            go_returns
            refine ⟨_, rfl, ?_, (B2.out.below BR.out).lo⟩
            have := NumIs.bad (b := bb) (5 + i) (by omega) OB.out H2.out
            rwa [show ((5 + i : Nat) : Int) + 1 = (i : Int) + 6 by omega] at this
          · go_wp2_with fail
            go_roundw
            case rel => exact ⟨i + 1, by omega, by go_num, BR.out, fun j h => by
              by_cases hj : j = i
              · subst hj; exact OB.out
              · exact HJ2.out j (by omega)⟩
            case measure => simp [intOf]; omega
        · obtain rfl : i = 15 := by omega
          have B3 := Lib.hid (B2.out.below HB.out)
          clear hi hl B2 M0 M1 M2 HB HJ2
          have P3 := Lib.hid (H.out.below B3.out.lo)
          have G3 := Lib.hid (G.out.below B3.out.lo)
          obtain ⟨vc, vp, vk, hv⟩ := verdict n x y
          have hB : wr.heap.size ≤ wr.heap.size := Nat.le_refl _
          have s20 := fun d => below_cell (reach_below wr.heap.size wr d) (show wr.cell? ⟨w.heap.size, 20, none⟩ = some (.slice a n cp) from B3.out.cell 20 rfl)
          have s5 := fun d => below_cell (reach_below wr.heap.size wr d) (show wr.cell? ⟨w.heap.size, 5, none⟩ = some (.int .i64 c.Cap) from B3.out.cell 5 rfl)
          have KT := Lib.hid fun d => refCheckK a n cp hn x y hv (reach wr.heap.size wr d) (P3.out.below (reach_below wr.heap.size wr d))
          have FF := Lib.hid fun d => fault_f0 vc vp vk d
          go_upto_region 16 with fail
          have VF := Lib.hid (verd_fine hv)
          clear hv
          by_cases T : TabOk n x y
          · obtain rfl := VF.out.2 T
            have ff := FF.out
            have n0 : (((0 : Int) != 0)) = false := by decide
            have i0 : (0 : Int) < (n : Int) := by have := T.n2; omega
            obtain ⟨p, rfl, d0, d1⟩ := P3.out 0 (by have := T.n2; omega)
            obtain ⟨q, hq, f0, f1⟩ := P3.out (n - 1) (by have := T.n2; omega)
            cases hq
            rw [show p.add (0 * 2) = p by simp [Addr.add]] at d0
            have i1 : IntKind.i64.wrap ((n : Int) - 1) = (n : Int) - 1 := IntWalk.i64_in _ (by have := T.n2; omega)
            have i2 : (n : Int) - 1 < (n : Int) := by omega
            have i3 : ((n : Int) - 1).toNat = n - 1 := by omega
            have s0 := fun d => below_cell (reach_below wr.heap.size wr d) d0
            have s1 := fun d => below_cell (reach_below wr.heap.size wr d) f0
            have TT := Lib.hid T
            clear T d1 f1
            by_cases q0 : x 0 = 0
            · by_cases q1 : x (n - 1) = c.Cap
              · have OT := Lib.hid (show o = true from HO.out.2 ⟨TT.out, q0, q1⟩)
                rw [q0] at s0 d0
                rw [q1] at s1 f0
                have e1 : (c.Cap != c.Cap) = false := by simp
                clear q0 q1
                refine wp_region_reach wr.heap.size (by kernel_rfl) (by kernel_rfl) ?_
                repeat (go_big_quiet_step ((go_at_call 49; with_reducible exact reach_call hB (KT.out _))))
                refine wpQuiet_nil ?_
                rintro w' ⟨d, rfl⟩
                have BR := Lib.hid (B3.out.reach d)
                have GR := Lib.hid (G3.out.below (reach_below wr.heap.size wr d))
                clear s20 s5 s0 s1 d0 f0 e1 i0 i1 i2 i3 ff n0 KT FF P3 G3 B3
                generalize reach wr.heap.size wr d = w5 at *
                have x21 : w5.cell? ⟨w.heap.size, 21, none⟩ = some (.int .i64 c.GenMax) := BR.out.cell 21 rfl
                have x22 : w5.cell? ⟨w.heap.size, 22, none⟩ = some (.int .i64 c.BatMax) := BR.out.cell 22 rfl
                have x23 : w5.cell? ⟨w.heap.size, 23, none⟩ = some (.int .i64 c.ExtMax) := BR.out.cell 23 rfl
                have x24 : w5.cell? ⟨w.heap.size, 24, none⟩ = some (.int .i64 c.Eland) := BR.out.cell 24 rfl
                go_upto_region 19 with fail
                generalize hW : World.alloc w5 _ = W6
                have hal : Below w5.heap.size w5 W6 := by rw [← hW]; exact (Below.refl w5.heap.size w5).alloc (Nat.le_refl _) _
                have B6 := Lib.hid (BR.out.below hal)
                have G6 := Lib.hid (GR.out.below hal)
                have h6 : W6.heap[w5.heap.size]? = some (.cells (fourA c) 2 (0, 0)) := by rw [← hW]; exact heap_alloc_new w5 _
                have M6 := Lib.hid (fun i hi => (cell_of_row W6 _ i _ _ _ h6).trans (fourA_at c i hi))
                clear hW hal x21 x22 x23 x24 BR GR h6
                go_wp2_with fail
                go_loopw [11] (fun v wr => ∃ i : Nat, i ≤ 4 ∧ v = .int .i64 i ∧ wr = W6 ∧ (∀ j, j < i → bb (21 + j) = true)) (fun v _ => 4 - (intOf v).toNat)
                case atStart => exact ⟨0, by omega, rfl, rfl, fun j h => by omega⟩
                case round =>
                  obtain ⟨i, hi, rfl, rfl, hj⟩ := hrel
                  have H21 : ∀ j, j < 21 → bb j = true := fun j hj' => by
                    by_cases e : j = 20
                    · subst e; rw [O4.out]; exact OT.out
                    · exact H2.out j (by omega)
                  have H4 := Lib.hid (upto H21 hj)
                  have HJ4 := Lib.hid hj
                  clear H21 hj
                  by_cases hl : i < 4
                  · have y0 := M6.out i hl
                    have i1 : (i : Int) < 4 := by omega
                    have OB := Lib.hid (O3.out i hl)
                    obtain ⟨bv, hbv⟩ : ∃ bv, inB (fourF c i) 0 1073741824 = bv := ⟨_, rfl⟩
                    have KM := Lib.hid fun w => KB.out (fourF c i) 0 1073741824 w
                    rw [hbv] at KM OB
                    clear hbv
                    cases bv
                    · go_wp2_with fail
                      refine (KM.out _).mono ?_
                      rintro e w' ⟨rfl, rfl⟩
                      go_wp2_with fail
                      go_returns
                      refine ⟨_, rfl, ?_, B6.out.lo⟩
                      have := NumIs.bad (b := bb) (21 + i) (by omega) OB.out H4.out
                      rwa [show ((21 + i : Nat) : Int) + 1 = (i : Int) + 22 by omega] at this
                    · go_wp2_with fail
                      refine (KM.out _).mono ?_
                      rintro e w' ⟨rfl, rfl⟩
                      go_wp2_with fail
                      go_roundw
                      case rel => exact ⟨i + 1, by omega, by go_num, trivial, fun j h => by
                        by_cases hj : j = i
                        · subst hj; exact OB.out
                        · exact HJ4.out j (by omega)⟩
                      case measure => simp [intOf]; omega
                  · obtain rfl : i = 4 := by omega
                    clear hi hl M6 HJ4
                    have x25 : wr.cell? ⟨w.heap.size, 25, none⟩ = some (.int .i64 c.Margin) := B6.out.cell 25 rfl
                    have x7 : wr.cell? ⟨w.heap.size, 7, none⟩ = some (.int .i64 c.Imax) := B6.out.cell 7 rfl
                    have x26 : wr.cell? ⟨w.heap.size, 26, none⟩ = some (.slice b m cq) := B6.out.cell 26 rfl
                    obtain ⟨bv, hbv⟩ : ∃ bv, inB c.Margin c.Imax 1073741824 = bv := ⟨_, rfl⟩
                    have KM := Lib.hid fun w => KB.out c.Margin c.Imax 1073741824 w
                    rw [hbv] at KM O5
                    clear hbv
                    cases bv
                    · go_wp2_with fail
                      refine (KM.out _).mono ?_
                      rintro e w' ⟨rfl, rfl⟩
                      go_wp2_with fail
                      go_returns
                      exact ⟨_, rfl, .bad 25 (by omega) O5.out H4.out, B6.out.lo⟩
                    · have H26 : ∀ j, j < 26 → bb j = true := fun j hj' => by
                        by_cases e : j = 25
                        · subst e; exact O5.out
                        · exact H4.out j (by omega)
                      have H7 := Lib.hid H26
                      clear H26 H4
                      by_cases big : 16 < m
                      · have g1 : decide ((16 : Int) < (m : Int)) = true := decide_eq_true (by omega)
                        have OF := Lib.hid (show f = false by
                          cases f with
                          | false => rfl
                          | true => have := (HF.out.1 rfl).1; omega)
                        go_wp2_with fail
                        refine (KM.out _).mono ?_
                        rintro e w' ⟨rfl, rfl⟩
                        go_wp2_with fail
                        go_returns
                        exact ⟨_, rfl, .bad 26 (by omega) (by rw [O6.out]; exact OF.out) H7.out, B6.out.lo⟩
                      · have g1 : decide ((16 : Int) < (m : Int)) = false := decide_eq_false (by omega)
                        go_wp2_with fail
                        refine (KM.out _).mono ?_
                        rintro e w' ⟨rfl, rfl⟩
                        go_wp2_with fail
                        clear x25 x7 x26 KM
                        rename World => W8
                        go_loopw [12] (fun v w8 => ∃ i : Nat, i ≤ m ∧ v = .int .i64 i ∧ (∀ j, j < i → goodFed bu lo pr j = true) ∧ Below W8.heap.size W8 w8) (fun v _ => m - (intOf v).toNat)
                        case atStart => exact ⟨0, by omega, rfl, fun j h => by omega, Below.refl _ _⟩
                        case round =>
                          obtain ⟨i, hi, rfl, hj, hb⟩ := hrel
                          have HB := Lib.hid hb
                          have HJ9 := Lib.hid hj
                          have BX := Lib.hid (B6.out.below hb)
                          clear hb hj
                          have x26 : wr.cell? ⟨w.heap.size, 26, none⟩ = some (.slice b m cq) := BX.out.cell 26 rfl
                          by_cases hl : i < m
                          · obtain ⟨p, rfl, c0, c1, c2⟩ := (G6.out.below HB.out) i hl
                            have i1 : (i : Int) < (m : Int) := by omega
                            have HG := Lib.hid (show goodFed bu lo pr i = (inB (bu i) 4 6 && (inB (lo i) 0 1073741824 && inB (pr i) 0 100)) from rfl)
                            have fbad : goodFed bu lo pr i = false → f = false := fun e => by
                              cases hf' : f with
                              | false => rfl
                              | true => have := (HF.out.1 hf').2 i hl; rw [e] at this; cases this
                            have FBAD := Lib.hid fbad
                            clear fbad
                            obtain ⟨bv, hbv⟩ : ∃ bv, inB (lo i) 0 1073741824 = bv := ⟨_, rfl⟩
                            have KL := Lib.hid fun w => KB.out (lo i) 0 1073741824 w
                            rw [hbv] at KL HG
                            clear hbv
                            go_upto_region 32 with fail
                            have hal := (Below.refl wr.heap.size wr).alloc (Nat.le_refl _) (.cells #[.int .i64 (bu i), .int .i64 (lo i), .int .i64 (pr i)] 50)
                            have F0 := Lib.hid (Bx.new wr #[.int .i64 (bu i), .int .i64 (lo i), .int .i64 (pr i)] 50)
                            have HB2 := Lib.hid (HB.out.trans (hal.mono HB.out.size))
                            clear hal c0 c1 c2 HB BX x26
                            generalize World.alloc wr _ = W9 at *
                            have z0 : W9.cell? ⟨wr.heap.size, 0, none⟩ = some (.int .i64 (bu i)) := F0.out.cell 0 rfl
                            have z1 : W9.cell? ⟨wr.heap.size, 1, none⟩ = some (.int .i64 (lo i)) := F0.out.cell 1 rfl
                            have z2 : W9.cell? ⟨wr.heap.size, 2, none⟩ = some (.int .i64 (pr i)) := F0.out.cell 2 rfl
                            by_cases q1 : bu i < 4
                            · have g2 : decide (bu i < 4) = true := decide_eq_true q1
                              have OF := Lib.hid (FBAD.out (by rw [HG.out, inB_lo (by omega)]; rfl))
                              go_wp2_with fail
                              go_returns
                              exact ⟨_, rfl, .bad 26 (by omega) (by rw [O6.out]; exact OF.out) H7.out, (B6.out.below HB2.out).lo⟩
                            have g2 : decide (bu i < 4) = false := decide_eq_false q1
                            by_cases q2 : 6 < bu i
                            · have g3 : decide (6 < bu i) = true := decide_eq_true q2
                              have OF := Lib.hid (FBAD.out (by rw [HG.out, inB_hi (by omega)]; rfl))
                              go_wp2_with fail
                              go_returns
                              exact ⟨_, rfl, .bad 26 (by omega) (by rw [O6.out]; exact OF.out) H7.out, (B6.out.below HB2.out).lo⟩
                            have g3 : decide (6 < bu i) = false := decide_eq_false q2
                            cases bv
                            · have OF := Lib.hid (FBAD.out (by rw [HG.out, Bool.false_and, Bool.and_false]))
                              go_wp2_with fail
                              refine (KL.out _).mono ?_
                              rintro e w' ⟨rfl, rfl⟩
                              go_wp2_with fail
                              go_returns
                              exact ⟨_, rfl, .bad 26 (by omega) (by rw [O6.out]; exact OF.out) H7.out, (B6.out.below HB2.out).lo⟩
                            by_cases q3 : pr i < 0
                            · have g4 : decide (pr i < 0) = true := decide_eq_true q3
                              have OF := Lib.hid (FBAD.out (by rw [HG.out, inB_lo (x := pr i) (by omega), Bool.and_false, Bool.and_false]))
                              go_wp2_with fail
                              refine (KL.out _).mono ?_
                              rintro e w' ⟨rfl, rfl⟩
                              go_wp2_with fail
                              go_returns
                              exact ⟨_, rfl, .bad 26 (by omega) (by rw [O6.out]; exact OF.out) H7.out, (B6.out.below HB2.out).lo⟩
                            have g4 : decide (pr i < 0) = false := decide_eq_false q3
                            by_cases q4 : 100 < pr i
                            · have g5 : decide (100 < pr i) = true := decide_eq_true q4
                              have OF := Lib.hid (FBAD.out (by rw [HG.out, inB_hi (x := pr i) (by omega), Bool.and_false, Bool.and_false]))
                              go_wp2_with fail
                              refine (KL.out _).mono ?_
                              rintro e w' ⟨rfl, rfl⟩
                              go_wp2_with fail
                              go_returns
                              exact ⟨_, rfl, .bad 26 (by omega) (by rw [O6.out]; exact OF.out) H7.out, (B6.out.below HB2.out).lo⟩
                            have g5 : decide (100 < pr i) = false := decide_eq_false q4
                            have OK := Lib.hid (show goodFed bu lo pr i = true by rw [HG.out, inB_true' (x := bu i) (by omega) (by omega), inB_true' (x := pr i) (by omega) (by omega)]; rfl)
                            go_wp2_with fail
                            refine (KL.out _).mono ?_
                            rintro e w' ⟨rfl, rfl⟩
                            go_wp2_with fail
                            go_roundw
                            case rel => exact ⟨i + 1, by omega, by go_num, fun j h => by
                              by_cases hj : j = i
                              · subst hj; exact OK.out
                              · exact HJ9.out j (by omega), HB2.out⟩
                            case measure => simp [intOf]; omega
                          · go_wp2_with fail
                            go_returns
                            refine ⟨_, rfl, .fine (fun j hj => ?_), BX.out.lo⟩
                            by_cases e : j = 26
                            · subst e; rw [O6.out]; exact HF.out.2 ⟨by omega, fun j h => HJ9.out j (by omega)⟩
                            · exact H7.out j (by omega)
              · have OF := Lib.hid (show o = false by
                  cases o with
                  | false => rfl
                  | true => exact absurd (HO.out.1 rfl).2.2 q1)
                have e1 : (x (n - 1) != c.Cap) = true := by simp [q1]
                rw [q0] at s0 d0
                clear q0 q1
                refine wp_region_reach wr.heap.size (by kernel_rfl) (by kernel_rfl) ?_
                repeat (go_big_quiet_step ((go_at_call 49; with_reducible exact reach_call hB (KT.out _))))
                refine wpQuiet_nil ?_
                rintro w' ⟨d, rfl⟩
                have BR := Lib.hid (B3.out.reach d)
                clear s20 s5 s0 s1
                generalize reach wr.heap.size wr d = w5 at *
                go_wp2_with fail
                go_returns
                exact ⟨_, rfl, .bad 20 (by omega) (by rw [O4.out]; exact OF.out) H2.out, BR.out.lo⟩
            · have OF := Lib.hid (show o = false by
                cases o with
                | false => rfl
                | true => exact absurd (HO.out.1 rfl).2.1 q0)
              have e0 : (x 0 != 0) = true := by simp [q0]
              refine wp_region_reach wr.heap.size (by kernel_rfl) (by kernel_rfl) ?_
              repeat (go_big_quiet_step ((go_at_call 49; with_reducible exact reach_call hB (KT.out _))))
              refine wpQuiet_nil ?_
              rintro w' ⟨d, rfl⟩
              have BR := Lib.hid (B3.out.reach d)
              clear s20 s5 s0 s1
              generalize reach wr.heap.size wr d = w5 at *
              go_wp2_with fail
              go_returns
              exact ⟨_, rfl, .bad 20 (by omega) (by rw [O4.out]; exact OF.out) H2.out, BR.out.lo⟩
          · have OF := Lib.hid (show o = false by
              cases o with
              | false => rfl
              | true => exact absurd (HO.out.1 rfl).1 T)
            have e0 : (vc != 0) = true := by
              have : vc ≠ 0 := fun h => T (VF.out.1 h)
              simp [this]
            have ff := FF.out
            refine wp_region_reach wr.heap.size (by kernel_rfl) (by kernel_rfl) ?_
            repeat (go_big_quiet_step ((go_at_call 49; with_reducible exact reach_call hB (KT.out _))))
            refine wpQuiet_nil ?_
            rintro w' ⟨d, rfl⟩
            have BR := Lib.hid (B3.out.reach d)
            clear s20 s5
            generalize reach wr.heap.size wr d = w5 at *
            go_wp2_with fail
            go_returns
            exact ⟨_, rfl, .bad 20 (by omega) (by rw [O4.out]; exact OF.out) H2.out, BR.out.lo⟩
end Go.Proofs.YtbeemfkndpandaaDoor
