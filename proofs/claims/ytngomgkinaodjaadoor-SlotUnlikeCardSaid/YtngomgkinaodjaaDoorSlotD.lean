/- SlotUnlike: unlike records have unlike bytes. Conditions: the seven errors lie apart. -/
import Derived.Test.YtngomgkinaodjaaDoorSlotM
import Derived.Test.YtngomgkinaodjaaDoorSlotF
import Derived.Test.YtngomgkinaodjaaDoorLex
import Derived.Test.YtngomgkinaodjaaDoorTail
namespace Go.Proofs.YtngomgkinaodjaaDoor
open Go Go.RowKit
set_option linter.unusedVariables false
set_option maxRecDepth 20000
theorem tmod_s (a : Int) (b : Int) (hb : 0 < b) : -b < a.tmod b ∧ a.tmod b < b := by
  have h1 := Int.tmod_lt_of_pos a hb
  have h2 := Int.tmod_lt_of_pos (-a) hb
  rw [Int.neg_tmod] at h2
  omega
set_option maxHeartbeats 16000000 in
theorem walkSlotUnlike (a0 : Int) (a1 : Int) (a2 : Int) (a3 : Int) (a4 : Int) (w : World) (w0 : (Lit.int .u32 a0).wf = true) (w1 : (Lit.int .u32 a1).wf = true) (w2 : (Lit.int .i64 a2).wf = true) (w3 : (Lit.int .i64 a3).wf = true) (w4 : (Lit.int .i64 a4).wf = true) (hE : ∃ E, Ers E w) :
    Calls Tryd.prog 11 #[.int .u32 a0, .int .u32 a1, .int .i64 a2, .int .i64 a3, .int .i64 a4] w fun e w' => e = .returned (.bool true) ∧ Below w.heap.size w w' := by
  obtain ⟨E, hE⟩ := hE
  have HE := Lib.hid hE
  have s0 : 0 ≤ a0 ∧ a0 < 4294967296 := by
    simp only [Lit.wf, IntKind.min, IntKind.max, IntKind.signed, IntKind.bits, Bool.and_eq_true] at w0
    simp at w0
    omega
  have s1 : 0 ≤ a1 ∧ a1 < 4294967296 := by
    simp only [Lit.wf, IntKind.min, IntKind.max, IntKind.signed, IntKind.bits, Bool.and_eq_true] at w1
    simp at w1
    omega
  have bm := bounds_i64 w4
  have bp := bounds_i64 w2
  have bq := bounds_i64 w3
  clear hE w0 w1 w2 w3 w4
  have t2 := tmod_s a2 1000 (by omega)
  have t3 := tmod_s a3 1000 (by omega)
  have t4 := tmod_s a4 5 (by omega)
  go_enter Tryd.func11, Tryd.ntmps11
  go_wp2_with fail
  refine (first11 _ HE.out).mono ?_
  rintro e wa ⟨rfl, hba⟩
  have HA := Lib.hid hba
  clear hba
  have u2 : IntKind.i64.wrap (a2.tmod 1000 + 1000) = a2.tmod 1000 + 1000 := IntWalk.i64_in _ (by omega)
  have u3 : IntKind.i64.wrap (a3.tmod 1000 + 1000) = a3.tmod 1000 + 1000 := IntWalk.i64_in _ (by omega)
  have u4 : IntKind.i64.wrap (a4.tmod 5 + 5) = a4.tmod 5 + 5 := IntWalk.i64_in _ (by omega)
  have v2 : (a2.tmod 1000 + 1000).tmod 1000 = (a2.tmod 1000 + 1000) % 1000 := Int.tmod_eq_emod_of_nonneg (by omega)
  have v3 : (a3.tmod 1000 + 1000).tmod 1000 = (a3.tmod 1000 + 1000) % 1000 := Int.tmod_eq_emod_of_nonneg (by omega)
  have v4 : (a4.tmod 5 + 5).tmod 5 = (a4.tmod 5 + 5) % 5 := Int.tmod_eq_emod_of_nonneg (by omega)
  have x4 : IntKind.i64.wrap (1 + (a4.tmod 5 + 5) % 5) = 1 + (a4.tmod 5 + 5) % 5 := IntWalk.i64_in _ (by omega)
  go_upto_region 6 with fail
  have hp : 0 ≤ a2.tmod 1000 % 1000 ∧ a2.tmod 1000 % 1000 < 1000 := ⟨Int.emod_nonneg _ (by omega), Int.emod_lt_of_pos _ (by omega)⟩
  have hq : 0 ≤ a3.tmod 1000 % 1000 ∧ a3.tmod 1000 % 1000 < 1000 := ⟨Int.emod_nonneg _ (by omega), Int.emod_lt_of_pos _ (by omega)⟩
  have hm : 1 ≤ 1 + a4.tmod 5 % 5 ∧ 1 + a4.tmod 5 % 5 ≤ 5 := by
    have h1 := Int.emod_nonneg (a4.tmod 5) (show (5 : Int) ≠ 0 by omega)
    have h2 := Int.emod_lt_of_pos (a4.tmod 5) (show (0 : Int) < 5 by omega)
    omega
  clear u2 u3 u4 v2 v3 v4 x4 t2 t3 t4 bm bp bq
  generalize 1 + a4.tmod 5 % 5 = m at *
  generalize a2.tmod 1000 % 1000 = p at *
  generalize a3.tmod 1000 % 1000 = q at *
  have KP := Lib.hid fun (u : World) => slotBytes (RecOk.mk (mode := 1) (locks := 0) (a := 0) (b := p) (c := 0) (d := 0) s0 (by omega) (by omega) (by omega) (by omega)) u
  have KR := Lib.hid fun (u : World) => slotBytes (RecOk.mk (mode := m) (locks := 0) (a := 0) (b := q) (c := 0) (d := 0) s1 hm (by omega) (by omega) (by omega)) u
  have KO := Lib.hid fun (u : World) => sameRecC a0 1 0 0 p 0 0 a1 m 0 0 q 0 0 u
  have S7 := rf_same a0 1 p a1 m q s0 s1 hp hq
  generalize ((a0 == a1) && (((1 : Int) == m) && (((0 : Int) == 0) && ((((0 : Int) == 0) && (p == q)) && (((0 : Int) == 0) && ((0 : Int) == 0)))))) = sm at *
  have S7 := Lib.hid S7
  clear s0 s1 hm hp hq
  have B1 := Lib.hid (Bx2.new wa #[.int .u32 a0, .int .i64 1, .int .u32 0, .int .i64 0, .int .i64 p, .int .i64 0, .int .i64 0] 51 #[.int .u32 a1, .int .i64 m, .int .u32 0, .int .i64 0, .int .i64 q, .int .i64 0, .int .i64 0] 51)
  have L1 := Lib.hid (HA.out.trans (B1.out.lo.mono HA.out.size))
  clear HA
  generalize World.alloc (World.alloc wa _) _ = w1 at *
  have x0 : w1.cell? ⟨wa.heap.size, 0, none⟩ = some (.int .u32 a0) := B1.out.cell1 0 rfl
  have x1 : w1.cell? ⟨wa.heap.size, 1, none⟩ = some (.int .i64 1) := B1.out.cell1 1 rfl
  have x2 : w1.cell? ⟨wa.heap.size, 2, none⟩ = some (.int .u32 0) := B1.out.cell1 2 rfl
  have x3 : w1.cell? ⟨wa.heap.size, 3, none⟩ = some (.int .i64 0) := B1.out.cell1 3 rfl
  have x4 : w1.cell? ⟨wa.heap.size, 4, none⟩ = some (.int .i64 p) := B1.out.cell1 4 rfl
  have x5 : w1.cell? ⟨wa.heap.size, 5, none⟩ = some (.int .i64 0) := B1.out.cell1 5 rfl
  have x6 : w1.cell? ⟨wa.heap.size, 6, none⟩ = some (.int .i64 0) := B1.out.cell1 6 rfl
  go_wp2_with fail
  refine (KP.out _).mono ?_
  rintro e w2 ⟨va, vc, rfl, ho, hb⟩
  have B2 := Lib.hid (B1.out.below hb)
  have L2 := Lib.hid (L1.out.trans (hb.mono L1.out.size))
  have YG := Lib.hid (rf_byt ho)
  clear hb ho B1 L1 x0 x1 x2 x3 x4 x5 x6
  have y0 : w2.cell? ⟨wa.heap.size + 1, 0, none⟩ = some (.int .u32 a1) := B2.out.cell2 0 rfl
  have y1 : w2.cell? ⟨wa.heap.size + 1, 1, none⟩ = some (.int .i64 m) := B2.out.cell2 1 rfl
  have y2 : w2.cell? ⟨wa.heap.size + 1, 2, none⟩ = some (.int .u32 0) := B2.out.cell2 2 rfl
  have y3 : w2.cell? ⟨wa.heap.size + 1, 3, none⟩ = some (.int .i64 0) := B2.out.cell2 3 rfl
  have y4 : w2.cell? ⟨wa.heap.size + 1, 4, none⟩ = some (.int .i64 q) := B2.out.cell2 4 rfl
  have y5 : w2.cell? ⟨wa.heap.size + 1, 5, none⟩ = some (.int .i64 0) := B2.out.cell2 5 rfl
  have y6 : w2.cell? ⟨wa.heap.size + 1, 6, none⟩ = some (.int .i64 0) := B2.out.cell2 6 rfl
  go_wp2_with fail
  refine (KR.out _).mono ?_
  rintro e w9 ⟨vb, vd, rfl, ho, hb⟩
  have B9 := Lib.hid (B2.out.below hb)
  have L9 := Lib.hid (L2.out.trans (hb.mono L2.out.size))
  have YG9 := Lib.hid (YG.out.below hb)
  have YH9 := Lib.hid (rf_byt ho)
  clear hb ho B2 YG L2 y0 y1 y2 y3 y4 y5 y6 KP KR
  go_upto_region 8 with fail
  have ra0 := fun u => below_cell (reach_below w9.heap.size w9 u) (show w9.cell? ⟨wa.heap.size, 0, none⟩ = some (.int .u32 a0) from B9.out.cell1 0 rfl)
  have ra1 := fun u => below_cell (reach_below w9.heap.size w9 u) (show w9.cell? ⟨wa.heap.size, 1, none⟩ = some (.int .i64 1) from B9.out.cell1 1 rfl)
  have ra2 := fun u => below_cell (reach_below w9.heap.size w9 u) (show w9.cell? ⟨wa.heap.size, 2, none⟩ = some (.int .u32 0) from B9.out.cell1 2 rfl)
  have ra3 := fun u => below_cell (reach_below w9.heap.size w9 u) (show w9.cell? ⟨wa.heap.size, 3, none⟩ = some (.int .i64 0) from B9.out.cell1 3 rfl)
  have ra4 := fun u => below_cell (reach_below w9.heap.size w9 u) (show w9.cell? ⟨wa.heap.size, 4, none⟩ = some (.int .i64 p) from B9.out.cell1 4 rfl)
  have ra5 := fun u => below_cell (reach_below w9.heap.size w9 u) (show w9.cell? ⟨wa.heap.size, 5, none⟩ = some (.int .i64 0) from B9.out.cell1 5 rfl)
  have ra6 := fun u => below_cell (reach_below w9.heap.size w9 u) (show w9.cell? ⟨wa.heap.size, 6, none⟩ = some (.int .i64 0) from B9.out.cell1 6 rfl)
  have rb0 := fun u => below_cell (reach_below w9.heap.size w9 u) (show w9.cell? ⟨wa.heap.size + 1, 0, none⟩ = some (.int .u32 a1) from B9.out.cell2 0 rfl)
  have rb1 := fun u => below_cell (reach_below w9.heap.size w9 u) (show w9.cell? ⟨wa.heap.size + 1, 1, none⟩ = some (.int .i64 m) from B9.out.cell2 1 rfl)
  have rb2 := fun u => below_cell (reach_below w9.heap.size w9 u) (show w9.cell? ⟨wa.heap.size + 1, 2, none⟩ = some (.int .u32 0) from B9.out.cell2 2 rfl)
  have rb3 := fun u => below_cell (reach_below w9.heap.size w9 u) (show w9.cell? ⟨wa.heap.size + 1, 3, none⟩ = some (.int .i64 0) from B9.out.cell2 3 rfl)
  have rb4 := fun u => below_cell (reach_below w9.heap.size w9 u) (show w9.cell? ⟨wa.heap.size + 1, 4, none⟩ = some (.int .i64 q) from B9.out.cell2 4 rfl)
  have rb5 := fun u => below_cell (reach_below w9.heap.size w9 u) (show w9.cell? ⟨wa.heap.size + 1, 5, none⟩ = some (.int .i64 0) from B9.out.cell2 5 rfl)
  have rb6 := fun u => below_cell (reach_below w9.heap.size w9 u) (show w9.cell? ⟨wa.heap.size + 1, 6, none⟩ = some (.int .i64 0) from B9.out.cell2 6 rfl)
  have hB := Nat.le_refl w9.heap.size
  have LW := Lib.hid fun (u : World) => L9.out.trans ((reach_below w9.heap.size w9 u).mono L9.out.size)
  have KF9 := Lib.hid (show ∀ (u : World), Calls Tryd.prog 18 #[.slice va 44 vc, .slice vb 44 vd] (reach w9.heap.size w9 u) fun e w' => e = .returned (.bool sm) ∧ Below (reach w9.heap.size w9 u).heap.size (reach w9.heap.size w9 u) w' by
    intro u
    have := sameBytesC (ca := vc) (cb := vd) (by omega) (reach w9.heap.size w9 u) (YG9.out.below (reach_below _ _ u)) (YH9.out.below (reach_below _ _ u))
    rw [S7.out] at this
    exact this)
  have KO9 := Lib.hid fun (u : World) => KO.out (reach w9.heap.size w9 u)
  have ES : (sm == sm) = true := by simp
  refine wp_region_reach w9.heap.size (by kernel_rfl) (by kernel_rfl) ?_
  repeat (go_big_quiet_step (first | (go_at_call 18; with_reducible exact reach_call hB (KF9.out _)) | (go_at_call 30; with_reducible exact reach_call hB (KO9.out _))))
  refine wpQuiet_nil ?_
  rintro w' ⟨d, rfl⟩
  go_wp2_with fail
  go_returns
  exact ⟨rfl, LW.out d⟩
end Go.Proofs.YtngomgkinaodjaaDoor
