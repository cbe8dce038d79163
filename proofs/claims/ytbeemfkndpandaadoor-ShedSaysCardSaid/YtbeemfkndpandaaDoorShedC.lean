/- Which batteries are charged. Conditions: the table of ends lies as the text lays it. -/
import Derived.Test.YtbeemfkndpandaaDoorShedF
import Derived.Test.YtbeemfkndpandaaDoorNumb
import Derived.Test.YtbeemfkndpandaaDoorBox3
namespace Go.Proofs.YtbeemfkndpandaaDoor
open Go Go.RowKit
set_option linter.unusedVariables false
set_option maxRecDepth 20000
/-- May the battery whose bus b's source is f be charged? -/
def okC (f : Int) (u : Bool) (fl hi cap : Int) : Bool := (f == 0 || f == 3) && (u && (bits BinOp.and IntKind.i64 fl 10 == 0)) && decide (hi < cap)
def chV (o0 o1 : Bool) : Int := (if o1 then orI (if o0 then orI 0 0 else 0) 1 else if o0 then orI 0 0 else 0)
theorem orI0 (x : Int) : orI x 0 = bits BinOp.or IntKind.i64 x 1 := by unfold orI; rw [show wrap64 ((2 : Int) ^ 0) = 1 by decide +kernel]
theorem orI1 (x : Int) : orI x 1 = bits BinOp.or IntKind.i64 x 2 := by unfold orI; rw [show wrap64 ((2 : Int) ^ 1) = 2 by decide +kernel]
theorem idx45_0 (w : World) : (Instr.index 23 (.agg #[.int .i64 4, .int .i64 5]) (.int .i64 0)).run Tryd.prog w = .ok (.int .i64 4) w := by kernel_rfl
theorem idx45_1 (w : World) : (Instr.index 23 (.agg #[.int .i64 4, .int .i64 5]) (.int .i64 1)).run Tryd.prog w = .ok (.int .i64 5) w := by kernel_rfl
def chN (o0 o1 : Bool) : Nat → Int
  | 0 => 0
  | 1 => if o0 then orI 0 0 else 0
  | _ => chV o0 o1
set_option maxHeartbeats 16000000 in
theorem chargersC (c : CG) (oc fe : Value) (shut : Int) (u0 u1 : Bool) (f0 f1 l0 h0 l1 h1 : Int) (w : World) (hT : Tab w) :
    Calls Tryd.prog 20 #[.agg (cgA c oc fe), .int .i64 shut, .agg #[.bool u0, .bool u1], .agg #[.int .i64 f0, .int .i64 f1], .agg #[.int .i64 l0, .int .i64 h0, .int .i64 l1, .int .i64 h1]] w fun e w' =>
      e = .returned (.int .i64 (chV (okC (fv (BitVec.ofInt 7 shut) 4) u0 f0 h0 c.Cap) (okC (fv (BitVec.ofInt 7 shut) 5) u1 f1 h1 c.Cap))) ∧ Below w.heap.size w w' := by
  have HT := Lib.hid hT
  clear hT
  obtain ⟨o0, ho0⟩ : ∃ o, okC (fv (BitVec.ofInt 7 shut) 4) u0 f0 h0 c.Cap = o := ⟨_, rfl⟩
  obtain ⟨o1, ho1⟩ : ∃ o, okC (fv (BitVec.ofInt 7 shut) 5) u1 f1 h1 c.Cap = o := ⟨_, rfl⟩
  rw [ho0, ho1]
  have E0 := Lib.hid ho0
  have E1 := Lib.hid ho1
  clear ho0 ho1
  obtain ⟨f, hf⟩ : ∃ f, chN o0 o1 = f := ⟨_, rfl⟩
  have F0 := Lib.hid (show f 0 = 0 by rw [← hf]; rfl)
  have F1 := Lib.hid (show f 1 = if o0 then orI (f 0) 0 else f 0 by rw [← hf]; rfl)
  have F2 := Lib.hid (show f 2 = if o1 then orI (f 1) 1 else f 1 by rw [← hf]; rfl)
  rw [show chV o0 o1 = f 2 by rw [← hf]; rfl]
  clear hf
  go_enter Tryd.func20, Tryd.ntmps20
  go_upto_region 1 with fail
  have B0 := Lib.hid (Bx4.new w (cgA c oc fe) 31 #[.bool u0, .bool u1] 22 #[.int .i64 f0, .int .i64 f1] 23 #[.int .i64 l0, .int .i64 h0, .int .i64 l1, .int .i64 h1] 26)
  generalize World.alloc (World.alloc (World.alloc (World.alloc w _) _) _) _ = W at *
  go_wp2_with fail
  go_loopw [11, 12, 13, 14, 15, 16, 18] (fun v11 v12 v13 v14 v15 v16 v wr => ∃ i : Nat, i ≤ 2 ∧ v = .int .i64 i ∧ v11 = .int .i64 (f i) ∧ Below W.heap.size W wr) (fun _ _ _ _ _ _ v _ => 2 - (intOf v).toNat)
  case atStart => exact ⟨0, by omega, rfl, by rw [F0.out], Below.refl _ _⟩
  case round =>
    obtain ⟨i, hi, rfl, rfl, hb⟩ := hrel
    have HB := Lib.hid hb
    have BX := Lib.hid (B0.out.below hb)
    clear hb
    by_cases hl : i < 2
    · rcases (show i = 0 ∨ i = 1 by omega) with rfl | rfl
      · rw [show ((0 : Nat) : Int) = 0 from rfl]
        have hx := idx45_0 wr
        have KF := Lib.hid (feedsV shut 4 wr (HT.out.below BX.out.lo))
        obtain ⟨s, hs⟩ : ∃ s, fv (BitVec.ofInt 7 shut) 4 = s := ⟨_, rfl⟩
        rw [hs] at KF E0
        clear hs
        go_wp2_with fail
        refine KF.out.mono ?_
        rintro e w5 ⟨rfl, hb⟩
        have H5 := Lib.hid (HB.out.trans (hb.mono HB.out.size))
        have B5 := Lib.hid (BX.out.below hb)
        have cu : w5.cell? ⟨w.heap.size + 1, 0, none⟩ = some (.bool u0) := B5.out.c1 0 rfl
        have cf : w5.cell? ⟨w.heap.size + 1 + 1, 0, none⟩ = some (.int .i64 f0) := B5.out.c2 0 rfl
        have cq : w5.cell? ⟨w.heap.size + 1 + 1 + 1, 1, none⟩ = some (.int .i64 h0) := B5.out.c3 1 rfl
        have cc : w5.cell? ⟨w.heap.size, 5, none⟩ = some (.int .i64 c.Cap) := B5.out.c0 5 rfl
        have sq := fun d => below_cell (reach_below w5.heap.size w5 d) cq
        have sc := fun d => below_cell (reach_below w5.heap.size w5 d) cc
        clear hb KF HB BX cq cc
        obtain ⟨b0, g0⟩ : ∃ x, (s == 0) = x := ⟨_, rfl⟩
        obtain ⟨b3, g3⟩ : ∃ x, (s == 3) = x := ⟨_, rfl⟩
        obtain ⟨bf, gf⟩ : ∃ x, (bits BinOp.and IntKind.i64 f0 10 == 0) = x := ⟨_, rfl⟩
        obtain ⟨bl, gl⟩ : ∃ x, decide (h0 < c.Cap) = x := ⟨_, rfl⟩
        have EO := Lib.hid (show o0 = ((b0 || b3) && (u0 && bf) && bl) by rw [← E0.out]; unfold okC; rw [g0, g3, gf, gl])
        cases b0
        · cases b3
          · cases u0
            · have ST := Lib.hid (show f 1 = f 0 by rw [F1.out, show o0 = false by rw [EO.out]; simp]; rfl)
              go_upto_region 8 with fail
              refine wp_region_reach w5.heap.size (by kernel_rfl) (by kernel_rfl) ?_
              repeat (go_big_quiet_step (fail))
              refine wpQuiet_nil ?_
              rintro w' ⟨d, rfl⟩
              have H6 := Lib.hid (H5.out.trans ((reach_below w5.heap.size w5 d).mono H5.out.size))
              clear sq sc cu cf
              generalize reach w5.heap.size w5 d = w6 at *
              go_wp2_with fail
              go_roundw
              case rel => exact ⟨1, by omega, by go_num, by rw [ST.out], H6.out⟩
              case measure => simp [intOf]
            · cases bf
              · have ST := Lib.hid (show f 1 = f 0 by rw [F1.out, show o0 = false by rw [EO.out]; simp]; rfl)
                go_upto_region 8 with fail
                refine wp_region_reach w5.heap.size (by kernel_rfl) (by kernel_rfl) ?_
                repeat (go_big_quiet_step (fail))
                refine wpQuiet_nil ?_
                rintro w' ⟨d, rfl⟩
                have H6 := Lib.hid (H5.out.trans ((reach_below w5.heap.size w5 d).mono H5.out.size))
                clear sq sc cu cf
                generalize reach w5.heap.size w5 d = w6 at *
                go_wp2_with fail
                go_roundw
                case rel => exact ⟨1, by omega, by go_num, by rw [ST.out], H6.out⟩
                case measure => simp [intOf]
              · have ST := Lib.hid (show f 1 = f 0 by rw [F1.out, show o0 = false by rw [EO.out]; simp]; rfl)
                go_upto_region 8 with fail
                refine wp_region_reach w5.heap.size (by kernel_rfl) (by kernel_rfl) ?_
                repeat (go_big_quiet_step (fail))
                refine wpQuiet_nil ?_
                rintro w' ⟨d, rfl⟩
                have H6 := Lib.hid (H5.out.trans ((reach_below w5.heap.size w5 d).mono H5.out.size))
                clear sq sc cu cf
                generalize reach w5.heap.size w5 d = w6 at *
                go_wp2_with fail
                go_roundw
                case rel => exact ⟨1, by omega, by go_num, by rw [ST.out], H6.out⟩
                case measure => simp [intOf]
          · cases u0
            · have ST := Lib.hid (show f 1 = f 0 by rw [F1.out, show o0 = false by rw [EO.out]; simp]; rfl)
              go_upto_region 8 with fail
              refine wp_region_reach w5.heap.size (by kernel_rfl) (by kernel_rfl) ?_
              repeat (go_big_quiet_step (fail))
              refine wpQuiet_nil ?_
              rintro w' ⟨d, rfl⟩
              have H6 := Lib.hid (H5.out.trans ((reach_below w5.heap.size w5 d).mono H5.out.size))
              clear sq sc cu cf
              generalize reach w5.heap.size w5 d = w6 at *
              go_wp2_with fail
              go_roundw
              case rel => exact ⟨1, by omega, by go_num, by rw [ST.out], H6.out⟩
              case measure => simp [intOf]
            · cases bf
              · have ST := Lib.hid (show f 1 = f 0 by rw [F1.out, show o0 = false by rw [EO.out]; simp]; rfl)
                go_upto_region 8 with fail
                refine wp_region_reach w5.heap.size (by kernel_rfl) (by kernel_rfl) ?_
                repeat (go_big_quiet_step (fail))
                refine wpQuiet_nil ?_
                rintro w' ⟨d, rfl⟩
                have H6 := Lib.hid (H5.out.trans ((reach_below w5.heap.size w5 d).mono H5.out.size))
                clear sq sc cu cf
                generalize reach w5.heap.size w5 d = w6 at *
                go_wp2_with fail
                go_roundw
                case rel => exact ⟨1, by omega, by go_num, by rw [ST.out], H6.out⟩
                case measure => simp [intOf]
              · cases bl
                · have ST := Lib.hid (show f 1 = f 0 by rw [F1.out, show o0 = false by rw [EO.out]; simp]; rfl)
                  go_upto_region 8 with fail
                  refine wp_region_reach w5.heap.size (by kernel_rfl) (by kernel_rfl) ?_
                  repeat (go_big_quiet_step (fail))
                  refine wpQuiet_nil ?_
                  rintro w' ⟨d, rfl⟩
                  have H6 := Lib.hid (H5.out.trans ((reach_below w5.heap.size w5 d).mono H5.out.size))
                  clear sq sc cu cf
                  generalize reach w5.heap.size w5 d = w6 at *
                  go_wp2_with fail
                  go_roundw
                  case rel => exact ⟨1, by omega, by go_num, by rw [ST.out], H6.out⟩
                  case measure => simp [intOf]
                · have ST := Lib.hid (show f 1 = orI (f 0) 0 by rw [F1.out, show o0 = true by rw [EO.out]; simp]; rfl)
                  go_upto_region 8 with fail
                  refine wp_region_reach w5.heap.size (by kernel_rfl) (by kernel_rfl) ?_
                  repeat (go_big_quiet_step (fail))
                  refine wpQuiet_nil ?_
                  rintro w' ⟨d, rfl⟩
                  have H6 := Lib.hid (H5.out.trans ((reach_below w5.heap.size w5 d).mono H5.out.size))
                  clear sq sc cu cf
                  generalize reach w5.heap.size w5 d = w6 at *
                  go_wp2_with fail
                  go_roundw
                  case rel => exact ⟨1, by omega, by go_num, by rw [ST.out, orI0], H6.out⟩
                  case measure => simp [intOf]
        · cases u0
          · have ST := Lib.hid (show f 1 = f 0 by rw [F1.out, show o0 = false by rw [EO.out]; simp]; rfl)
            go_upto_region 8 with fail
            refine wp_region_reach w5.heap.size (by kernel_rfl) (by kernel_rfl) ?_
            repeat (go_big_quiet_step (fail))
            refine wpQuiet_nil ?_
            rintro w' ⟨d, rfl⟩
            have H6 := Lib.hid (H5.out.trans ((reach_below w5.heap.size w5 d).mono H5.out.size))
            clear sq sc cu cf
            generalize reach w5.heap.size w5 d = w6 at *
            go_wp2_with fail
            go_roundw
            case rel => exact ⟨1, by omega, by go_num, by rw [ST.out], H6.out⟩
            case measure => simp [intOf]
          · cases bf
            · have ST := Lib.hid (show f 1 = f 0 by rw [F1.out, show o0 = false by rw [EO.out]; simp]; rfl)
              go_upto_region 8 with fail
              refine wp_region_reach w5.heap.size (by kernel_rfl) (by kernel_rfl) ?_
              repeat (go_big_quiet_step (fail))
              refine wpQuiet_nil ?_
              rintro w' ⟨d, rfl⟩
              have H6 := Lib.hid (H5.out.trans ((reach_below w5.heap.size w5 d).mono H5.out.size))
              clear sq sc cu cf
              generalize reach w5.heap.size w5 d = w6 at *
              go_wp2_with fail
              go_roundw
              case rel => exact ⟨1, by omega, by go_num, by rw [ST.out], H6.out⟩
              case measure => simp [intOf]
            · cases bl
              · have ST := Lib.hid (show f 1 = f 0 by rw [F1.out, show o0 = false by rw [EO.out]; simp]; rfl)
                go_upto_region 8 with fail
                refine wp_region_reach w5.heap.size (by kernel_rfl) (by kernel_rfl) ?_
                repeat (go_big_quiet_step (fail))
                refine wpQuiet_nil ?_
                rintro w' ⟨d, rfl⟩
                have H6 := Lib.hid (H5.out.trans ((reach_below w5.heap.size w5 d).mono H5.out.size))
                clear sq sc cu cf
                generalize reach w5.heap.size w5 d = w6 at *
                go_wp2_with fail
                go_roundw
                case rel => exact ⟨1, by omega, by go_num, by rw [ST.out], H6.out⟩
                case measure => simp [intOf]
              · have ST := Lib.hid (show f 1 = orI (f 0) 0 by rw [F1.out, show o0 = true by rw [EO.out]; simp]; rfl)
                go_upto_region 8 with fail
                refine wp_region_reach w5.heap.size (by kernel_rfl) (by kernel_rfl) ?_
                repeat (go_big_quiet_step (fail))
                refine wpQuiet_nil ?_
                rintro w' ⟨d, rfl⟩
                have H6 := Lib.hid (H5.out.trans ((reach_below w5.heap.size w5 d).mono H5.out.size))
                clear sq sc cu cf
                generalize reach w5.heap.size w5 d = w6 at *
                go_wp2_with fail
                go_roundw
                case rel => exact ⟨1, by omega, by go_num, by rw [ST.out, orI0], H6.out⟩
                case measure => simp [intOf]
      · rw [show ((1 : Nat) : Int) = 1 from rfl]
        have hx := idx45_1 wr
        have KF := Lib.hid (feedsV shut 5 wr (HT.out.below BX.out.lo))
        obtain ⟨s, hs⟩ : ∃ s, fv (BitVec.ofInt 7 shut) 5 = s := ⟨_, rfl⟩
        rw [hs] at KF E1
        clear hs
        go_wp2_with fail
        refine KF.out.mono ?_
        rintro e w5 ⟨rfl, hb⟩
        have H5 := Lib.hid (HB.out.trans (hb.mono HB.out.size))
        have B5 := Lib.hid (BX.out.below hb)
        have cu : w5.cell? ⟨w.heap.size + 1, 1, none⟩ = some (.bool u1) := B5.out.c1 1 rfl
        have cf : w5.cell? ⟨w.heap.size + 1 + 1, 1, none⟩ = some (.int .i64 f1) := B5.out.c2 1 rfl
        have cq : w5.cell? ⟨w.heap.size + 1 + 1 + 1, 3, none⟩ = some (.int .i64 h1) := B5.out.c3 3 rfl
        have cc : w5.cell? ⟨w.heap.size, 5, none⟩ = some (.int .i64 c.Cap) := B5.out.c0 5 rfl
        have sq := fun d => below_cell (reach_below w5.heap.size w5 d) cq
        have sc := fun d => below_cell (reach_below w5.heap.size w5 d) cc
        clear hb KF HB BX cq cc
        obtain ⟨b0, g0⟩ : ∃ x, (s == 0) = x := ⟨_, rfl⟩
        obtain ⟨b3, g3⟩ : ∃ x, (s == 3) = x := ⟨_, rfl⟩
        obtain ⟨bf, gf⟩ : ∃ x, (bits BinOp.and IntKind.i64 f1 10 == 0) = x := ⟨_, rfl⟩
        obtain ⟨bl, gl⟩ : ∃ x, decide (h1 < c.Cap) = x := ⟨_, rfl⟩
        have EO := Lib.hid (show o1 = ((b0 || b3) && (u1 && bf) && bl) by rw [← E1.out]; unfold okC; rw [g0, g3, gf, gl])
        cases b0
        · cases b3
          · cases u1
            · have ST := Lib.hid (show f 2 = f 1 by rw [F2.out, show o1 = false by rw [EO.out]; simp]; rfl)
              go_upto_region 8 with fail
              refine wp_region_reach w5.heap.size (by kernel_rfl) (by kernel_rfl) ?_
              repeat (go_big_quiet_step (fail))
              refine wpQuiet_nil ?_
              rintro w' ⟨d, rfl⟩
              have H6 := Lib.hid (H5.out.trans ((reach_below w5.heap.size w5 d).mono H5.out.size))
              clear sq sc cu cf
              generalize reach w5.heap.size w5 d = w6 at *
              go_wp2_with fail
              go_roundw
              case rel => exact ⟨2, by omega, by go_num, by rw [ST.out], H6.out⟩
              case measure => simp [intOf]
            · cases bf
              · have ST := Lib.hid (show f 2 = f 1 by rw [F2.out, show o1 = false by rw [EO.out]; simp]; rfl)
                go_upto_region 8 with fail
                refine wp_region_reach w5.heap.size (by kernel_rfl) (by kernel_rfl) ?_
                repeat (go_big_quiet_step (fail))
                refine wpQuiet_nil ?_
                rintro w' ⟨d, rfl⟩
                have H6 := Lib.hid (H5.out.trans ((reach_below w5.heap.size w5 d).mono H5.out.size))
                clear sq sc cu cf
                generalize reach w5.heap.size w5 d = w6 at *
                go_wp2_with fail
                go_roundw
                case rel => exact ⟨2, by omega, by go_num, by rw [ST.out], H6.out⟩
                case measure => simp [intOf]
              · have ST := Lib.hid (show f 2 = f 1 by rw [F2.out, show o1 = false by rw [EO.out]; simp]; rfl)
                go_upto_region 8 with fail
                refine wp_region_reach w5.heap.size (by kernel_rfl) (by kernel_rfl) ?_
                repeat (go_big_quiet_step (fail))
                refine wpQuiet_nil ?_
                rintro w' ⟨d, rfl⟩
                have H6 := Lib.hid (H5.out.trans ((reach_below w5.heap.size w5 d).mono H5.out.size))
                clear sq sc cu cf
                generalize reach w5.heap.size w5 d = w6 at *
                go_wp2_with fail
                go_roundw
                case rel => exact ⟨2, by omega, by go_num, by rw [ST.out], H6.out⟩
                case measure => simp [intOf]
          · cases u1
            · have ST := Lib.hid (show f 2 = f 1 by rw [F2.out, show o1 = false by rw [EO.out]; simp]; rfl)
              go_upto_region 8 with fail
              refine wp_region_reach w5.heap.size (by kernel_rfl) (by kernel_rfl) ?_
              repeat (go_big_quiet_step (fail))
              refine wpQuiet_nil ?_
              rintro w' ⟨d, rfl⟩
              have H6 := Lib.hid (H5.out.trans ((reach_below w5.heap.size w5 d).mono H5.out.size))
              clear sq sc cu cf
              generalize reach w5.heap.size w5 d = w6 at *
              go_wp2_with fail
              go_roundw
              case rel => exact ⟨2, by omega, by go_num, by rw [ST.out], H6.out⟩
              case measure => simp [intOf]
            · cases bf
              · have ST := Lib.hid (show f 2 = f 1 by rw [F2.out, show o1 = false by rw [EO.out]; simp]; rfl)
                go_upto_region 8 with fail
                refine wp_region_reach w5.heap.size (by kernel_rfl) (by kernel_rfl) ?_
                repeat (go_big_quiet_step (fail))
                refine wpQuiet_nil ?_
                rintro w' ⟨d, rfl⟩
                have H6 := Lib.hid (H5.out.trans ((reach_below w5.heap.size w5 d).mono H5.out.size))
                clear sq sc cu cf
                generalize reach w5.heap.size w5 d = w6 at *
                go_wp2_with fail
                go_roundw
                case rel => exact ⟨2, by omega, by go_num, by rw [ST.out], H6.out⟩
                case measure => simp [intOf]
              · cases bl
                · have ST := Lib.hid (show f 2 = f 1 by rw [F2.out, show o1 = false by rw [EO.out]; simp]; rfl)
                  go_upto_region 8 with fail
                  refine wp_region_reach w5.heap.size (by kernel_rfl) (by kernel_rfl) ?_
                  repeat (go_big_quiet_step (fail))
                  refine wpQuiet_nil ?_
                  rintro w' ⟨d, rfl⟩
                  have H6 := Lib.hid (H5.out.trans ((reach_below w5.heap.size w5 d).mono H5.out.size))
                  clear sq sc cu cf
                  generalize reach w5.heap.size w5 d = w6 at *
                  go_wp2_with fail
                  go_roundw
                  case rel => exact ⟨2, by omega, by go_num, by rw [ST.out], H6.out⟩
                  case measure => simp [intOf]
                · have ST := Lib.hid (show f 2 = orI (f 1) 1 by rw [F2.out, show o1 = true by rw [EO.out]; simp]; rfl)
                  go_upto_region 8 with fail
                  refine wp_region_reach w5.heap.size (by kernel_rfl) (by kernel_rfl) ?_
                  repeat (go_big_quiet_step (fail))
                  refine wpQuiet_nil ?_
                  rintro w' ⟨d, rfl⟩
                  have H6 := Lib.hid (H5.out.trans ((reach_below w5.heap.size w5 d).mono H5.out.size))
                  clear sq sc cu cf
                  generalize reach w5.heap.size w5 d = w6 at *
                  go_wp2_with fail
                  go_roundw
                  case rel => exact ⟨2, by omega, by go_num, by rw [ST.out, orI1], H6.out⟩
                  case measure => simp [intOf]
        · cases u1
          · have ST := Lib.hid (show f 2 = f 1 by rw [F2.out, show o1 = false by rw [EO.out]; simp]; rfl)
            go_upto_region 8 with fail
            refine wp_region_reach w5.heap.size (by kernel_rfl) (by kernel_rfl) ?_
            repeat (go_big_quiet_step (fail))
            refine wpQuiet_nil ?_
            rintro w' ⟨d, rfl⟩
            have H6 := Lib.hid (H5.out.trans ((reach_below w5.heap.size w5 d).mono H5.out.size))
            clear sq sc cu cf
            generalize reach w5.heap.size w5 d = w6 at *
            go_wp2_with fail
            go_roundw
            case rel => exact ⟨2, by omega, by go_num, by rw [ST.out], H6.out⟩
            case measure => simp [intOf]
          · cases bf
            · have ST := Lib.hid (show f 2 = f 1 by rw [F2.out, show o1 = false by rw [EO.out]; simp]; rfl)
              go_upto_region 8 with fail
              refine wp_region_reach w5.heap.size (by kernel_rfl) (by kernel_rfl) ?_
              repeat (go_big_quiet_step (fail))
              refine wpQuiet_nil ?_
              rintro w' ⟨d, rfl⟩
              have H6 := Lib.hid (H5.out.trans ((reach_below w5.heap.size w5 d).mono H5.out.size))
              clear sq sc cu cf
              generalize reach w5.heap.size w5 d = w6 at *
              go_wp2_with fail
              go_roundw
              case rel => exact ⟨2, by omega, by go_num, by rw [ST.out], H6.out⟩
              case measure => simp [intOf]
            · cases bl
              · have ST := Lib.hid (show f 2 = f 1 by rw [F2.out, show o1 = false by rw [EO.out]; simp]; rfl)
                go_upto_region 8 with fail
                refine wp_region_reach w5.heap.size (by kernel_rfl) (by kernel_rfl) ?_
                repeat (go_big_quiet_step (fail))
                refine wpQuiet_nil ?_
                rintro w' ⟨d, rfl⟩
                have H6 := Lib.hid (H5.out.trans ((reach_below w5.heap.size w5 d).mono H5.out.size))
                clear sq sc cu cf
                generalize reach w5.heap.size w5 d = w6 at *
                go_wp2_with fail
                go_roundw
                case rel => exact ⟨2, by omega, by go_num, by rw [ST.out], H6.out⟩
                case measure => simp [intOf]
              · have ST := Lib.hid (show f 2 = orI (f 1) 1 by rw [F2.out, show o1 = true by rw [EO.out]; simp]; rfl)
                go_upto_region 8 with fail
                refine wp_region_reach w5.heap.size (by kernel_rfl) (by kernel_rfl) ?_
                repeat (go_big_quiet_step (fail))
                refine wpQuiet_nil ?_
                rintro w' ⟨d, rfl⟩
                have H6 := Lib.hid (H5.out.trans ((reach_below w5.heap.size w5 d).mono H5.out.size))
                clear sq sc cu cf
                generalize reach w5.heap.size w5 d = w6 at *
                go_wp2_with fail
                go_roundw
                case rel => exact ⟨2, by omega, by go_num, by rw [ST.out, orI1], H6.out⟩
                case measure => simp [intOf]
    · obtain rfl : i = 2 := by omega
      go_wp2_with fail
      go_returns
      exact ⟨rfl, BX.out.lo⟩
end Go.Proofs.YtbeemfkndpandaaDoor
