/- Each part alone that is out of its bounds is told, and has no frame. Conditions: none. -/
import Derived.Test.YtiiomiekjlggfaaDoorActC
import Derived.Test.YtiiomiekjlggfaaDoorPilB
namespace Go.Proofs.YtiiomiekjlggfaaDoor
open Go.RowKit
set_option linter.unusedVariables false
set_option maxRecDepth 20000
theorem tmod_a (a : Int) (b : Int) (hb : 0 < b) : -b < a.tmod b ∧ a.tmod b < b := by
  have h1 := Int.tmod_lt_of_pos a hb
  have h2 := Int.tmod_lt_of_pos (-a) hb
  rw [Int.neg_tmod] at h2
  omega
set_option maxHeartbeats 8000000 in
theorem walkActBounds (a0 : Int) (a1 : Bool) (w : World) (w0 : (Lit.int .i64 a0).wf = true) (hE : ∃ E, Ers E w) :
    Calls Tryd.prog 9 #[.int .i64 a0, .bool a1] w fun e w' => e = .returned (.bool true) ∧ Below w.heap.size w w' := by
  obtain ⟨E, hE⟩ := hE
  obtain ⟨b0, b0'⟩ := bounds_i64 w0
  have HE := Lib.hid hE
  clear w0 hE
  have t0 := tmod_a a0 5 (by omega)
  go_enter Tryd.func9, Tryd.ntmps9
  go_wp2_with fail
  refine (actFirst _ HE.out).mono ?_
  rintro e wa ⟨rfl, hba⟩
  have HA := Lib.hid hba
  clear hba
  have u0 : 0 ≤ a0.tmod 5 % 5 ∧ a0.tmod 5 % 5 < 5 := ⟨Int.emod_nonneg _ (by omega), Int.emod_lt_of_pos _ (by omega)⟩
  have u1 : 0 ≤ (a0.tmod 5 + 5) % 5 ∧ (a0.tmod 5 + 5) % 5 < 5 := ⟨Int.emod_nonneg _ (by omega), Int.emod_lt_of_pos _ (by omega)⟩
  go_upto_region 10 with fail
  generalize (a0.tmod 5 + 5) % 5 = K at *
  clear b0 b0' t0 u0
  have B0 := Lib.hid (Bx.new wa #[.int .i64 (5), .int .i64 (9), .int .i64 (1), .int .i64 (2), .int .i64 (3)] 49)
  have HB := Lib.hid (HA.out.alloc HA.out.size (.cells #[.int .i64 (5), .int .i64 (9), .int .i64 (1), .int .i64 (2), .int .i64 (3)] 49))
  have hS : w.heap.size ≤ wa.heap.size := HA.out.size
  generalize World.alloc wa _ = wz at *
  have x0 : wz.cell? ⟨wa.heap.size, 0, none⟩ = some (.int .i64 (5)) := B0.out.cell 0 rfl
  have x1 : wz.cell? ⟨wa.heap.size, 1, none⟩ = some (.int .i64 (9)) := B0.out.cell 1 rfl
  have x2 : wz.cell? ⟨wa.heap.size, 2, none⟩ = some (.int .i64 (1)) := B0.out.cell 2 rfl
  have x3 : wz.cell? ⟨wa.heap.size, 3, none⟩ = some (.int .i64 (2)) := B0.out.cell 3 rfl
  have x4 : wz.cell? ⟨wa.heap.size, 4, none⟩ = some (.int .i64 (3)) := B0.out.cell 4 rfl
  have xf := B0.out.froz
  rcases (show K = 0 ∨ K = 1 ∨ K = 2 ∨ K = 3 ∨ K = 4 by omega) with rfl | rfl | rfl | rfl | rfl
  all_goals cases a1
  · go_upto_region 27 with fail
    have B1 := Lib.hid (B0.out.set 0 (.int .i64 (-1)))
    have H1 := Lib.hid (HB.out.setCell (p := ⟨wa.heap.size, 0, none⟩) hS (.int .i64 (-1)))
    clear x0 x1 x2 x3 x4 xf B0 HB u1
    generalize World.setCell wz _ _ = wy at *
    have y0 : wy.cell? ⟨wa.heap.size, 0, none⟩ = some (.int .i64 (-1)) := B1.out.cell 0 rfl
    have y1 : wy.cell? ⟨wa.heap.size, 1, none⟩ = some (.int .i64 (9)) := B1.out.cell 1 rfl
    have y2 : wy.cell? ⟨wa.heap.size, 2, none⟩ = some (.int .i64 (1)) := B1.out.cell 2 rfl
    have y3 : wy.cell? ⟨wa.heap.size, 3, none⟩ = some (.int .i64 (2)) := B1.out.cell 3 rfl
    have y4 : wy.cell? ⟨wa.heap.size, 4, none⟩ = some (.int .i64 (3)) := B1.out.cell 4 rfl
    go_wp2_with fail
    refine (putBad (-1) (9) (1) (2) (3) 1 (fun w h => chkB00 w h) _ (HE.out.below H1.out)).mono ?_
    rintro e w1 ⟨rfl, hb⟩
    have B2 := Lib.hid (B1.out.below hb)
    have H2 := Lib.hid (H1.out.trans (hb.mono H1.out.size))
    clear hb B1 H1 y0 y1 y2 y3 y4
    go_upto_region 28 with fail
    have F3 := Lib.hid (Bx.new w1 #[.int .u8 0, .int .u8 0, .slice none 0 0] 24)
    have B3 := Lib.hid (B2.out.below ((Below.refl _ _).alloc (Nat.le_refl _) (.cells #[.int .u8 0, .int .u8 0, .slice none 0 0] 24)))
    have H3 := Lib.hid (H2.out.alloc H2.out.size (.cells #[.int .u8 0, .int .u8 0, .slice none 0 0] 24))
    clear B2 H2
    generalize World.alloc w1 _ = W3 at *
    have y0 : W3.cell? ⟨wa.heap.size, 0, none⟩ = some (.int .i64 (-1)) := B3.out.cell 0 rfl
    have y1 : W3.cell? ⟨wa.heap.size, 1, none⟩ = some (.int .i64 (9)) := B3.out.cell 1 rfl
    have y2 : W3.cell? ⟨wa.heap.size, 2, none⟩ = some (.int .i64 (1)) := B3.out.cell 2 rfl
    have y3 : W3.cell? ⟨wa.heap.size, 3, none⟩ = some (.int .i64 (2)) := B3.out.cell 3 rfl
    have y4 : W3.cell? ⟨wa.heap.size, 4, none⟩ = some (.int .i64 (3)) := B3.out.cell 4 rfl
    go_wp2_with fail
    refine (chkB00 _ (HE.out.below H3.out)).mono ?_
    rintro e w4 ⟨rfl, hb⟩
    have H4 := Lib.hid (H3.out.trans (hb.mono H3.out.size))
    have F4 := Lib.hid (F3.out.below hb)
    clear hb H3 F3 B3 y0 y1 y2 y3 y4
    go_wp2_with fail
    refine (isC (HE.out.below H4.out) (.bare 0 (by omega))).mono ?_
    rintro e w5 ⟨rfl, hb⟩
    have H5 := Lib.hid (H4.out.trans (hb.mono H4.out.size))
    have F5 := Lib.hid (F4.out.below hb)
    clear hb H4 F4
    go_wp2_with fail
    refine (isC (HE.out.below H5.out) (.bare 0 (by omega))).mono ?_
    rintro e w6 ⟨rfl, hb⟩
    have H6 := Lib.hid (H5.out.trans (hb.mono H5.out.size))
    have F6 := Lib.hid (F5.out.below hb)
    clear hb H5 F5
    have f2 : w6.cell? ⟨w1.heap.size, 2, none⟩ = some (.slice none 0 0) := F6.out.cell 2 rfl
    go_wp2_with fail
    go_returns
    exact ⟨rfl, H6.out⟩
  · go_upto_region 27 with fail
    have B1 := Lib.hid (B0.out.set 0 (.int .i64 (128)))
    have H1 := Lib.hid (HB.out.setCell (p := ⟨wa.heap.size, 0, none⟩) hS (.int .i64 (128)))
    clear x0 x1 x2 x3 x4 xf B0 HB u1
    generalize World.setCell wz _ _ = wy at *
    have y0 : wy.cell? ⟨wa.heap.size, 0, none⟩ = some (.int .i64 (128)) := B1.out.cell 0 rfl
    have y1 : wy.cell? ⟨wa.heap.size, 1, none⟩ = some (.int .i64 (9)) := B1.out.cell 1 rfl
    have y2 : wy.cell? ⟨wa.heap.size, 2, none⟩ = some (.int .i64 (1)) := B1.out.cell 2 rfl
    have y3 : wy.cell? ⟨wa.heap.size, 3, none⟩ = some (.int .i64 (2)) := B1.out.cell 3 rfl
    have y4 : wy.cell? ⟨wa.heap.size, 4, none⟩ = some (.int .i64 (3)) := B1.out.cell 4 rfl
    go_wp2_with fail
    refine (putBad (128) (9) (1) (2) (3) 1 (fun w h => chkB01 w h) _ (HE.out.below H1.out)).mono ?_
    rintro e w1 ⟨rfl, hb⟩
    have B2 := Lib.hid (B1.out.below hb)
    have H2 := Lib.hid (H1.out.trans (hb.mono H1.out.size))
    clear hb B1 H1 y0 y1 y2 y3 y4
    go_upto_region 28 with fail
    have F3 := Lib.hid (Bx.new w1 #[.int .u8 0, .int .u8 0, .slice none 0 0] 24)
    have B3 := Lib.hid (B2.out.below ((Below.refl _ _).alloc (Nat.le_refl _) (.cells #[.int .u8 0, .int .u8 0, .slice none 0 0] 24)))
    have H3 := Lib.hid (H2.out.alloc H2.out.size (.cells #[.int .u8 0, .int .u8 0, .slice none 0 0] 24))
    clear B2 H2
    generalize World.alloc w1 _ = W3 at *
    have y0 : W3.cell? ⟨wa.heap.size, 0, none⟩ = some (.int .i64 (128)) := B3.out.cell 0 rfl
    have y1 : W3.cell? ⟨wa.heap.size, 1, none⟩ = some (.int .i64 (9)) := B3.out.cell 1 rfl
    have y2 : W3.cell? ⟨wa.heap.size, 2, none⟩ = some (.int .i64 (1)) := B3.out.cell 2 rfl
    have y3 : W3.cell? ⟨wa.heap.size, 3, none⟩ = some (.int .i64 (2)) := B3.out.cell 3 rfl
    have y4 : W3.cell? ⟨wa.heap.size, 4, none⟩ = some (.int .i64 (3)) := B3.out.cell 4 rfl
    go_wp2_with fail
    refine (chkB01 _ (HE.out.below H3.out)).mono ?_
    rintro e w4 ⟨rfl, hb⟩
    have H4 := Lib.hid (H3.out.trans (hb.mono H3.out.size))
    have F4 := Lib.hid (F3.out.below hb)
    clear hb H3 F3 B3 y0 y1 y2 y3 y4
    go_wp2_with fail
    refine (isC (HE.out.below H4.out) (.bare 0 (by omega))).mono ?_
    rintro e w5 ⟨rfl, hb⟩
    have H5 := Lib.hid (H4.out.trans (hb.mono H4.out.size))
    have F5 := Lib.hid (F4.out.below hb)
    clear hb H4 F4
    go_wp2_with fail
    refine (isC (HE.out.below H5.out) (.bare 0 (by omega))).mono ?_
    rintro e w6 ⟨rfl, hb⟩
    have H6 := Lib.hid (H5.out.trans (hb.mono H5.out.size))
    have F6 := Lib.hid (F5.out.below hb)
    clear hb H5 F5
    have f2 : w6.cell? ⟨w1.heap.size, 2, none⟩ = some (.slice none 0 0) := F6.out.cell 2 rfl
    go_wp2_with fail
    go_returns
    exact ⟨rfl, H6.out⟩
  · go_upto_region 27 with fail
    have B1 := Lib.hid (B0.out.set 1 (.int .i64 (-1)))
    have H1 := Lib.hid (HB.out.setCell (p := ⟨wa.heap.size, 1, none⟩) hS (.int .i64 (-1)))
    clear x0 x1 x2 x3 x4 xf B0 HB u1
    generalize World.setCell wz _ _ = wy at *
    have y0 : wy.cell? ⟨wa.heap.size, 0, none⟩ = some (.int .i64 (5)) := B1.out.cell 0 rfl
    have y1 : wy.cell? ⟨wa.heap.size, 1, none⟩ = some (.int .i64 (-1)) := B1.out.cell 1 rfl
    have y2 : wy.cell? ⟨wa.heap.size, 2, none⟩ = some (.int .i64 (1)) := B1.out.cell 2 rfl
    have y3 : wy.cell? ⟨wa.heap.size, 3, none⟩ = some (.int .i64 (2)) := B1.out.cell 3 rfl
    have y4 : wy.cell? ⟨wa.heap.size, 4, none⟩ = some (.int .i64 (3)) := B1.out.cell 4 rfl
    go_wp2_with fail
    refine (putBad (5) (-1) (1) (2) (3) 1 (fun w h => chkB10 w h) _ (HE.out.below H1.out)).mono ?_
    rintro e w1 ⟨rfl, hb⟩
    have B2 := Lib.hid (B1.out.below hb)
    have H2 := Lib.hid (H1.out.trans (hb.mono H1.out.size))
    clear hb B1 H1 y0 y1 y2 y3 y4
    go_upto_region 28 with fail
    have F3 := Lib.hid (Bx.new w1 #[.int .u8 0, .int .u8 0, .slice none 0 0] 24)
    have B3 := Lib.hid (B2.out.below ((Below.refl _ _).alloc (Nat.le_refl _) (.cells #[.int .u8 0, .int .u8 0, .slice none 0 0] 24)))
    have H3 := Lib.hid (H2.out.alloc H2.out.size (.cells #[.int .u8 0, .int .u8 0, .slice none 0 0] 24))
    clear B2 H2
    generalize World.alloc w1 _ = W3 at *
    have y0 : W3.cell? ⟨wa.heap.size, 0, none⟩ = some (.int .i64 (5)) := B3.out.cell 0 rfl
    have y1 : W3.cell? ⟨wa.heap.size, 1, none⟩ = some (.int .i64 (-1)) := B3.out.cell 1 rfl
    have y2 : W3.cell? ⟨wa.heap.size, 2, none⟩ = some (.int .i64 (1)) := B3.out.cell 2 rfl
    have y3 : W3.cell? ⟨wa.heap.size, 3, none⟩ = some (.int .i64 (2)) := B3.out.cell 3 rfl
    have y4 : W3.cell? ⟨wa.heap.size, 4, none⟩ = some (.int .i64 (3)) := B3.out.cell 4 rfl
    go_wp2_with fail
    refine (chkB10 _ (HE.out.below H3.out)).mono ?_
    rintro e w4 ⟨rfl, hb⟩
    have H4 := Lib.hid (H3.out.trans (hb.mono H3.out.size))
    have F4 := Lib.hid (F3.out.below hb)
    clear hb H3 F3 B3 y0 y1 y2 y3 y4
    go_wp2_with fail
    refine (isC (HE.out.below H4.out) (.bare 0 (by omega))).mono ?_
    rintro e w5 ⟨rfl, hb⟩
    have H5 := Lib.hid (H4.out.trans (hb.mono H4.out.size))
    have F5 := Lib.hid (F4.out.below hb)
    clear hb H4 F4
    go_wp2_with fail
    refine (isC (HE.out.below H5.out) (.bare 0 (by omega))).mono ?_
    rintro e w6 ⟨rfl, hb⟩
    have H6 := Lib.hid (H5.out.trans (hb.mono H5.out.size))
    have F6 := Lib.hid (F5.out.below hb)
    clear hb H5 F5
    have f2 : w6.cell? ⟨w1.heap.size, 2, none⟩ = some (.slice none 0 0) := F6.out.cell 2 rfl
    go_wp2_with fail
    go_returns
    exact ⟨rfl, H6.out⟩
  · go_upto_region 27 with fail
    have B1 := Lib.hid (B0.out.set 1 (.int .i64 (65536)))
    have H1 := Lib.hid (HB.out.setCell (p := ⟨wa.heap.size, 1, none⟩) hS (.int .i64 (65536)))
    clear x0 x1 x2 x3 x4 xf B0 HB u1
    generalize World.setCell wz _ _ = wy at *
    have y0 : wy.cell? ⟨wa.heap.size, 0, none⟩ = some (.int .i64 (5)) := B1.out.cell 0 rfl
    have y1 : wy.cell? ⟨wa.heap.size, 1, none⟩ = some (.int .i64 (65536)) := B1.out.cell 1 rfl
    have y2 : wy.cell? ⟨wa.heap.size, 2, none⟩ = some (.int .i64 (1)) := B1.out.cell 2 rfl
    have y3 : wy.cell? ⟨wa.heap.size, 3, none⟩ = some (.int .i64 (2)) := B1.out.cell 3 rfl
    have y4 : wy.cell? ⟨wa.heap.size, 4, none⟩ = some (.int .i64 (3)) := B1.out.cell 4 rfl
    go_wp2_with fail
    refine (putBad (5) (65536) (1) (2) (3) 1 (fun w h => chkB11 w h) _ (HE.out.below H1.out)).mono ?_
    rintro e w1 ⟨rfl, hb⟩
    have B2 := Lib.hid (B1.out.below hb)
    have H2 := Lib.hid (H1.out.trans (hb.mono H1.out.size))
    clear hb B1 H1 y0 y1 y2 y3 y4
    go_upto_region 28 with fail
    have F3 := Lib.hid (Bx.new w1 #[.int .u8 0, .int .u8 0, .slice none 0 0] 24)
    have B3 := Lib.hid (B2.out.below ((Below.refl _ _).alloc (Nat.le_refl _) (.cells #[.int .u8 0, .int .u8 0, .slice none 0 0] 24)))
    have H3 := Lib.hid (H2.out.alloc H2.out.size (.cells #[.int .u8 0, .int .u8 0, .slice none 0 0] 24))
    clear B2 H2
    generalize World.alloc w1 _ = W3 at *
    have y0 : W3.cell? ⟨wa.heap.size, 0, none⟩ = some (.int .i64 (5)) := B3.out.cell 0 rfl
    have y1 : W3.cell? ⟨wa.heap.size, 1, none⟩ = some (.int .i64 (65536)) := B3.out.cell 1 rfl
    have y2 : W3.cell? ⟨wa.heap.size, 2, none⟩ = some (.int .i64 (1)) := B3.out.cell 2 rfl
    have y3 : W3.cell? ⟨wa.heap.size, 3, none⟩ = some (.int .i64 (2)) := B3.out.cell 3 rfl
    have y4 : W3.cell? ⟨wa.heap.size, 4, none⟩ = some (.int .i64 (3)) := B3.out.cell 4 rfl
    go_wp2_with fail
    refine (chkB11 _ (HE.out.below H3.out)).mono ?_
    rintro e w4 ⟨rfl, hb⟩
    have H4 := Lib.hid (H3.out.trans (hb.mono H3.out.size))
    have F4 := Lib.hid (F3.out.below hb)
    clear hb H3 F3 B3 y0 y1 y2 y3 y4
    go_wp2_with fail
    refine (isC (HE.out.below H4.out) (.bare 0 (by omega))).mono ?_
    rintro e w5 ⟨rfl, hb⟩
    have H5 := Lib.hid (H4.out.trans (hb.mono H4.out.size))
    have F5 := Lib.hid (F4.out.below hb)
    clear hb H4 F4
    go_wp2_with fail
    refine (isC (HE.out.below H5.out) (.bare 0 (by omega))).mono ?_
    rintro e w6 ⟨rfl, hb⟩
    have H6 := Lib.hid (H5.out.trans (hb.mono H5.out.size))
    have F6 := Lib.hid (F5.out.below hb)
    clear hb H5 F5
    have f2 : w6.cell? ⟨w1.heap.size, 2, none⟩ = some (.slice none 0 0) := F6.out.cell 2 rfl
    go_wp2_with fail
    go_returns
    exact ⟨rfl, H6.out⟩
  · go_upto_region 27 with fail
    have B1 := Lib.hid (B0.out.set 2 (.int .i64 (-1)))
    have H1 := Lib.hid (HB.out.setCell (p := ⟨wa.heap.size, 2, none⟩) hS (.int .i64 (-1)))
    clear x0 x1 x2 x3 x4 xf B0 HB u1
    generalize World.setCell wz _ _ = wy at *
    have y0 : wy.cell? ⟨wa.heap.size, 0, none⟩ = some (.int .i64 (5)) := B1.out.cell 0 rfl
    have y1 : wy.cell? ⟨wa.heap.size, 1, none⟩ = some (.int .i64 (9)) := B1.out.cell 1 rfl
    have y2 : wy.cell? ⟨wa.heap.size, 2, none⟩ = some (.int .i64 (-1)) := B1.out.cell 2 rfl
    have y3 : wy.cell? ⟨wa.heap.size, 3, none⟩ = some (.int .i64 (2)) := B1.out.cell 3 rfl
    have y4 : wy.cell? ⟨wa.heap.size, 4, none⟩ = some (.int .i64 (3)) := B1.out.cell 4 rfl
    go_wp2_with fail
    refine (putBad (5) (9) (-1) (2) (3) 1 (fun w h => chkB20 w h) _ (HE.out.below H1.out)).mono ?_
    rintro e w1 ⟨rfl, hb⟩
    have B2 := Lib.hid (B1.out.below hb)
    have H2 := Lib.hid (H1.out.trans (hb.mono H1.out.size))
    clear hb B1 H1 y0 y1 y2 y3 y4
    go_upto_region 28 with fail
    have F3 := Lib.hid (Bx.new w1 #[.int .u8 0, .int .u8 0, .slice none 0 0] 24)
    have B3 := Lib.hid (B2.out.below ((Below.refl _ _).alloc (Nat.le_refl _) (.cells #[.int .u8 0, .int .u8 0, .slice none 0 0] 24)))
    have H3 := Lib.hid (H2.out.alloc H2.out.size (.cells #[.int .u8 0, .int .u8 0, .slice none 0 0] 24))
    clear B2 H2
    generalize World.alloc w1 _ = W3 at *
    have y0 : W3.cell? ⟨wa.heap.size, 0, none⟩ = some (.int .i64 (5)) := B3.out.cell 0 rfl
    have y1 : W3.cell? ⟨wa.heap.size, 1, none⟩ = some (.int .i64 (9)) := B3.out.cell 1 rfl
    have y2 : W3.cell? ⟨wa.heap.size, 2, none⟩ = some (.int .i64 (-1)) := B3.out.cell 2 rfl
    have y3 : W3.cell? ⟨wa.heap.size, 3, none⟩ = some (.int .i64 (2)) := B3.out.cell 3 rfl
    have y4 : W3.cell? ⟨wa.heap.size, 4, none⟩ = some (.int .i64 (3)) := B3.out.cell 4 rfl
    go_wp2_with fail
    refine (chkB20 _ (HE.out.below H3.out)).mono ?_
    rintro e w4 ⟨rfl, hb⟩
    have H4 := Lib.hid (H3.out.trans (hb.mono H3.out.size))
    have F4 := Lib.hid (F3.out.below hb)
    clear hb H3 F3 B3 y0 y1 y2 y3 y4
    go_wp2_with fail
    refine (isC (HE.out.below H4.out) (.bare 0 (by omega))).mono ?_
    rintro e w5 ⟨rfl, hb⟩
    have H5 := Lib.hid (H4.out.trans (hb.mono H4.out.size))
    have F5 := Lib.hid (F4.out.below hb)
    clear hb H4 F4
    go_wp2_with fail
    refine (isC (HE.out.below H5.out) (.bare 0 (by omega))).mono ?_
    rintro e w6 ⟨rfl, hb⟩
    have H6 := Lib.hid (H5.out.trans (hb.mono H5.out.size))
    have F6 := Lib.hid (F5.out.below hb)
    clear hb H5 F5
    have f2 : w6.cell? ⟨w1.heap.size, 2, none⟩ = some (.slice none 0 0) := F6.out.cell 2 rfl
    go_wp2_with fail
    go_returns
    exact ⟨rfl, H6.out⟩
  · go_upto_region 27 with fail
    have B1 := Lib.hid (B0.out.set 2 (.int .i64 (4)))
    have H1 := Lib.hid (HB.out.setCell (p := ⟨wa.heap.size, 2, none⟩) hS (.int .i64 (4)))
    clear x0 x1 x2 x3 x4 xf B0 HB u1
    generalize World.setCell wz _ _ = wy at *
    have y0 : wy.cell? ⟨wa.heap.size, 0, none⟩ = some (.int .i64 (5)) := B1.out.cell 0 rfl
    have y1 : wy.cell? ⟨wa.heap.size, 1, none⟩ = some (.int .i64 (9)) := B1.out.cell 1 rfl
    have y2 : wy.cell? ⟨wa.heap.size, 2, none⟩ = some (.int .i64 (4)) := B1.out.cell 2 rfl
    have y3 : wy.cell? ⟨wa.heap.size, 3, none⟩ = some (.int .i64 (2)) := B1.out.cell 3 rfl
    have y4 : wy.cell? ⟨wa.heap.size, 4, none⟩ = some (.int .i64 (3)) := B1.out.cell 4 rfl
    go_wp2_with fail
    refine (putBad (5) (9) (4) (2) (3) 1 (fun w h => chkB21 w h) _ (HE.out.below H1.out)).mono ?_
    rintro e w1 ⟨rfl, hb⟩
    have B2 := Lib.hid (B1.out.below hb)
    have H2 := Lib.hid (H1.out.trans (hb.mono H1.out.size))
    clear hb B1 H1 y0 y1 y2 y3 y4
    go_upto_region 28 with fail
    have F3 := Lib.hid (Bx.new w1 #[.int .u8 0, .int .u8 0, .slice none 0 0] 24)
    have B3 := Lib.hid (B2.out.below ((Below.refl _ _).alloc (Nat.le_refl _) (.cells #[.int .u8 0, .int .u8 0, .slice none 0 0] 24)))
    have H3 := Lib.hid (H2.out.alloc H2.out.size (.cells #[.int .u8 0, .int .u8 0, .slice none 0 0] 24))
    clear B2 H2
    generalize World.alloc w1 _ = W3 at *
    have y0 : W3.cell? ⟨wa.heap.size, 0, none⟩ = some (.int .i64 (5)) := B3.out.cell 0 rfl
    have y1 : W3.cell? ⟨wa.heap.size, 1, none⟩ = some (.int .i64 (9)) := B3.out.cell 1 rfl
    have y2 : W3.cell? ⟨wa.heap.size, 2, none⟩ = some (.int .i64 (4)) := B3.out.cell 2 rfl
    have y3 : W3.cell? ⟨wa.heap.size, 3, none⟩ = some (.int .i64 (2)) := B3.out.cell 3 rfl
    have y4 : W3.cell? ⟨wa.heap.size, 4, none⟩ = some (.int .i64 (3)) := B3.out.cell 4 rfl
    go_wp2_with fail
    refine (chkB21 _ (HE.out.below H3.out)).mono ?_
    rintro e w4 ⟨rfl, hb⟩
    have H4 := Lib.hid (H3.out.trans (hb.mono H3.out.size))
    have F4 := Lib.hid (F3.out.below hb)
    clear hb H3 F3 B3 y0 y1 y2 y3 y4
    go_wp2_with fail
    refine (isC (HE.out.below H4.out) (.bare 0 (by omega))).mono ?_
    rintro e w5 ⟨rfl, hb⟩
    have H5 := Lib.hid (H4.out.trans (hb.mono H4.out.size))
    have F5 := Lib.hid (F4.out.below hb)
    clear hb H4 F4
    go_wp2_with fail
    refine (isC (HE.out.below H5.out) (.bare 0 (by omega))).mono ?_
    rintro e w6 ⟨rfl, hb⟩
    have H6 := Lib.hid (H5.out.trans (hb.mono H5.out.size))
    have F6 := Lib.hid (F5.out.below hb)
    clear hb H5 F5
    have f2 : w6.cell? ⟨w1.heap.size, 2, none⟩ = some (.slice none 0 0) := F6.out.cell 2 rfl
    go_wp2_with fail
    go_returns
    exact ⟨rfl, H6.out⟩
  · go_upto_region 27 with fail
    have B1 := Lib.hid (B0.out.set 3 (.int .i64 (0)))
    have H1 := Lib.hid (HB.out.setCell (p := ⟨wa.heap.size, 3, none⟩) hS (.int .i64 (0)))
    clear x0 x1 x2 x3 x4 xf B0 HB u1
    generalize World.setCell wz _ _ = wy at *
    have y0 : wy.cell? ⟨wa.heap.size, 0, none⟩ = some (.int .i64 (5)) := B1.out.cell 0 rfl
    have y1 : wy.cell? ⟨wa.heap.size, 1, none⟩ = some (.int .i64 (9)) := B1.out.cell 1 rfl
    have y2 : wy.cell? ⟨wa.heap.size, 2, none⟩ = some (.int .i64 (1)) := B1.out.cell 2 rfl
    have y3 : wy.cell? ⟨wa.heap.size, 3, none⟩ = some (.int .i64 (0)) := B1.out.cell 3 rfl
    have y4 : wy.cell? ⟨wa.heap.size, 4, none⟩ = some (.int .i64 (3)) := B1.out.cell 4 rfl
    go_wp2_with fail
    refine (putBad (5) (9) (1) (0) (3) 1 (fun w h => chkB30 w h) _ (HE.out.below H1.out)).mono ?_
    rintro e w1 ⟨rfl, hb⟩
    have B2 := Lib.hid (B1.out.below hb)
    have H2 := Lib.hid (H1.out.trans (hb.mono H1.out.size))
    clear hb B1 H1 y0 y1 y2 y3 y4
    go_upto_region 28 with fail
    have F3 := Lib.hid (Bx.new w1 #[.int .u8 0, .int .u8 0, .slice none 0 0] 24)
    have B3 := Lib.hid (B2.out.below ((Below.refl _ _).alloc (Nat.le_refl _) (.cells #[.int .u8 0, .int .u8 0, .slice none 0 0] 24)))
    have H3 := Lib.hid (H2.out.alloc H2.out.size (.cells #[.int .u8 0, .int .u8 0, .slice none 0 0] 24))
    clear B2 H2
    generalize World.alloc w1 _ = W3 at *
    have y0 : W3.cell? ⟨wa.heap.size, 0, none⟩ = some (.int .i64 (5)) := B3.out.cell 0 rfl
    have y1 : W3.cell? ⟨wa.heap.size, 1, none⟩ = some (.int .i64 (9)) := B3.out.cell 1 rfl
    have y2 : W3.cell? ⟨wa.heap.size, 2, none⟩ = some (.int .i64 (1)) := B3.out.cell 2 rfl
    have y3 : W3.cell? ⟨wa.heap.size, 3, none⟩ = some (.int .i64 (0)) := B3.out.cell 3 rfl
    have y4 : W3.cell? ⟨wa.heap.size, 4, none⟩ = some (.int .i64 (3)) := B3.out.cell 4 rfl
    go_wp2_with fail
    refine (chkB30 _ (HE.out.below H3.out)).mono ?_
    rintro e w4 ⟨rfl, hb⟩
    have H4 := Lib.hid (H3.out.trans (hb.mono H3.out.size))
    have F4 := Lib.hid (F3.out.below hb)
    clear hb H3 F3 B3 y0 y1 y2 y3 y4
    go_wp2_with fail
    refine (isC (HE.out.below H4.out) (.bare 0 (by omega))).mono ?_
    rintro e w5 ⟨rfl, hb⟩
    have H5 := Lib.hid (H4.out.trans (hb.mono H4.out.size))
    have F5 := Lib.hid (F4.out.below hb)
    clear hb H4 F4
    go_wp2_with fail
    refine (isC (HE.out.below H5.out) (.bare 0 (by omega))).mono ?_
    rintro e w6 ⟨rfl, hb⟩
    have H6 := Lib.hid (H5.out.trans (hb.mono H5.out.size))
    have F6 := Lib.hid (F5.out.below hb)
    clear hb H5 F5
    have f2 : w6.cell? ⟨w1.heap.size, 2, none⟩ = some (.slice none 0 0) := F6.out.cell 2 rfl
    go_wp2_with fail
    go_returns
    exact ⟨rfl, H6.out⟩
  · go_upto_region 27 with fail
    have B1 := Lib.hid (B0.out.set 3 (.int .i64 (6)))
    have H1 := Lib.hid (HB.out.setCell (p := ⟨wa.heap.size, 3, none⟩) hS (.int .i64 (6)))
    clear x0 x1 x2 x3 x4 xf B0 HB u1
    generalize World.setCell wz _ _ = wy at *
    have y0 : wy.cell? ⟨wa.heap.size, 0, none⟩ = some (.int .i64 (5)) := B1.out.cell 0 rfl
    have y1 : wy.cell? ⟨wa.heap.size, 1, none⟩ = some (.int .i64 (9)) := B1.out.cell 1 rfl
    have y2 : wy.cell? ⟨wa.heap.size, 2, none⟩ = some (.int .i64 (1)) := B1.out.cell 2 rfl
    have y3 : wy.cell? ⟨wa.heap.size, 3, none⟩ = some (.int .i64 (6)) := B1.out.cell 3 rfl
    have y4 : wy.cell? ⟨wa.heap.size, 4, none⟩ = some (.int .i64 (3)) := B1.out.cell 4 rfl
    go_wp2_with fail
    refine (putBad (5) (9) (1) (6) (3) 1 (fun w h => chkB31 w h) _ (HE.out.below H1.out)).mono ?_
    rintro e w1 ⟨rfl, hb⟩
    have B2 := Lib.hid (B1.out.below hb)
    have H2 := Lib.hid (H1.out.trans (hb.mono H1.out.size))
    clear hb B1 H1 y0 y1 y2 y3 y4
    go_upto_region 28 with fail
    have F3 := Lib.hid (Bx.new w1 #[.int .u8 0, .int .u8 0, .slice none 0 0] 24)
    have B3 := Lib.hid (B2.out.below ((Below.refl _ _).alloc (Nat.le_refl _) (.cells #[.int .u8 0, .int .u8 0, .slice none 0 0] 24)))
    have H3 := Lib.hid (H2.out.alloc H2.out.size (.cells #[.int .u8 0, .int .u8 0, .slice none 0 0] 24))
    clear B2 H2
    generalize World.alloc w1 _ = W3 at *
    have y0 : W3.cell? ⟨wa.heap.size, 0, none⟩ = some (.int .i64 (5)) := B3.out.cell 0 rfl
    have y1 : W3.cell? ⟨wa.heap.size, 1, none⟩ = some (.int .i64 (9)) := B3.out.cell 1 rfl
    have y2 : W3.cell? ⟨wa.heap.size, 2, none⟩ = some (.int .i64 (1)) := B3.out.cell 2 rfl
    have y3 : W3.cell? ⟨wa.heap.size, 3, none⟩ = some (.int .i64 (6)) := B3.out.cell 3 rfl
    have y4 : W3.cell? ⟨wa.heap.size, 4, none⟩ = some (.int .i64 (3)) := B3.out.cell 4 rfl
    go_wp2_with fail
    refine (chkB31 _ (HE.out.below H3.out)).mono ?_
    rintro e w4 ⟨rfl, hb⟩
    have H4 := Lib.hid (H3.out.trans (hb.mono H3.out.size))
    have F4 := Lib.hid (F3.out.below hb)
    clear hb H3 F3 B3 y0 y1 y2 y3 y4
    go_wp2_with fail
    refine (isC (HE.out.below H4.out) (.bare 0 (by omega))).mono ?_
    rintro e w5 ⟨rfl, hb⟩
    have H5 := Lib.hid (H4.out.trans (hb.mono H4.out.size))
    have F5 := Lib.hid (F4.out.below hb)
    clear hb H4 F4
    go_wp2_with fail
    refine (isC (HE.out.below H5.out) (.bare 0 (by omega))).mono ?_
    rintro e w6 ⟨rfl, hb⟩
    have H6 := Lib.hid (H5.out.trans (hb.mono H5.out.size))
    have F6 := Lib.hid (F5.out.below hb)
    clear hb H5 F5
    have f2 : w6.cell? ⟨w1.heap.size, 2, none⟩ = some (.slice none 0 0) := F6.out.cell 2 rfl
    go_wp2_with fail
    go_returns
    exact ⟨rfl, H6.out⟩
  · go_upto_region 27 with fail
    have B1 := Lib.hid (B0.out.set 4 (.int .i64 (-1)))
    have H1 := Lib.hid (HB.out.setCell (p := ⟨wa.heap.size, 4, none⟩) hS (.int .i64 (-1)))
    clear x0 x1 x2 x3 x4 xf B0 HB u1
    generalize World.setCell wz _ _ = wy at *
    have y0 : wy.cell? ⟨wa.heap.size, 0, none⟩ = some (.int .i64 (5)) := B1.out.cell 0 rfl
    have y1 : wy.cell? ⟨wa.heap.size, 1, none⟩ = some (.int .i64 (9)) := B1.out.cell 1 rfl
    have y2 : wy.cell? ⟨wa.heap.size, 2, none⟩ = some (.int .i64 (1)) := B1.out.cell 2 rfl
    have y3 : wy.cell? ⟨wa.heap.size, 3, none⟩ = some (.int .i64 (2)) := B1.out.cell 3 rfl
    have y4 : wy.cell? ⟨wa.heap.size, 4, none⟩ = some (.int .i64 (-1)) := B1.out.cell 4 rfl
    go_wp2_with fail
    refine (putBad (5) (9) (1) (2) (-1) 1 (fun w h => chkB40 w h) _ (HE.out.below H1.out)).mono ?_
    rintro e w1 ⟨rfl, hb⟩
    have B2 := Lib.hid (B1.out.below hb)
    have H2 := Lib.hid (H1.out.trans (hb.mono H1.out.size))
    clear hb B1 H1 y0 y1 y2 y3 y4
    go_upto_region 28 with fail
    have F3 := Lib.hid (Bx.new w1 #[.int .u8 0, .int .u8 0, .slice none 0 0] 24)
    have B3 := Lib.hid (B2.out.below ((Below.refl _ _).alloc (Nat.le_refl _) (.cells #[.int .u8 0, .int .u8 0, .slice none 0 0] 24)))
    have H3 := Lib.hid (H2.out.alloc H2.out.size (.cells #[.int .u8 0, .int .u8 0, .slice none 0 0] 24))
    clear B2 H2
    generalize World.alloc w1 _ = W3 at *
    have y0 : W3.cell? ⟨wa.heap.size, 0, none⟩ = some (.int .i64 (5)) := B3.out.cell 0 rfl
    have y1 : W3.cell? ⟨wa.heap.size, 1, none⟩ = some (.int .i64 (9)) := B3.out.cell 1 rfl
    have y2 : W3.cell? ⟨wa.heap.size, 2, none⟩ = some (.int .i64 (1)) := B3.out.cell 2 rfl
    have y3 : W3.cell? ⟨wa.heap.size, 3, none⟩ = some (.int .i64 (2)) := B3.out.cell 3 rfl
    have y4 : W3.cell? ⟨wa.heap.size, 4, none⟩ = some (.int .i64 (-1)) := B3.out.cell 4 rfl
    go_wp2_with fail
    refine (chkB40 _ (HE.out.below H3.out)).mono ?_
    rintro e w4 ⟨rfl, hb⟩
    have H4 := Lib.hid (H3.out.trans (hb.mono H3.out.size))
    have F4 := Lib.hid (F3.out.below hb)
    clear hb H3 F3 B3 y0 y1 y2 y3 y4
    go_wp2_with fail
    refine (isC (HE.out.below H4.out) (.bare 0 (by omega))).mono ?_
    rintro e w5 ⟨rfl, hb⟩
    have H5 := Lib.hid (H4.out.trans (hb.mono H4.out.size))
    have F5 := Lib.hid (F4.out.below hb)
    clear hb H4 F4
    go_wp2_with fail
    refine (isC (HE.out.below H5.out) (.bare 0 (by omega))).mono ?_
    rintro e w6 ⟨rfl, hb⟩
    have H6 := Lib.hid (H5.out.trans (hb.mono H5.out.size))
    have F6 := Lib.hid (F5.out.below hb)
    clear hb H5 F5
    have f2 : w6.cell? ⟨w1.heap.size, 2, none⟩ = some (.slice none 0 0) := F6.out.cell 2 rfl
    go_wp2_with fail
    go_returns
    exact ⟨rfl, H6.out⟩
  · go_upto_region 27 with fail
    have B1 := Lib.hid (B0.out.set 4 (.int .i64 (512)))
    have H1 := Lib.hid (HB.out.setCell (p := ⟨wa.heap.size, 4, none⟩) hS (.int .i64 (512)))
    clear x0 x1 x2 x3 x4 xf B0 HB u1
    generalize World.setCell wz _ _ = wy at *
    have y0 : wy.cell? ⟨wa.heap.size, 0, none⟩ = some (.int .i64 (5)) := B1.out.cell 0 rfl
    have y1 : wy.cell? ⟨wa.heap.size, 1, none⟩ = some (.int .i64 (9)) := B1.out.cell 1 rfl
    have y2 : wy.cell? ⟨wa.heap.size, 2, none⟩ = some (.int .i64 (1)) := B1.out.cell 2 rfl
    have y3 : wy.cell? ⟨wa.heap.size, 3, none⟩ = some (.int .i64 (2)) := B1.out.cell 3 rfl
    have y4 : wy.cell? ⟨wa.heap.size, 4, none⟩ = some (.int .i64 (512)) := B1.out.cell 4 rfl
    go_wp2_with fail
    refine (putBad (5) (9) (1) (2) (512) 1 (fun w h => chkB41 w h) _ (HE.out.below H1.out)).mono ?_
    rintro e w1 ⟨rfl, hb⟩
    have B2 := Lib.hid (B1.out.below hb)
    have H2 := Lib.hid (H1.out.trans (hb.mono H1.out.size))
    clear hb B1 H1 y0 y1 y2 y3 y4
    go_upto_region 28 with fail
    have F3 := Lib.hid (Bx.new w1 #[.int .u8 0, .int .u8 0, .slice none 0 0] 24)
    have B3 := Lib.hid (B2.out.below ((Below.refl _ _).alloc (Nat.le_refl _) (.cells #[.int .u8 0, .int .u8 0, .slice none 0 0] 24)))
    have H3 := Lib.hid (H2.out.alloc H2.out.size (.cells #[.int .u8 0, .int .u8 0, .slice none 0 0] 24))
    clear B2 H2
    generalize World.alloc w1 _ = W3 at *
    have y0 : W3.cell? ⟨wa.heap.size, 0, none⟩ = some (.int .i64 (5)) := B3.out.cell 0 rfl
    have y1 : W3.cell? ⟨wa.heap.size, 1, none⟩ = some (.int .i64 (9)) := B3.out.cell 1 rfl
    have y2 : W3.cell? ⟨wa.heap.size, 2, none⟩ = some (.int .i64 (1)) := B3.out.cell 2 rfl
    have y3 : W3.cell? ⟨wa.heap.size, 3, none⟩ = some (.int .i64 (2)) := B3.out.cell 3 rfl
    have y4 : W3.cell? ⟨wa.heap.size, 4, none⟩ = some (.int .i64 (512)) := B3.out.cell 4 rfl
    go_wp2_with fail
    refine (chkB41 _ (HE.out.below H3.out)).mono ?_
    rintro e w4 ⟨rfl, hb⟩
    have H4 := Lib.hid (H3.out.trans (hb.mono H3.out.size))
    have F4 := Lib.hid (F3.out.below hb)
    clear hb H3 F3 B3 y0 y1 y2 y3 y4
    go_wp2_with fail
    refine (isC (HE.out.below H4.out) (.bare 0 (by omega))).mono ?_
    rintro e w5 ⟨rfl, hb⟩
    have H5 := Lib.hid (H4.out.trans (hb.mono H4.out.size))
    have F5 := Lib.hid (F4.out.below hb)
    clear hb H4 F4
    go_wp2_with fail
    refine (isC (HE.out.below H5.out) (.bare 0 (by omega))).mono ?_
    rintro e w6 ⟨rfl, hb⟩
    have H6 := Lib.hid (H5.out.trans (hb.mono H5.out.size))
    have F6 := Lib.hid (F5.out.below hb)
    clear hb H5 F5
    have f2 : w6.cell? ⟨w1.heap.size, 2, none⟩ = some (.slice none 0 0) := F6.out.cell 2 rfl
    go_wp2_with fail
    go_returns
    exact ⟨rfl, H6.out⟩
end Go.Proofs.YtiiomiekjlggfaaDoor
