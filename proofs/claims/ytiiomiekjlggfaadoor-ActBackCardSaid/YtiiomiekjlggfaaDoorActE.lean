/- The frame of what may be put out; the document's, too. Conditions: the seven errors lie apart. -/
import Derived.Test.YtiiomiekjlggfaaDoorActD
namespace Go.Proofs.YtiiomiekjlggfaaDoor
open Go Go.RowKit
set_option linter.unusedVariables false
set_option maxRecDepth 20000
set_option maxHeartbeats 8000000 in
theorem putO {E : Nat → Addr} (a b c d e s : Int) (hg : goodO a b c d e = true) (w : World) (he : Ers E w) :
    Calls Tryd.prog 24 #[.agg #[.int .i64 a, .int .i64 b, .int .i64 c, .int .i64 d, .int .i64 e], .int .u8 s] w fun r w' => ∃ B, r = .returned (.tuple #[.agg #[.int .u8 96, .int .u8 s, .slice (some ⟨B, 0, none⟩) 7 7], .nilIface]) ∧ w'.heap[B]? = some (.cells #[.int .u8 a, .int .u8 (b / 256), .int .u8 (b % 256), .int .u8 c, .int .u8 d, .int .u8 (e / 256), .int .u8 (e % 256)] 5 (0, 0)) ∧ Below w.heap.size w w' := by
  have HE := Lib.hid he
  have K := Lib.hid fun (w : World) (h : Ers E w) => checkC a b c d e w h
  rw [if_pos hg] at K
  clear he
  have hr := (goodO_is a b c d e).1 hg
  clear hg
  have v0 : IntKind.u8.wrap a = a := by rw [IntKind.wrap_u8]; omega
  have v1 : IntKind.u8.wrap (b / 256) = b / 256 := by rw [IntKind.wrap_u8]; omega
  have v2 : IntKind.u8.wrap b = b % 256 := by rw [IntKind.wrap_u8]
  have v3 : IntKind.u8.wrap c = c := by rw [IntKind.wrap_u8]; omega
  have v4 : IntKind.u8.wrap d = d := by rw [IntKind.wrap_u8]; omega
  have v5 : IntKind.u8.wrap (e / 256) = e / 256 := by rw [IntKind.wrap_u8]; omega
  have v6 : IntKind.u8.wrap e = e % 256 := by rw [IntKind.wrap_u8]
  clear hr
  go_enter Tryd.func24, Tryd.ntmps24
  go_upto_region 1 with fail
  have B0 := Lib.hid (Bx2.new w #[.int .i64 a, .int .i64 b, .int .i64 c, .int .i64 d, .int .i64 e] 49 #[.int .u8 0, .int .u8 0, .slice none 0 0] 24)
  generalize World.alloc (World.alloc w _) _ = W at *
  have y0 : W.cell? ⟨w.heap.size, 0, none⟩ = some (.int .i64 a) := B0.out.cell1 0 rfl
  have y1 : W.cell? ⟨w.heap.size, 1, none⟩ = some (.int .i64 b) := B0.out.cell1 1 rfl
  have y2 : W.cell? ⟨w.heap.size, 2, none⟩ = some (.int .i64 c) := B0.out.cell1 2 rfl
  have y3 : W.cell? ⟨w.heap.size, 3, none⟩ = some (.int .i64 d) := B0.out.cell1 3 rfl
  have y4 : W.cell? ⟨w.heap.size, 4, none⟩ = some (.int .i64 e) := B0.out.cell1 4 rfl
  go_wp2_with fail
  refine (K.out _ (HE.out.below B0.out.lo)).mono ?_
  rintro e w1 ⟨rfl, hb⟩
  have B1 := Lib.hid (B0.out.below hb)
  clear hb B0 y0 y1 y2 y3 y4
  have y0 : w1.cell? ⟨w.heap.size, 0, none⟩ = some (.int .i64 a) := B1.out.cell1 0 rfl
  have y1 : w1.cell? ⟨w.heap.size, 1, none⟩ = some (.int .i64 b) := B1.out.cell1 1 rfl
  have y2 : w1.cell? ⟨w.heap.size, 2, none⟩ = some (.int .i64 c) := B1.out.cell1 2 rfl
  have y3 : w1.cell? ⟨w.heap.size, 3, none⟩ = some (.int .i64 d) := B1.out.cell1 3 rfl
  have y4 : w1.cell? ⟨w.heap.size, 4, none⟩ = some (.int .i64 e) := B1.out.cell1 4 rfl
  have x0 : w1.cell? ⟨w.heap.size + 1, 0, none⟩ = some (.int .u8 0) := B1.out.cell2 0 rfl
  have x1 : w1.cell? ⟨w.heap.size + 1, 1, none⟩ = some (.int .u8 0) := B1.out.cell2 1 rfl
  have x2 : w1.cell? ⟨w.heap.size + 1, 2, none⟩ = some (.slice none 0 0) := B1.out.cell2 2 rfl
  have xf := B1.out.froz2
  have A1 := Lib.hid fun o => B1.out.below ((Below.refl w1.heap.size w1).alloc (Nat.le_refl _) o)
  have x0a := fun o => (A1.out o).cell2 0 rfl
  have x1a := fun o => (A1.out o).cell2 1 rfl
  have x2a := fun o => (A1.out o).cell2 2 rfl
  have xfa := fun o => (A1.out o).froz2
  go_wp2_with fail
  have R3 := Lib.hid (heap_alloc_new w1 (.cells #[.int .u8 a, .int .u8 (b / 256), .int .u8 (b % 256), .int .u8 c, .int .u8 d, .int .u8 (e / 256), .int .u8 (e % 256)] 5))
  have B2 := Lib.hid (A1.out (.cells #[.int .u8 a, .int .u8 (b / 256), .int .u8 (b % 256), .int .u8 c, .int .u8 d, .int .u8 (e / 256), .int .u8 (e % 256)] 5))
  have hsz := Lib.hid (Array.getElem?_eq_some_iff.1 B1.out.row2).1
  clear x0 x1 x2 xf x0a x1a x2a xfa y0 y1 y2 y3 y4 A1
  generalize World.alloc w1 _ = W3 at *
  have B6 := Lib.hid (((B2.out.set2 0 (.int .u8 96)).set2 1 (.int .u8 s)).set2 2 (.slice (some ⟨w1.heap.size, 0, none⟩) 7 7))
  have R6 : (((W3.setCell ⟨w.heap.size + 1, 0, none⟩ (.int .u8 96)).setCell ⟨w.heap.size + 1, 1, none⟩ (.int .u8 s)).setCell ⟨w.heap.size + 1, 2, none⟩ (.slice (some ⟨w1.heap.size, 0, none⟩) 7 7)).heap[w1.heap.size]? = some (.cells #[.int .u8 a, .int .u8 (b / 256), .int .u8 (b % 256), .int .u8 c, .int .u8 d, .int .u8 (e / 256), .int .u8 (e % 256)] 5 (0, 0)) := by
    have := hsz.out
    rw [heap_setCell_other _ _ _ _ (by simp; omega), heap_setCell_other _ _ _ _ (by simp; omega), heap_setCell_other _ _ _ _ (by simp; omega)]
    exact R3.out
  have R7 := Lib.hid R6
  clear R6 R3 B2
  generalize World.setCell (World.setCell (World.setCell W3 _ _) _ _) _ _ = W4 at *
  have q0 : W4.cell? ⟨w.heap.size + 1, 0, none⟩ = some (.int .u8 96) := B6.out.cell2 0 rfl
  have q1 : W4.cell? ⟨w.heap.size + 1, 1, none⟩ = some (.int .u8 s) := B6.out.cell2 1 rfl
  have q2 : W4.cell? ⟨w.heap.size + 1, 2, none⟩ = some (.slice (some ⟨w1.heap.size, 0, none⟩) 7 7) := B6.out.cell2 2 rfl
  refine bodyPost_ret (v := .tuple #[.agg #[.int .u8 96, .int .u8 s, .slice (some ⟨w1.heap.size, 0, none⟩) 7 7], .nilIface]) (by simp [results, Tryd.results24, go_sem, q0, q1, q2]) rfl ⟨w1.heap.size, rfl, R7.out, B6.out.lo⟩
set_option maxHeartbeats 8000000 in
theorem putOR (a b c d e s : Int) (hg : goodO a b c d e = true) (w : World) :
    Calls Tryd.prog 26 #[.agg #[.int .i64 a, .int .i64 b, .int .i64 c, .int .i64 d, .int .i64 e], .int .u8 s] w fun r w' => ∃ B, r = .returned (.tuple #[.agg #[.int .u8 96, .int .u8 s, .slice (some ⟨B, 0, none⟩) 7 7], .int .i64 0]) ∧ w'.heap[B]? = some (.cells #[.int .u8 a, .int .u8 (b / 256), .int .u8 (b % 256), .int .u8 c, .int .u8 d, .int .u8 (e / 256), .int .u8 (e % 256)] 5 (0, 0)) ∧ Below w.heap.size w w' := by
  have K := Lib.hid fun (w : World) => goodOutC a b c d e w
  rw [hg] at K
  have hr := (goodO_is a b c d e).1 hg
  clear hg
  have v0 : IntKind.u8.wrap a = a := by rw [IntKind.wrap_u8]; omega
  have v1 : IntKind.u8.wrap (b / 256) = b / 256 := by rw [IntKind.wrap_u8]; omega
  have v2 : IntKind.u8.wrap b = b % 256 := by rw [IntKind.wrap_u8]
  have v3 : IntKind.u8.wrap c = c := by rw [IntKind.wrap_u8]; omega
  have v4 : IntKind.u8.wrap d = d := by rw [IntKind.wrap_u8]; omega
  have v5 : IntKind.u8.wrap (e / 256) = e / 256 := by rw [IntKind.wrap_u8]; omega
  have v6 : IntKind.u8.wrap e = e % 256 := by rw [IntKind.wrap_u8]
  clear hr
  go_enter Tryd.func26, Tryd.ntmps26
  go_upto_region 1 with fail
  have B0 := Lib.hid (Bx2.new w #[.int .i64 a, .int .i64 b, .int .i64 c, .int .i64 d, .int .i64 e] 49 #[.int .u8 0, .int .u8 0, .slice none 0 0] 24)
  generalize World.alloc (World.alloc w _) _ = W at *
  have y0 : W.cell? ⟨w.heap.size, 0, none⟩ = some (.int .i64 a) := B0.out.cell1 0 rfl
  have y1 : W.cell? ⟨w.heap.size, 1, none⟩ = some (.int .i64 b) := B0.out.cell1 1 rfl
  have y2 : W.cell? ⟨w.heap.size, 2, none⟩ = some (.int .i64 c) := B0.out.cell1 2 rfl
  have y3 : W.cell? ⟨w.heap.size, 3, none⟩ = some (.int .i64 d) := B0.out.cell1 3 rfl
  have y4 : W.cell? ⟨w.heap.size, 4, none⟩ = some (.int .i64 e) := B0.out.cell1 4 rfl
  go_wp2_with fail
  refine (K.out _).mono ?_
  rintro e w1 ⟨rfl, hb⟩
  have B1 := Lib.hid (B0.out.below hb)
  clear hb B0 y0 y1 y2 y3 y4
  have y0 : w1.cell? ⟨w.heap.size, 0, none⟩ = some (.int .i64 a) := B1.out.cell1 0 rfl
  have y1 : w1.cell? ⟨w.heap.size, 1, none⟩ = some (.int .i64 b) := B1.out.cell1 1 rfl
  have y2 : w1.cell? ⟨w.heap.size, 2, none⟩ = some (.int .i64 c) := B1.out.cell1 2 rfl
  have y3 : w1.cell? ⟨w.heap.size, 3, none⟩ = some (.int .i64 d) := B1.out.cell1 3 rfl
  have y4 : w1.cell? ⟨w.heap.size, 4, none⟩ = some (.int .i64 e) := B1.out.cell1 4 rfl
  have x0 : w1.cell? ⟨w.heap.size + 1, 0, none⟩ = some (.int .u8 0) := B1.out.cell2 0 rfl
  have x1 : w1.cell? ⟨w.heap.size + 1, 1, none⟩ = some (.int .u8 0) := B1.out.cell2 1 rfl
  have x2 : w1.cell? ⟨w.heap.size + 1, 2, none⟩ = some (.slice none 0 0) := B1.out.cell2 2 rfl
  have xf := B1.out.froz2
  have A1 := Lib.hid fun o => B1.out.below ((Below.refl w1.heap.size w1).alloc (Nat.le_refl _) o)
  have x0a := fun o => (A1.out o).cell2 0 rfl
  have x1a := fun o => (A1.out o).cell2 1 rfl
  have x2a := fun o => (A1.out o).cell2 2 rfl
  have xfa := fun o => (A1.out o).froz2
  go_wp2_with fail
  have R3 := Lib.hid (heap_alloc_new w1 (.cells #[.int .u8 a, .int .u8 (b / 256), .int .u8 (b % 256), .int .u8 c, .int .u8 d, .int .u8 (e / 256), .int .u8 (e % 256)] 5))
  have B2 := Lib.hid (A1.out (.cells #[.int .u8 a, .int .u8 (b / 256), .int .u8 (b % 256), .int .u8 c, .int .u8 d, .int .u8 (e / 256), .int .u8 (e % 256)] 5))
  have hsz := Lib.hid (Array.getElem?_eq_some_iff.1 B1.out.row2).1
  clear x0 x1 x2 xf x0a x1a x2a xfa y0 y1 y2 y3 y4 A1
  generalize World.alloc w1 _ = W3 at *
  have B6 := Lib.hid (((B2.out.set2 0 (.int .u8 96)).set2 1 (.int .u8 s)).set2 2 (.slice (some ⟨w1.heap.size, 0, none⟩) 7 7))
  have R6 : (((W3.setCell ⟨w.heap.size + 1, 0, none⟩ (.int .u8 96)).setCell ⟨w.heap.size + 1, 1, none⟩ (.int .u8 s)).setCell ⟨w.heap.size + 1, 2, none⟩ (.slice (some ⟨w1.heap.size, 0, none⟩) 7 7)).heap[w1.heap.size]? = some (.cells #[.int .u8 a, .int .u8 (b / 256), .int .u8 (b % 256), .int .u8 c, .int .u8 d, .int .u8 (e / 256), .int .u8 (e % 256)] 5 (0, 0)) := by
    have := hsz.out
    rw [heap_setCell_other _ _ _ _ (by simp; omega), heap_setCell_other _ _ _ _ (by simp; omega), heap_setCell_other _ _ _ _ (by simp; omega)]
    exact R3.out
  have R7 := Lib.hid R6
  clear R6 R3 B2
  generalize World.setCell (World.setCell (World.setCell W3 _ _) _ _) _ _ = W4 at *
  have q0 : W4.cell? ⟨w.heap.size + 1, 0, none⟩ = some (.int .u8 96) := B6.out.cell2 0 rfl
  have q1 : W4.cell? ⟨w.heap.size + 1, 1, none⟩ = some (.int .u8 s) := B6.out.cell2 1 rfl
  have q2 : W4.cell? ⟨w.heap.size + 1, 2, none⟩ = some (.slice (some ⟨w1.heap.size, 0, none⟩) 7 7) := B6.out.cell2 2 rfl
  refine bodyPost_ret (v := .tuple #[.agg #[.int .u8 96, .int .u8 s, .slice (some ⟨w1.heap.size, 0, none⟩) 7 7], .int .i64 0]) (by simp [results, Tryd.results26, go_sem, q0, q1, q2]) rfl ⟨w1.heap.size, rfl, R7.out, B6.out.lo⟩
end Go.Proofs.YtiiomiekjlggfaaDoor
