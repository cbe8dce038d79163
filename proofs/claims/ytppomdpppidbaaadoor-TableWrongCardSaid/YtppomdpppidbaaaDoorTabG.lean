/- Where a right table's line stands, as the package tells it; tables of two and of three points. Conditions: the table is right. -/
import Derived.Test.YtppomdpppidbaaaDoorTabF
namespace Go.Proofs.YtppomdpppidbaaaDoor
open Go.RowKit
set_option linter.unusedVariables false
set_option maxHeartbeats 4000000 in
theorem tabAtC (a : Addr) (n cap : Nat) (x y : Nat → Int) (v : Int) (T : TabOk n x y) (w : World) (h : Pts w a n x y) :
    Calls Tryd.prog 16 #[.slice (some a) n cap, .int .i64 v] w fun e w' => e = .returned (.agg #[.int .i64 (atLo n x y v), .int .i64 (atHi n x y v)]) ∧ Below w.heap.size w w' := by
  have T1 := Lib.hid T
  have H := Lib.hid h
  clear h T
  go_enter Tryd.func16, Tryd.ntmps16
  go_wp2_with fail
  have B0 := Lib.hid (Bx.new w #[.int .i64 0, .int .i64 0] 27)
  generalize World.alloc w _ = W0 at *
  refine (checkC a n cap x y T1.out _ (H.out.below B0.out.lo)).mono ?_
  rintro e w1 ⟨rfl, hb1⟩
  have B1 := Lib.hid (B0.out.below hb1)
  clear hb1 B0
  go_wp2_with fail
  refine (atC a n cap x y v T1.out _ (H.out.below B1.out.lo)).mono ?_
  rintro e w5 ⟨rfl, hb5⟩
  have B5 := Lib.hid (B1.out.below hb5)
  clear hb5 B1
  obtain ⟨al, hal⟩ : ∃ k, atLo n x y v = k := ⟨_, rfl⟩
  obtain ⟨ah, hah⟩ : ∃ k, atHi n x y v = k := ⟨_, rfl⟩
  rw [hal, hah]
  have HE := Lib.hid (And.intro hal hah)
  clear hal hah
  have x0 := B5.out.cell 0 rfl
  have x1 := B5.out.cell 1 rfl
  have xf := B5.out.froz
  go_wp2_with fail
  have B6 := Lib.hid ((B5.out.set 0 (.int .i64 al)).set 1 (.int .i64 ah))
  clear x0 x1 xf
  generalize World.setCell _ _ _ = W3 at *
  have q0 : W3.cell? ⟨w.heap.size, 0, none⟩ = some (.int .i64 al) := B6.out.cell 0 rfl
  have q1 : W3.cell? ⟨w.heap.size, 1, none⟩ = some (.int .i64 ah) := B6.out.cell 1 rfl
  refine bodyPost_ret (v := .agg #[.int .i64 al, .int .i64 ah]) (by simp [results, Tryd.results16, go_sem, q0, q1]) rfl ⟨by rw [HE.out.1, HE.out.2], B6.out.lo⟩
def f2 (a b : Int) : Nat → Int
  | 0 => a
  | _ => b
def f3 (a b c : Int) : Nat → Int
  | 0 => a
  | 1 => b
  | _ => c
theorem f2_ok {a b c d : Int} (h1 : -1073741824 ≤ a) (h2 : a < b) (h3 : b ≤ 1073741824) (h4 : -1073741824 ≤ c) (h5 : c ≤ d) (h6 : d ≤ 1073741824) : TabOk 2 (f2 a b) (f2 c d) := by
  refine ⟨by omega, by omega, fun i h => ?_, fun i h => ?_, fun i h => ?_, fun i h => ?_⟩
  · match i, h with
    | 0, _ | 1, _ => simp only [f2]; omega
  · match i, h with
    | 0, _ | 1, _ => simp only [f2]; omega
  · match i, h with
    | 0, _ => simp only [f2]; omega
  · match i, h with
    | 0, _ => simp only [f2]; omega
theorem f3_ok {a b c p q r : Int} (h1 : -1073741824 ≤ a) (h2 : a < b) (h3 : b < c) (h3' : c ≤ 1073741824) (h4 : -1073741824 ≤ p) (h5 : p ≤ q) (h6 : q ≤ r) (h7 : r ≤ 1073741824) : TabOk 3 (f3 a b c) (f3 p q r) := by
  refine ⟨by omega, by omega, fun i h => ?_, fun i h => ?_, fun i h => ?_, fun i h => ?_⟩
  · match i, h with
    | 0, _ | 1, _ | 2, _ => simp only [f3]; omega
  · match i, h with
    | 0, _ | 1, _ | 2, _ => simp only [f3]; omega
  · match i, h with
    | 0, _ | 1, _ => simp only [f3]; omega
  · match i, h with
    | 0, _ | 1, _ => simp only [f3]; omega
theorem pts2 {w : World} {O : Nat} {t : TypeId} {a b c d : Int} (h : w.heap[O]? = some (.cells #[.int .i64 a, .int .i64 c, .int .i64 b, .int .i64 d] t (0, 0))) : Pts w ⟨O, 0, none⟩ 2 (f2 a b) (f2 c d) := by
  intro i hi
  match i, hi with
  | 0, _ | 1, _ => exact ⟨cell_of_row _ _ _ _ _ _ h, cell_of_row _ _ _ _ _ _ h⟩
theorem pts3 {w : World} {O : Nat} {t : TypeId} {a b c p q r : Int} (h : w.heap[O]? = some (.cells #[.int .i64 a, .int .i64 p, .int .i64 b, .int .i64 q, .int .i64 c, .int .i64 r] t (0, 0))) : Pts w ⟨O, 0, none⟩ 3 (f3 a b c) (f3 p q r) := by
  intro i hi
  match i, hi with
  | 0, _ | 1, _ | 2, _ => exact ⟨cell_of_row _ _ _ _ _ _ h, cell_of_row _ _ _ _ _ _ h⟩
theorem tabFirst (w : World) : Calls Tryd.prog 8 #[] w fun e w' => e = .returned (.bool true) ∧ Below w.heap.size w w' := by
  go_enter Tryd.func8, Tryd.ntmps8
  go_wp2_with fail
  refine (tabAtC ⟨w.heap.size, 0, none⟩ 2 2 (f2 0 2) (f2 0 1) 1 (f2_ok (by omega) (by omega) (by omega) (by omega) (by omega) (by omega)) _ (pts2 (heap_alloc_new _ _))).mono ?_
  rintro e w1 ⟨rfl, hb⟩
  have B1 := Lib.hid (((Below.refl _ w).alloc (Nat.le_refl _) (.cells #[.int .i64 0, .int .i64 0, .int .i64 2, .int .i64 1] 24)).trans (hb.mono (by simp)))
  clear hb
  rw [show atLo 2 (f2 0 2) (f2 0 1) 1 = 0 by decide, show atHi 2 (f2 0 2) (f2 0 1) 1 = 1 by decide]
  go_wp2_with fail
  go_returns
  exact ⟨rfl, B1.out.alloc B1.out.size _⟩
end Go.Proofs.YtppomdpppidbaaaDoor
