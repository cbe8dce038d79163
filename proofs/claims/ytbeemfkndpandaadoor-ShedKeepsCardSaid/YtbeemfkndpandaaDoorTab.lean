/- Lines through points: a table that is right, by a plain definition. Conditions: every number is small. -/
import Derived.Test.YtbeemfkndpandaaDoorTail
import Derived.Test.YtbeemfkndpandaaDoorBase
import Derived.Test.YtbeemfkndpandaaDoorOnly
import Derived.Test.YtbeemfkndpandaaDoorCame
import Derived.Test.YtbeemfkndpandaaDoorFlat
import Derived.Handy
import Derived.OpenShut
import Derived.Lib.Hide
import Derived.BigQuiet
import Derived.Deep.DeepCutAuto
namespace Go.Proofs.YtbeemfkndpandaaDoor
open Go.RowKit
set_option linter.unusedVariables false
/-- The points x, y of a table that lies at a: n of them. -/
def Pts (w : World) (a : Addr) (n : Nat) (x y : Nat → Int) : Prop :=
  ∀ i, i < n → w.cell? (a.add (i * 2)) = some (.int .i64 (x i)) ∧ w.cell? ⟨(a.add (i * 2)).block, (a.add (i * 2)).off + 1, none⟩ = some (.int .i64 (y i))
structure TabOk (n : Nat) (x y : Nat → Int) : Prop where
  n2 : 2 ≤ n
  n3 : n ≤ 64
  bx : ∀ i, i < n → -1073741824 ≤ x i ∧ x i ≤ 1073741824
  by' : ∀ i, i < n → -1073741824 ≤ y i ∧ y i ≤ 1073741824
  mx : ∀ i, i + 1 < n → x i < x (i + 1)
  my : ∀ i, i + 1 < n → y i ≤ y (i + 1)
theorem Pts.below {w w' : World} {a : Addr} {n : Nat} {x y : Nat → Int} (h : Pts w a n x y) (hb : Below w.heap.size w w') : Pts w' a n x y :=
  fun i hi => ⟨below_cell hb (h i hi).1, below_cell hb (h i hi).2⟩
theorem outsideC (n : Int) (h1 : -1073741824 ≤ n) (h2 : n ≤ 1073741824) (w : World) :
    Calls Tryd.prog 69 #[.int .i64 n] w fun e w' => e = .returned (.bool false) ∧ w = w' := by
  have e1 : decide (n < -1073741824) = false := decide_eq_false (by omega)
  have e2 : decide (1073741824 < n) = false := decide_eq_false (by omega)
  go_enter Tryd.func69, Tryd.ntmps69
  go_wp2_with fail
  all_goals
    go_ret
    exact ⟨by first | rw [e1, e2]; rfl | rfl, rfl⟩
set_option maxHeartbeats 4000000 in
theorem checkC (a : Addr) (n cap : Nat) (x y : Nat → Int) (T : TabOk n x y) (w : World) (h : Pts w a n x y) :
    Calls Tryd.prog 66 #[.slice (some a) n cap] w fun e w' => e = .returned .nilIface ∧ Below w.heap.size w w' := by
  have T1 := Lib.hid T
  have H := Lib.hid h
  have n2 := T.n2
  have n3 := T.n3
  clear h T
  go_enter Tryd.func66, Tryd.ntmps66
  go_wp2_with fail
  go_loopw [15] (fun v wr => ∃ i : Nat, i ≤ n ∧ v = .int .i64 i ∧ Below w.heap.size w wr) (fun v _ => n - (intOf v).toNat)
  case atStart => exact ⟨0, by omega, rfl, Below.refl _ _⟩
  case round =>
    obtain ⟨i, hi, rfl, hb⟩ := hrel
    have HB := Lib.hid hb
    clear hb
    by_cases hl : i < n
    · have P := Lib.hid (H.out.below HB.out)
      obtain ⟨c0, c1⟩ := P.out i hl
      obtain ⟨b1, b2⟩ := T1.out.bx i hl
      obtain ⟨b3, b4⟩ := T1.out.by' i hl
      have K1 := Lib.hid fun (w : World) => outsideC (x i) b1 b2 w
      have K2 := Lib.hid fun (w : World) => outsideC (y i) b3 b4 w
      clear b1 b2 b3 b4
      go_upto_region 8 with fail
      generalize hW : World.alloc wr _ = W
      have hrow : W.heap[wr.heap.size]? = some (.cells #[.int .i64 (x i), .int .i64 (y i)] 67 (0, 0)) := by rw [← hW]; exact heap_alloc_new _ _
      have hbw : Below wr.heap.size wr W := by rw [← hW]; exact (Below.refl _ _).alloc (Nat.le_refl _) _
      have z0 : W.cell? ⟨wr.heap.size, 0, none⟩ = some (.int .i64 (x i)) := cell_of_row _ _ 0 _ _ _ hrow
      have z1 : W.cell? ⟨wr.heap.size, 1, none⟩ = some (.int .i64 (y i)) := cell_of_row _ _ 1 _ _ _ hrow
      have P2 := Lib.hid (P.out.below hbw)
      have HB2 := Lib.hid (HB.out.trans (hbw.mono HB.out.size))
      have l6 := (Array.getElem?_eq_some_iff.1 hrow).1
      have r0 := fun d => reach_cell z0 l6 d
      have r1 := fun d => reach_cell z1 l6 d
      have PR := Lib.hid fun d => P2.out.below (reach_below W.heap.size W d)
      have BR := Lib.hid fun d => HB2.out.trans ((reach_below W.heap.size W d).mono HB2.out.size)
      clear hW hrow hbw c0 c1 HB P
      rcases (show i = 0 ∨ ∃ k, i = k + 1 by cases i; exact .inl rfl; exact .inr ⟨_, rfl⟩) with h0 | ⟨k, hk⟩
      · subst h0
        go_wp2_with fail
        refine (K1.out _).mono ?_
        rintro e w' ⟨rfl, rfl⟩
        go_wp2_with fail
        refine (K2.out _).mono ?_
        rintro e w' ⟨rfl, rfl⟩
        go_upto_region 10 with fail
        refine wp_region_reach W.heap.size (by kernel_rfl) (by kernel_rfl) ?_
        repeat (go_big_quiet_step (fail))
        refine wpQuiet_nil ?_
        rintro w' ⟨d, rfl⟩
        go_wp2_with fail
        go_roundw
        case rel => exact ⟨1, by omega, by go_num, BR.out d⟩
        case measure => simp [intOf]; omega
      · subst hk
        obtain ⟨d0, d1⟩ := P2.out k (by omega)
        have m1 := T1.out.mx k hl
        have m2 := T1.out.my k hl
        have g1 : decide (x (k + 1) ≤ x k) = false := decide_eq_false (by omega)
        have g2 : decide (y (k + 1) < y k) = false := decide_eq_false (by omega)
        go_wp2_with fail
        refine (K1.out _).mono ?_
        rintro e w' ⟨rfl, rfl⟩
        go_wp2_with fail
        refine (K2.out _).mono ?_
        rintro e w' ⟨rfl, rfl⟩
        clear d0 d1
        have d0 := fun d => (PR.out d k (by omega)).1
        have d1 := fun d => (PR.out d k (by omega)).2
        go_upto_region 10 with fail
        refine wp_region_reach W.heap.size (by kernel_rfl) (by kernel_rfl) ?_
        repeat (go_big_quiet_step (fail))
        refine wpQuiet_nil ?_
        rintro w' ⟨d, rfl⟩
        go_wp2_with fail
        go_roundw
        case rel => exact ⟨k + 2, by omega, by go_num, BR.out d⟩
        case measure => simp [intOf]; omega
    · go_wp2_with fail
      go_returns
      exact ⟨rfl, HB.out⟩
end Go.Proofs.YtbeemfkndpandaaDoor
