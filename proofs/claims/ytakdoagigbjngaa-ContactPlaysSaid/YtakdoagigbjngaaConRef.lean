/- What the document's contactor does, by a plain definition; its block alone changes. Conditions: its counts are small. -/
import Derived.Test.YtakdoagigbjngaaConQ
import Derived.Test.YtakdoagigbjngaaTail
import Derived.BigQuiet
import Derived.Deep.DeepCutAuto
import Derived.Deep.CutBlock
import Derived.Test.YtakdoagigbjngaaBase
namespace Go.Proofs.Ytakdoagigbjngaa
open Go.RowKit
set_option linter.unusedVariables false
structure RK where
  D : Int
  L : Int
  c : Bool
  s : Int
  g : Int
  n : Bool
  f : Bool
  r : Bool
  p : Bool
  q : Bool
def RK.arr (k : RK) : Array Value := #[.int .i64 k.D, .int .i64 k.L, .bool k.c, .int .i64 k.s, .int .i64 k.g, .bool k.n, .bool k.f, .bool k.r, .bool k.p, .bool k.q]
def Rt (w : World) (B : Nat) (k : RK) : Prop := w.heap[B]? = some (.cells k.arr 46 (0, 0))
theorem row_set {w : World} {B : Nat} {A : Array Value} {t : TypeId} (h : w.heap[B]? = some (.cells A t (0, 0))) (k : Nat) (x : Value) : (w.setCell ⟨B, k, none⟩ x).heap[B]? = some (.cells (A.setIfInBounds k x) t (0, 0)) := by
  simp [World.setCell, Array.getElem?_modify, h]
theorem Rt.lt {w : World} {B : Nat} {k : RK} (h : Rt w B k) : B < w.heap.size := (Array.getElem?_eq_some_iff.1 h).1
theorem Rt.cells {w : World} {B : Nat} {k : RK} (h : Rt w B k) :
    w.cell? ⟨B, 0, none⟩ = some (.int .i64 k.D) ∧ w.cell? ⟨B, 1, none⟩ = some (.int .i64 k.L) ∧ w.cell? ⟨B, 2, none⟩ = some (.bool k.c) ∧ w.cell? ⟨B, 3, none⟩ = some (.int .i64 k.s) ∧ w.cell? ⟨B, 4, none⟩ = some (.int .i64 k.g) ∧ w.cell? ⟨B, 5, none⟩ = some (.bool k.n) ∧ w.cell? ⟨B, 6, none⟩ = some (.bool k.f) ∧ w.cell? ⟨B, 7, none⟩ = some (.bool k.r) ∧ w.cell? ⟨B, 8, none⟩ = some (.bool k.p) ∧ w.cell? ⟨B, 9, none⟩ = some (.bool k.q) ∧ ∀ j, w.frozen? ⟨B, j, none⟩ = false :=
  ⟨cell_of_row _ _ 0 _ _ _ h, cell_of_row _ _ 1 _ _ _ h, cell_of_row _ _ 2 _ _ _ h, cell_of_row _ _ 3 _ _ _ h, cell_of_row _ _ 4 _ _ _ h, cell_of_row _ _ 5 _ _ _ h, cell_of_row _ _ 6 _ _ _ h, cell_of_row _ _ 7 _ _ _ h, cell_of_row _ _ 8 _ _ _ h, cell_of_row _ _ 9 _ _ _ h, fun j => by unfold Rt at h; simp [World.frozen?, h]⟩
theorem Rt.below {w w' : World} {B : Nat} {k : RK} (h : Rt w B k) (hb : Below w.heap.size w w') : Rt w' B k := (hb.block B h.lt).trans h
theorem Rt.only {w w' : World} {B C : Nat} {k : RK} (h : Rt w C k) (hb : Only B w w') (hn : C ≠ B) : Rt w' C k := hb.row h hn
def RK.tell (k : RK) (t : Bool) : RK := if t == k.c then { k with s := min (k.s + 1) 1000 } else { k with c := t, s := 0, g := 0 }
def RK.look (k : RK) (v : Int) (f : Bool) : RK := { k with n := true, f := f, r := v == 1 }
def RK.judge (k : RK) (t : Bool) : RK :=
  if k.f = false then k
  else if k.r == t || decide (k.s < k.D) then { k with g := 0 }
  else if k.L ≤ k.g + 1 then { k with g := k.g + 1, p := k.p || t, q := k.q || !t }
  else { k with g := k.g + 1 }
def RK.step (k : RK) (t : Bool) (v : Int) (f : Bool) : RK := ((k.tell t).look v f).judge t
def RK.cl (k : RK) : Bool := k.n && k.f && k.r
def RK.op (k : RK) : Bool := k.n && !k.c && decide (k.D ≤ k.s) && k.f && !k.r
theorem rClosed (B : Nat) (k : RK) (w : World) (h : Rt w B k) :
    Calls Try.prog 27 #[.pointer (some ⟨B, 0, none⟩)] w fun e w' => e = .returned (.bool k.cl) ∧ w = w' := by
  obtain ⟨c0, c1, c2, c3, c4, c5, c6, c7, c8, c9, cf⟩ := h.cells
  clear h
  unfold RK.cl
  obtain ⟨D, L, c, s, g, n, f, r, p, q⟩ := k
  simp only at *
  clear c0 c1 c2 c3 c4 c8 c9 cf
  cases n <;> cases f <;> cases r
  all_goals
    go_enter Try.func27, Try.ntmps27
    go_wp2_with fail
    go_ret
    exact ⟨rfl, rfl⟩
theorem rOpen (B : Nat) (k : RK) (w : World) (h : Rt w B k) :
    Calls Try.prog 25 #[.pointer (some ⟨B, 0, none⟩)] w fun e w' => e = .returned (.bool k.op) ∧ Below w.heap.size w w' := by
  have lt := h.lt
  obtain ⟨c0, c1, c2, c3, c4, c5, c6, c7, c8, c9, cf⟩ := h.cells
  clear h
  unfold RK.op
  obtain ⟨D, L, c, s, g, n, f, r, p, q⟩ := k
  simp only at *
  have y0 := fun d => reach_cell (B := w.heap.size) c0 lt d
  have y2 := fun d => reach_cell (B := w.heap.size) c2 lt d
  have y3 := fun d => reach_cell (B := w.heap.size) c3 lt d
  have y5 := fun d => reach_cell (B := w.heap.size) c5 lt d
  have y6 := fun d => reach_cell (B := w.heap.size) c6 lt d
  have y7 := fun d => reach_cell (B := w.heap.size) c7 lt d
  clear c0 c1 c2 c3 c4 c5 c6 c7 c8 c9 cf
  obtain ⟨x, hx⟩ : ∃ x, (n && !c && decide (D ≤ s) && f && !r) = x := ⟨_, rfl⟩
  rw [hx]
  have HX := Lib.hid hx
  clear hx
  cases n
  · go_enter Try.func25, Try.ntmps25
    go_upto_region 1 with fail
    refine wp_region_reach w.heap.size (by kernel_rfl) (by kernel_rfl) ?_
    repeat (go_big_quiet_step (fail))
    refine wpQuiet_nil ?_
    rintro w' ⟨d, rfl⟩
    clear y0 y2 y3 y5 y6 y7
    go_wp2_with fail
    go_ret
    exact ⟨ret_cb (by rw [← HX.out]; rfl), reach_below _ _ d⟩
  · cases c
    · by_cases hd : D ≤ s
      · cases f <;> cases r
        all_goals
          go_enter Try.func25, Try.ntmps25
          go_upto_region 1 with fail
          refine wp_region_reach w.heap.size (by kernel_rfl) (by kernel_rfl) ?_
          repeat (go_big_quiet_step (fail))
          refine wpQuiet_nil ?_
          rintro w' ⟨d, rfl⟩
          clear y0 y2 y3 y5 y6 y7
          go_wp2_with fail
          go_ret
          exact ⟨ret_cb (by rw [← HX.out]; simp [hd]), reach_below _ _ d⟩
      · have hd' : decide (D ≤ s) = false := decide_eq_false hd
        go_enter Try.func25, Try.ntmps25
        go_upto_region 1 with fail
        refine wp_region_reach w.heap.size (by kernel_rfl) (by kernel_rfl) ?_
        repeat (go_big_quiet_step (fail))
        refine wpQuiet_nil ?_
        rintro w' ⟨d, rfl⟩
        clear y0 y2 y3 y5 y6 y7
        go_wp2_with fail
        go_ret
        exact ⟨ret_cb (by rw [← HX.out, hd']; simp), reach_below _ _ d⟩
    · go_enter Try.func25, Try.ntmps25
      go_upto_region 1 with fail
      refine wp_region_reach w.heap.size (by kernel_rfl) (by kernel_rfl) ?_
      repeat (go_big_quiet_step (fail))
      refine wpQuiet_nil ?_
      rintro w' ⟨d, rfl⟩
      clear y0 y2 y3 y5 y6 y7
      go_wp2_with fail
      go_ret
      exact ⟨ret_cb (by rw [← HX.out]; rfl), reach_below _ _ d⟩
theorem rNew (d b : Int) (w : World) :
    Calls Try.prog 18 #[.int .i64 d, .int .i64 b] w fun e w' => e = .returned (.pointer (some ⟨w.heap.size, 0, none⟩)) ∧ Rt w' w.heap.size ⟨cutc d, cutc b, false, -2, 0, false, false, false, false, false⟩ ∧ Below w.heap.size w w' := by
  go_enter Try.func18, Try.ntmps18
  go_wp2
  all_goals
    go_ret
    refine ⟨rfl, ?_, (Below.refl _ _).alloc (Nat.le_refl _) _⟩
    unfold cutc
    first
      | (rw [show max (min d 1000) 1 = d by omega, show max (min b 1000) 1 = b by omega]; exact heap_alloc_new _ _)
      | (rw [show max (min d 1000) 1 = d by omega, show max (min b 1000) 1 = 1 by omega]; exact heap_alloc_new _ _)
      | (rw [show max (min d 1000) 1 = d by omega, show max (min b 1000) 1 = 1000 by omega]; exact heap_alloc_new _ _)
      | (rw [show max (min d 1000) 1 = 1 by omega, show max (min b 1000) 1 = b by omega]; exact heap_alloc_new _ _)
      | (rw [show max (min d 1000) 1 = 1 by omega, show max (min b 1000) 1 = 1 by omega]; exact heap_alloc_new _ _)
      | (rw [show max (min d 1000) 1 = 1 by omega, show max (min b 1000) 1 = 1000 by omega]; exact heap_alloc_new _ _)
      | (rw [show max (min d 1000) 1 = 1000 by omega, show max (min b 1000) 1 = b by omega]; exact heap_alloc_new _ _)
      | (rw [show max (min d 1000) 1 = 1000 by omega, show max (min b 1000) 1 = 1 by omega]; exact heap_alloc_new _ _)
      | (rw [show max (min d 1000) 1 = 1000 by omega, show max (min b 1000) 1 = 1000 by omega]; exact heap_alloc_new _ _)
end Go.Proofs.Ytakdoagigbjngaa
