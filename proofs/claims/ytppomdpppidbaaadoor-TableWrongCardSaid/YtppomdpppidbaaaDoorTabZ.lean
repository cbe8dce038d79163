/- Where any points' line stands, where a height may be: of what is no table, nothing; the package and the document alike. Conditions: the seven errors lie apart. -/
import Derived.Test.YtppomdpppidbaaaDoorTabY
import Derived.Test.YtppomdpppidbaaaDoorBox3
namespace Go.Proofs.YtppomdpppidbaaaDoor
open Go.RowKit
set_option linter.unusedVariables false
def PtsO (w : World) (a : Option Addr) (n : Nat) (x y : Nat → Int) : Prop :=
  ∀ i, i < n → ∃ p, a = some p ∧ w.cell? (p.add (i * 2)) = some (.int .i64 (x i)) ∧ w.cell? ⟨(p.add (i * 2)).block, (p.add (i * 2)).off + 1, none⟩ = some (.int .i64 (y i))
theorem PtsO.below {w w' : World} {a : Option Addr} {n : Nat} {x y : Nat → Int} (h : PtsO w a n x y) (hb : Below w.heap.size w w') : PtsO w' a n x y := fun i hi => by
  obtain ⟨p, hp, h1, h2⟩ := h i hi
  exact ⟨p, hp, below_cell hb h1, below_cell hb h2⟩
theorem PtsO.some {w : World} {a : Option Addr} {n : Nat} {x y : Nat → Int} (h : PtsO w a n x y) (hn : 0 < n) : ∃ p, a = some p ∧ Pts w p n x y := by
  obtain ⟨p, hp, -⟩ := h 0 hn
  refine ⟨p, hp, fun i hi => ?_⟩
  obtain ⟨q, hq, h1, h2⟩ := h i hi
  rw [hp] at hq
  cases hq
  exact ⟨h1, h2⟩
theorem PtsO.of {w : World} {p : Addr} {n : Nat} {x y : Nat → Int} (h : Pts w p n x y) : PtsO w (.some p) n x y := fun i hi => ⟨p, rfl, h i hi⟩
open Classical in
noncomputable def gLo (n : Nat) (x y : Nat → Int) (v : Int) : Int := if TabOk n x y then atLo n x y v else 0
open Classical in
noncomputable def gHi (n : Nat) (x y : Nat → Int) (v : Int) : Int := if TabOk n x y then atHi n x y v else 0
open Classical in
noncomputable def hLo (n : Nat) (x y : Nat → Int) (v : Int) : Int := if TabOk n x y then backLo n x y v else 0
open Classical in
noncomputable def hHi (n : Nat) (x y : Nat → Int) (v : Int) : Int := if TabOk n x y then backHi n x y v else 0
set_option maxHeartbeats 4000000 in
theorem tabAtG {E : Nat → Addr} (a : Option Addr) (n cap : Nat) (hn : n < 4611686018427387904) (x y : Nat → Int) (v : Int) (w : World) (he : Ers E w) (h : PtsO w a n x y) :
    Calls Tryd.prog 16 #[.slice a n cap, .int .i64 v] w fun e w' => e = .returned (.agg #[.int .i64 (gLo n x y v), .int .i64 (gHi n x y v)]) ∧ Below w.heap.size w w' := by
  by_cases T : TabOk n x y
  · obtain ⟨p, rfl, hp⟩ := h.some (by have := T.n2; omega)
    rw [gLo, gHi, if_pos T, if_pos T]
    exact tabAtC p n cap x y v T w hp
  · rw [gLo, gHi, if_neg T, if_neg T]
    have HE := Lib.hid he
    have HP := Lib.hid h
    clear he h
    go_enter Tryd.func16, Tryd.ntmps16
    go_wp2_with fail
    have B0 := Lib.hid (Bx.new w #[.int .i64 0, .int .i64 0] 27)
    generalize World.alloc w _ = W0 at *
    refine (checkG a n cap hn x y _ (HE.out.below B0.out.lo) (HP.out.below B0.out.lo)).mono ?_
    rintro e w1 ⟨u, c, p, k, rfl, hu, hv, hb1⟩
    have B1 := Lib.hid (B0.out.below hb1)
    clear hb1 B0
    have x0 := B1.out.cell 0 rfl
    have x1 := B1.out.cell 1 rfl
    have xf := B1.out.froz
    cases hu with
    | fine => exact absurd hv.ok T
    | bare k hk =>
      clear hv
      go_wp2_with fail
      have B6 := Lib.hid ((B1.out.set 0 (.int .i64 0)).set 1 (.int .i64 0))
      clear x0 x1 xf
      generalize World.setCell _ _ _ = W3 at *
      have q0 : W3.cell? ⟨w.heap.size, 0, none⟩ = some (.int .i64 0) := B6.out.cell 0 rfl
      have q1 : W3.cell? ⟨w.heap.size, 1, none⟩ = some (.int .i64 0) := B6.out.cell 1 rfl
      refine bodyPost_ret (v := .agg #[.int .i64 0, .int .i64 0]) (by simp [results, Tryd.results16, go_sem, q0, q1]) rfl ⟨rfl, B6.out.lo⟩
    | placed k hk B m hr =>
      clear hv hr
      go_wp2_with fail
      have B6 := Lib.hid ((B1.out.set 0 (.int .i64 0)).set 1 (.int .i64 0))
      clear x0 x1 xf
      generalize World.setCell _ _ _ = W3 at *
      have q0 : W3.cell? ⟨w.heap.size, 0, none⟩ = some (.int .i64 0) := B6.out.cell 0 rfl
      have q1 : W3.cell? ⟨w.heap.size, 1, none⟩ = some (.int .i64 0) := B6.out.cell 1 rfl
      refine bodyPost_ret (v := .agg #[.int .i64 0, .int .i64 0]) (by simp [results, Tryd.results16, go_sem, q0, q1]) rfl ⟨rfl, B6.out.lo⟩
set_option maxHeartbeats 4000000 in
theorem backG {E : Nat → Addr} (a : Option Addr) (n cap : Nat) (hn : n < 4611686018427387904) (x y : Nat → Int) (v : Int) (w : World) (he : Ers E w) (h : PtsO w a n x y) :
    Calls Tryd.prog 9 #[.slice a n cap, .int .i64 v] w fun e w' => e = .returned (.agg #[.int .i64 (hLo n x y v), .int .i64 (hHi n x y v)]) ∧ Below w.heap.size w w' := by
  by_cases T : TabOk n x y
  · obtain ⟨p, rfl, hp⟩ := h.some (by have := T.n2; omega)
    rw [hLo, hHi, if_pos T, if_pos T]
    exact backC p n cap x y v T w hp
  · rw [hLo, hHi, if_neg T, if_neg T]
    have HE := Lib.hid he
    have HP := Lib.hid h
    clear he h
    go_enter Tryd.func9, Tryd.ntmps9
    go_wp2_with fail
    have B0 := Lib.hid (Bx3.new w #[.slice a n cap] 25 #[.int .i64 v] 2 #[.int .i64 0, .int .i64 0] 27)
    generalize World.alloc (World.alloc (World.alloc w _) _) _ = W0 at *
    refine (checkG a n cap hn x y _ (HE.out.below B0.out.lo) (HP.out.below B0.out.lo)).mono ?_
    rintro e w1 ⟨u, c, p, k, rfl, hu, hv, hb1⟩
    have B1 := Lib.hid (B0.out.below hb1)
    clear hb1 B0
    have t0 : w1.cell? ⟨w.heap.size, 0, none⟩ = some (.slice a n cap) := B1.out.c0 0 rfl
    have x0 : w1.cell? ⟨w.heap.size + 1 + 1, 0, none⟩ = some (.int .i64 0) := B1.out.c2 0 rfl
    have x1 : w1.cell? ⟨w.heap.size + 1 + 1, 1, none⟩ = some (.int .i64 0) := B1.out.c2 1 rfl
    have xf := B1.out.froz
    cases hu with
    | fine => exact absurd hv.ok T
    | bare k hk =>
      clear hv
      go_wp2_with fail
      have B6 := Lib.hid ((B1.out.set 0 (.int .i64 0)).set 1 (.int .i64 0))
      clear x0 x1 xf t0
      generalize World.setCell _ _ _ = W3 at *
      have q0 : W3.cell? ⟨w.heap.size + 1 + 1, 0, none⟩ = some (.int .i64 0) := B6.out.c2 0 rfl
      have q1 : W3.cell? ⟨w.heap.size + 1 + 1, 1, none⟩ = some (.int .i64 0) := B6.out.c2 1 rfl
      refine bodyPost_ret (v := .agg #[.int .i64 0, .int .i64 0]) (by simp [results, Tryd.results9, go_sem, q0, q1]) rfl ⟨rfl, B6.out.lo⟩
    | placed k hk B m hr =>
      clear hv hr
      go_wp2_with fail
      have B6 := Lib.hid ((B1.out.set 0 (.int .i64 0)).set 1 (.int .i64 0))
      clear x0 x1 xf t0
      generalize World.setCell _ _ _ = W3 at *
      have q0 : W3.cell? ⟨w.heap.size + 1 + 1, 0, none⟩ = some (.int .i64 0) := B6.out.c2 0 rfl
      have q1 : W3.cell? ⟨w.heap.size + 1 + 1, 1, none⟩ = some (.int .i64 0) := B6.out.c2 1 rfl
      refine bodyPost_ret (v := .agg #[.int .i64 0, .int .i64 0]) (by simp [results, Tryd.results9, go_sem, q0, q1]) rfl ⟨rfl, B6.out.lo⟩
set_option maxHeartbeats 4000000 in
theorem refAtG {E : Nat → Addr} (a : Option Addr) (n cap : Nat) (hn : n < 4611686018427387904) (x y : Nat → Int) (v : Int) (w : World) (he : Ers E w) (h : PtsO w a n x y) :
    Calls Tryd.prog 17 #[.slice a n cap, .int .i64 v] w fun e w' => e = .returned (.agg #[.int .i64 (gLo n x y v), .int .i64 (gHi n x y v)]) ∧ Below w.heap.size w w' := by
  by_cases T : TabOk n x y
  · obtain ⟨p, rfl, hp⟩ := h.some (by have := T.n2; omega)
    rw [gLo, gHi, if_pos T, if_pos T]
    exact refAtC p n cap x y v T w hp
  · rw [gLo, gHi, if_neg T, if_neg T]
    have HE := Lib.hid he
    have HP := Lib.hid h
    clear he h
    go_enter Tryd.func17, Tryd.ntmps17
    go_wp2_with fail
    have B0 := Lib.hid (Bx.new w #[.int .i64 0, .int .i64 0] 27)
    generalize World.alloc w _ = W0 at *
    refine (refCheckG a n cap hn x y _ (HP.out.below B0.out.lo)).mono ?_
    rintro e w1 ⟨c, p, k, rfl, hv, hb1⟩
    have B1 := Lib.hid (B0.out.below hb1)
    clear hb1 B0
    have x0 := B1.out.cell 0 rfl
    have x1 := B1.out.cell 1 rfl
    have xf := B1.out.froz
    have ff := fault_f0 c p k
    have e0 : (c == 0) = false := by
      rw [beq_eq_false_iff_ne]
      rintro rfl
      exact T hv.ok
    clear hv
    go_wp2_with fail
    have B6 := Lib.hid ((B1.out.set 0 (.int .i64 0)).set 1 (.int .i64 0))
    clear x0 x1 xf
    generalize World.setCell _ _ _ = W3 at *
    have q0 : W3.cell? ⟨w.heap.size, 0, none⟩ = some (.int .i64 0) := B6.out.cell 0 rfl
    have q1 : W3.cell? ⟨w.heap.size, 1, none⟩ = some (.int .i64 0) := B6.out.cell 1 rfl
    refine bodyPost_ret (v := .agg #[.int .i64 0, .int .i64 0]) (by simp [results, Tryd.results17, go_sem, q0, q1]) rfl ⟨rfl, B6.out.lo⟩
set_option maxHeartbeats 4000000 in
theorem refBackG {E : Nat → Addr} (a : Option Addr) (n cap : Nat) (hn : n < 4611686018427387904) (x y : Nat → Int) (v : Int) (w : World) (he : Ers E w) (h : PtsO w a n x y) :
    Calls Tryd.prog 18 #[.slice a n cap, .int .i64 v] w fun e w' => e = .returned (.agg #[.int .i64 (hLo n x y v), .int .i64 (hHi n x y v)]) ∧ Below w.heap.size w w' := by
  by_cases T : TabOk n x y
  · obtain ⟨p, rfl, hp⟩ := h.some (by have := T.n2; omega)
    rw [hLo, hHi, if_pos T, if_pos T]
    exact refBackC p n cap x y v T w hp
  · rw [hLo, hHi, if_neg T, if_neg T]
    have HE := Lib.hid he
    have HP := Lib.hid h
    clear he h
    go_enter Tryd.func18, Tryd.ntmps18
    go_wp2_with fail
    have B0 := Lib.hid (Bx.new w #[.int .i64 0, .int .i64 0] 27)
    generalize World.alloc w _ = W0 at *
    refine (refCheckG a n cap hn x y _ (HP.out.below B0.out.lo)).mono ?_
    rintro e w1 ⟨c, p, k, rfl, hv, hb1⟩
    have B1 := Lib.hid (B0.out.below hb1)
    clear hb1 B0
    have x0 := B1.out.cell 0 rfl
    have x1 := B1.out.cell 1 rfl
    have xf := B1.out.froz
    have ff := fault_f0 c p k
    have e0 : (c == 0) = false := by
      rw [beq_eq_false_iff_ne]
      rintro rfl
      exact T hv.ok
    clear hv
    go_wp2_with fail
    have B6 := Lib.hid ((B1.out.set 0 (.int .i64 0)).set 1 (.int .i64 0))
    clear x0 x1 xf
    generalize World.setCell _ _ _ = W3 at *
    have q0 : W3.cell? ⟨w.heap.size, 0, none⟩ = some (.int .i64 0) := B6.out.cell 0 rfl
    have q1 : W3.cell? ⟨w.heap.size, 1, none⟩ = some (.int .i64 0) := B6.out.cell 1 rfl
    refine bodyPost_ret (v := .agg #[.int .i64 0, .int .i64 0]) (by simp [results, Tryd.results18, go_sem, q0, q1]) rfl ⟨rfl, B6.out.lo⟩
end Go.Proofs.YtppomdpppidbaaaDoor
