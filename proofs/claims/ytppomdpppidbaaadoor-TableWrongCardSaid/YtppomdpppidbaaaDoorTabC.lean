/- Between which places a right table's line stands at a height. Conditions: the table is right. -/
import Derived.Test.YtppomdpppidbaaaDoorTabK
import Derived.Test.YtppomdpppidbaaaDoorTabW
import Derived.Test.YtppomdpppidbaaaDoorSpanC
namespace Go.Proofs.YtppomdpppidbaaaDoor
open Go.RowKit
set_option linter.unusedVariables false
theorem spanOf' (a b p q : Int) (hp : min a b = p) (hq : max a b = q) (w : World) :
    Calls Tryd.prog 25 #[.int .i64 a, .int .i64 b] w fun e w' => e = .returned (.agg #[.int .i64 p, .int .i64 q]) ∧ Below w.heap.size w w' := by
  subst hp hq
  exact spanOf a b w
theorem reach_is {m : Nat} {x y : Nat → Int} {v r : Int} (h0 : x 0 ≤ x m) (h1 : x 0 ≤ r) (h2 : r ≤ x m + 1) (h3 : ∀ k, x 0 ≤ k → k < r → decide (v ≤ atHi (m + 1) x y k) = false) (h4 : ∀ k, r ≤ k → k ≤ x m → decide (v ≤ atHi (m + 1) x y k) = true) : r = reachI (m + 1) x y v :=
  (first_eq (so := fun c => decide (v ≤ atHi (m + 1) x y c)) (k := (x m + 1 - x 0).toNat) h1 (by omega) h3 (fun h => h4 r (Int.le_refl _) (by omega))).symm
theorem pass_is {m : Nat} {x y : Nat → Int} {v r : Int} (h0 : x 0 ≤ x m) (h1 : x 0 ≤ r) (h2 : r ≤ x m + 1) (h3 : ∀ k, x 0 ≤ k → k < r → decide (v < atLo (m + 1) x y k) = false) (h4 : ∀ k, r ≤ k → k ≤ x m → decide (v < atLo (m + 1) x y k) = true) : r = passI (m + 1) x y v :=
  (first_eq (so := fun c => decide (v < atLo (m + 1) x y c)) (k := (x m + 1 - x 0).toNat) h1 (by omega) h3 (fun h => h4 r (Int.le_refl _) (by omega))).symm
set_option maxHeartbeats 4000000 in
set_option maxRecDepth 20000 in
theorem backC (a : Addr) (n cap : Nat) (x y : Nat → Int) (v : Int) (T : TabOk n x y) (w : World) (h : Pts w a n x y) :
    Calls Tryd.prog 9 #[.slice (some a) n cap, .int .i64 v] w fun e w' => e = .returned (.agg #[.int .i64 (backLo n x y v), .int .i64 (backHi n x y v)]) ∧ Below w.heap.size w w' := by
  have H := Lib.hid h
  have T1 := Lib.hid T
  have n2 := T.n2
  have n3 := T.n3
  clear h T
  go_enter Tryd.func9, Tryd.ntmps9
  go_wp2_with fail
  have B0 := Lib.hid (TB.new w a n cap v)
  generalize World.alloc (World.alloc (World.alloc w _) _) _ = W0 at *
  refine (checkC a n cap x y T1.out _ (H.out.below B0.out.lo)).mono ?_
  rintro e w1 ⟨rfl, hb⟩
  have B1 := Lib.hid (B0.out.below hb)
  have P1 := Lib.hid ((H.out.below B0.out.lo).below hb)
  clear hb B0
  have t0 : w1.cell? ⟨w.heap.size, 0, none⟩ = some (.slice (some a) n cap) := cell_of_row _ _ 0 _ _ _ B1.out.t
  have v0 : w1.cell? ⟨w.heap.size + 1, 0, none⟩ = some (.int .i64 v) := cell_of_row _ _ 0 _ _ _ B1.out.y
  obtain ⟨m, rfl⟩ : ∃ m, n = m + 1 := ⟨n - 1, by omega⟩
  obtain ⟨c0, c1⟩ := P1.out 0 (by omega)
  obtain ⟨l0, l1⟩ := P1.out m (by omega)
  rw [Nat.zero_mul, add_0] at c0 c1
  go_upto_region 3 with fail
  have i12 : IntKind.i64.wrap ((m : Int) + 1 - 1) = (m : Int) := by rw [show (m : Int) + 1 - 1 = m by omega]; exact IntWalk.i64_in _ (by omega)
  have rt := fun d => below_cell (reach_below w1.heap.size w1 d) t0
  have rv := fun d => below_cell (reach_below w1.heap.size w1 d) v0
  have r0 := fun d => below_cell (reach_below w1.heap.size w1 d) c0
  have r1 := fun d => below_cell (reach_below w1.heap.size w1 d) l0
  refine wp_region_reach w1.heap.size (by kernel_rfl) (by kernel_rfl) ?_
  repeat (go_big_quiet_step (fail))
  refine wpQuiet_nil ?_
  rintro w' ⟨d, rfl⟩
  have B2 := Lib.hid (B1.out.below (reach_below w1.heap.size w1 d))
  have P2 := Lib.hid (P1.out.below (reach_below w1.heap.size w1 d))
  clear rt rv r0 r1 t0 v0 c0 c1 l0 l1 B1 P1
  generalize reach w1.heap.size w1 d = w2 at *
  have t0 : w2.cell? ⟨w.heap.size, 0, none⟩ = some (.slice (some a) (m + 1) cap) := cell_of_row _ _ 0 _ _ _ B2.out.t
  have v0 : w2.cell? ⟨w.heap.size + 1, 0, none⟩ = some (.int .i64 v) := cell_of_row _ _ 0 _ _ _ B2.out.y
  go_wp2_with fail
  have b0 := T1.out.bx 0 (by omega)
  have bm := T1.out.bx m (by omega)
  have x0m := (T1.out.mono (Nat.zero_le m) (by omega)).1
  refine (firstC1 (x 0) (x m) ⟨w.heap.size, 0, none⟩ ⟨w.heap.size + 1, 0, none⟩ (fun c => decide (v ≤ atHi (m + 1) x y c)) w2 (by omega) (by omega) (by omega) (fun c d _ h _ hs => by
    have := (at_mono T1.out h).2
    have := of_decide_eq_true hs
    exact decide_eq_true (by omega)) (fun mid _ _ wx hbx => closC1 a (m + 1) cap x y v mid T1.out w wx (B2.out.below hbx) (P2.out.below hbx))).mono ?_
  rintro e w3 ⟨r1, rfl, q1, q2, q3, q4, hb3⟩
  have E1 := reach_is x0m q1 q2 q3 q4
  subst E1
  have B3 := Lib.hid (B2.out.below hb3)
  have P3 := Lib.hid (P2.out.below hb3)
  clear q1 q2 q3 q4 hb3 B2 P2 t0 v0
  go_wp2_with fail
  refine (firstC2 (x 0) (x m) ⟨w.heap.size, 0, none⟩ ⟨w.heap.size + 1, 0, none⟩ (fun c => decide (v < atLo (m + 1) x y c)) w3 (by omega) (by omega) (by omega) (fun c d _ h _ hs => by
    have := (at_mono T1.out h).1
    have := of_decide_eq_true hs
    exact decide_eq_true (by omega)) (fun mid _ _ wx hbx => closC2 a (m + 1) cap x y v mid T1.out w wx (B3.out.below hbx) (P3.out.below hbx))).mono ?_
  rintro e w4 ⟨r2, rfl, q1, q2, q3, q4, hb4⟩
  have E2 := pass_is x0m q1 q2 q3 q4
  subst E2
  have B4 := Lib.hid (B3.out.below hb4)
  clear q1 q2 q3 q4 hb4 B3 P3
  obtain ⟨g1, g2, g3, g4⟩ := reach_pass T1.out v
  have EL := Lib.hid (show backLo (m + 1) x y v = min (min (reachI (m + 1) x y v) (x m)) (max (passI (m + 1) x y v - 1) (x 0)) from rfl)
  have EH := Lib.hid (show backHi (m + 1) x y v = max (min (reachI (m + 1) x y v) (x m)) (max (passI (m + 1) x y v - 1) (x 0)) from rfl)
  generalize reachI (m + 1) x y v = r1 at *
  generalize passI (m + 1) x y v = r2 at *
  have w1 : IntKind.i64.wrap (r2 - 1) = r2 - 1 := IntWalk.i64_in _ (by omega)
  go_wp2_with fail
  all_goals
    obtain ⟨bl, hbl⟩ : ∃ p, backLo (m + 1) x y v = p := ⟨_, rfl⟩
    obtain ⟨bh, hbh⟩ : ∃ p, backHi (m + 1) x y v = p := ⟨_, rfl⟩
    refine (spanOf' _ _ bl bh (by rw [← hbl, EL.out]; omega) (by rw [← hbh, EH.out]; omega) _).mono ?_
    rintro e w5 ⟨rfl, hb5⟩
    have B5 := Lib.hid (B4.out.below hb5)
    have QL := Lib.hid hbl
    have QH := Lib.hid hbh
    clear hb5 EL EH hbl hbh
    have hr2 := B5.out.r
    have x0 := cell_of_row _ _ 0 _ _ _ hr2
    have x1 := cell_of_row _ _ 1 _ _ _ hr2
    have xf : ∀ j, w5.frozen? ⟨w.heap.size + 1 + 1, j, none⟩ = false := fun j => by simp [World.frozen?, hr2]
    have HR2 := Lib.hid hr2
    clear hr2
    go_wp2_with fail
    have hr3 : ((w5.setCell ⟨w.heap.size + 1 + 1, 0, none⟩ (.int .i64 bl)).setCell ⟨w.heap.size + 1 + 1, 1, none⟩ (.int .i64 bh)).heap[w.heap.size + 1 + 1]? = some (.cells #[.int .i64 bl, .int .i64 bh] 27 (0, 0)) := by
      simp [World.setCell, Array.getElem?_modify, HR2.out]
    have HB3 := Lib.hid ((B5.out.lo.setCell (by simp; omega) (p := ⟨w.heap.size + 1 + 1, 0, none⟩) (.int .i64 bl)).setCell (by simp; omega) (p := ⟨w.heap.size + 1 + 1, 1, none⟩) (.int .i64 bh))
    clear x0 x1 xf B5 HR2
    generalize World.setCell _ _ _ = W3 at *
    have q0 : W3.cell? ⟨w.heap.size + 1 + 1, 0, none⟩ = some (.int .i64 bl) := cell_of_row _ _ 0 _ _ _ hr3
    have q1 : W3.cell? ⟨w.heap.size + 1 + 1, 1, none⟩ = some (.int .i64 bh) := cell_of_row _ _ 1 _ _ _ hr3
    refine bodyPost_ret (v := .agg #[.int .i64 bl, .int .i64 bh]) (by simp [results, Tryd.results9, go_sem, q0, q1]) rfl ⟨by rw [QL.out, QH.out], HB3.out⟩
end Go.Proofs.YtppomdpppidbaaaDoor
