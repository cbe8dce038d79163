/- What the document's counter says: that of a counter. Conditions: the numbers are of 64 bits. -/
import Derived.Test.YtomjhoaffbjkgaaCoulN
import Derived.Deep.DeepCutAuto
import Derived.Deep.RegionWith
namespace Go.Proofs.Ytomjhoaffbjkgaa
open Go.RowKit
set_option linter.unusedVariables false
def CF.at (c : CF) (a b : Int) : CK := ⟨100000, 500, c.err, a, b⟩
theorem five (w : World) (A B C D E : Obj) : let W := ((((w.alloc A).alloc B).alloc C).alloc D).alloc E
    W.heap[w.heap.size]? = some A ∧ W.heap[w.heap.size + 1]? = some B ∧ W.heap[w.heap.size + 1 + 1]? = some C ∧ W.heap[w.heap.size + 1 + 1 + 1]? = some D ∧ W.heap[w.heap.size + 1 + 1 + 1 + 1]? = some E ∧ Below w.heap.size w W := by
  have a := heap_alloc_new w A
  have b := heap_alloc_new (w.alloc A) B
  have c := heap_alloc_new ((w.alloc A).alloc B) C
  have d := heap_alloc_new (((w.alloc A).alloc B).alloc C) D
  have f := heap_alloc_new ((((w.alloc A).alloc B).alloc C).alloc D) E
  simp only [World.size_alloc] at b c d f
  have e : ∀ (u : World) (o : Obj) (k : Nat) (x : Obj), u.heap[k]? = some x → (u.alloc o).heap[k]? = some x := fun u o k x h => (((Below.refl u.heap.size u).alloc (Nat.le_refl _) o).block k (Array.getElem?_eq_some_iff.1 h).1).trans h
  refine ⟨e _ _ _ _ (e _ _ _ _ (e _ _ _ _ (e _ _ _ _ a))), e _ _ _ _ (e _ _ _ _ (e _ _ _ _ b)), e _ _ _ _ (e _ _ _ _ c), e _ _ _ _ d, f, ?_⟩
  exact (((((Below.refl _ w).alloc (Nat.le_refl _) _).alloc (by simp) _).alloc (by simp; omega) _).alloc (by simp; omega) _).alloc (by simp; omega) _
set_option maxHeartbeats 4000000 in
theorem countedC (c : CF) (he : 0 ≤ c.err ∧ c.err ≤ 4) (oc fe : Value) (a b v : Int) (f : Bool) (ha : I64 a) (hb : I64 b) (hv : I64 v) (w : World) :
    Calls Try.prog 37 #[.agg (cfgA c oc fe), .agg #[.int .i64 a, .int .i64 b], .agg #[.int .i64 v, .bool f]] w fun e w' => e = .returned (.agg #[.int .i64 ((c.at a b).step v f).lo, .int .i64 ((c.at a b).step v f).hi]) ∧ Below w.heap.size w w' := by
  have g5 : (cfgA c oc fe)[5]? = some (.int .i64 100000) := rfl
  have g7 : (cfgA c oc fe)[7]? = some (.int .i64 500) := rfl
  have g18 : (cfgA c oc fe)[18]? = some (.int .i64 c.err) := rfl
  obtain ⟨o1, o2, ho, hr⟩ : ∃ o1 o2, (I64 o1 ∧ I64 o2) ∧ ((c.at a b).out v f).1 = o1 ∧ ((c.at a b).out v f).2 = o2 := ⟨_, _, CK.out_ok _ _ _, rfl, rfl⟩
  have es : ((c.at a b).step v f).lo = clampI (sat (a - o2)) 0 100000 ∧ ((c.at a b).step v f).hi = clampI (sat (b - o1)) 0 100000 := by
    unfold CK.step
    rw [hr.1, hr.2]
    exact ⟨rfl, rfl⟩
  rw [es.1, es.2]
  have KS := Lib.hid fun (w : World) => refSubSpan a b o1 o2 ha hb ho.1 ho.2 w
  have KC := Lib.hid fun (w : World) => refClampSpan (sat (a - o2)) (sat (b - o1)) 0 100000 w
  have KW := Lib.hid fun (w : World) => refWiden v v c.err hv hv (by unfold I64; omega) w
  clear es
  generalize clampI (sat (a - o2)) 0 100000 = r1 at *
  generalize clampI (sat (b - o1)) 0 100000 = r2 at *
  have HR := Lib.hid hr
  clear hr
  cases f
  · have e1 : o1 = -500 ∧ o2 = 500 := by
      obtain ⟨h1, h2⟩ := HR.out
      exact ⟨h1.symm.trans rfl, h2.symm.trans rfl⟩
    obtain ⟨rfl, rfl⟩ := e1
    rw [show b - (-500) = b + 500 by omega] at KS KC
    go_enter Try.func37, Try.ntmps37
    go_wp2_with fail
    generalize hW : World.alloc (World.alloc (World.alloc (World.alloc (World.alloc w _) _) _) _) _ = W
    obtain ⟨hc0, hb0, hr0, hN, hw0⟩ : W.heap[w.heap.size]? = some (.cells (cfgA c oc fe) 34 (0, 0)) ∧ W.heap[w.heap.size + 1]? = some (.cells #[.int .i64 a, .int .i64 b] 23 (0, 0)) ∧ W.heap[w.heap.size + 1 + 1 + 1]? = some (.cells #[.int .i64 0, .int .i64 0] 23 (0, 0)) ∧ W.heap[w.heap.size + 1 + 1 + 1 + 1]? = some (.cells #[.int .i64 (-500), .int .i64 500] 23 (0, 0)) ∧ Below w.heap.size w W := by
      rw [← hW]
      have h := five w (.cells (cfgA c oc fe) 34) (.cells #[.int .i64 a, .int .i64 b] 23) (.cells #[.int .i64 v, .bool false] 50) (.cells #[.int .i64 0, .int .i64 0] 23) (.cells #[.int .i64 (-500), .int .i64 500] 23)
      exact ⟨h.1, h.2.1, h.2.2.2.1, h.2.2.2.2.1, h.2.2.2.2.2⟩
    clear hW
    have HN := Lib.hid hN
    have HC0 := Lib.hid hc0
    have HB0 := Lib.hid hb0
    have HR0 := Lib.hid hr0
    have HW := Lib.hid hw0
    have l0 : W.drew.cell? ⟨w.heap.size + 1, 0, none⟩ = some (.int .i64 a) := cell_of_row W _ 0 _ _ _ hb0
    have l1 : W.drew.cell? ⟨w.heap.size + 1, 1, none⟩ = some (.int .i64 b) := cell_of_row W _ 1 _ _ _ hb0
    have l2 : W.drew.cell? ⟨w.heap.size + 1 + 1 + 1 + 1, 0, none⟩ = some (.int .i64 (-500)) := cell_of_row W _ 0 _ _ _ hN
    have l3 : W.drew.cell? ⟨w.heap.size + 1 + 1 + 1 + 1, 1, none⟩ = some (.int .i64 (500)) := cell_of_row W _ 1 _ _ _ hN
    have l5 : W.drew.cell? ⟨w.heap.size, 5, none⟩ = some (.int .i64 100000) := cell_of_row W _ 5 _ _ _ hc0
    clear hN hc0 hb0 hr0 hw0
    go_region_with (first
      | (go_at_call 47; (with_reducible refine (KS.out _).mono ?_); rintro e w5 ⟨rfl, hb5⟩; have l5 := below_cell hb5 l5; dsimp only)
      | (go_at_call 34; (with_reducible refine (KC.out _).mono ?_); rintro e w6 ⟨rfl, hb6⟩; have h6 := row_below hb6 (row_below (w := W.drew) hb5 HR0.out); have y0 : w6.cell? ⟨w.heap.size + 1 + 1 + 1, 0, none⟩ = some (.int .i64 0) := cell_of_row w6 _ 0 _ _ _ h6; have y1 : w6.cell? ⟨w.heap.size + 1 + 1 + 1, 1, none⟩ = some (.int .i64 0) := cell_of_row w6 _ 1 _ _ _ h6; have yf : ∀ j, w6.frozen? ⟨w.heap.size + 1 + 1 + 1, j, none⟩ = false := fun j => (by simp [World.frozen?, h6]); have H6 := Lib.hid h6; have B6 := Lib.hid (HW.out.drew.trans ((hb5.trans (hb6.mono hb5.size)).mono HW.out.drew.size)); clear h6 hb6; dsimp only))
    all_goals
      go_wp2_with fail
      refine bodyPost_ret (v := .agg #[.int .i64 r1, .int .i64 r2]) (by simp [results, Try.results37, go_sem, y0, y1]) rfl ⟨rfl, ?_⟩
      exact (B6.out.setCell (p := ⟨w.heap.size + 1 + 1 + 1, 0, none⟩) (by simp; omega) _).setCell (p := ⟨w.heap.size + 1 + 1 + 1, 1, none⟩) (by simp; omega) _
  · have e1 : o1 = sat (v - max c.err 0) ∧ o2 = sat (v + max c.err 0) := by
      obtain ⟨h1, h2⟩ := HR.out
      exact ⟨h1.symm.trans rfl, h2.symm.trans rfl⟩
    obtain ⟨rfl, rfl⟩ := e1
    go_enter Try.func37, Try.ntmps37
    go_wp2_with fail
    refine (KW.out _).mono ?_
    rintro e w1 ⟨rfl, hb⟩
    obtain ⟨hc0, hb0, hs0, hr0, hN, hw0⟩ := five w (.cells (cfgA c oc fe) 34) (.cells #[.int .i64 a, .int .i64 b] 23) (.cells #[.int .i64 v, .bool true] 50) (.cells #[.int .i64 0, .int .i64 0] 23) (.cells #[.int .i64 (-500), .int .i64 500] 23)
    replace hc0 := row_below hb hc0
    replace hb0 := row_below hb hb0
    replace hr0 := row_below hb hr0
    replace hN := row_below hb hN
    replace hs0 := row_below hb hs0
    replace hw0 := hw0.trans (hb.mono hw0.size)
    have n0 : w1.cell? ⟨w.heap.size + 1 + 1 + 1 + 1, 0, none⟩ = some (.int .i64 (-500)) := cell_of_row w1 _ 0 _ _ _ hN
    have n1 : w1.cell? ⟨w.heap.size + 1 + 1 + 1 + 1, 1, none⟩ = some (.int .i64 500) := cell_of_row w1 _ 1 _ _ _ hN
    have nf : ∀ j, w1.frozen? ⟨w.heap.size + 1 + 1 + 1 + 1, j, none⟩ = false := fun j => by simp [World.frozen?, hN]
    clear hb
    go_wp2_with fail
    obtain ⟨W, hW, hc1, hb1, hr1, hN1, hw1⟩ : ∃ W, ((w1.setCell ⟨w.heap.size + 1 + 1 + 1 + 1, 0, none⟩ (.int .i64 (sat (v - max c.err 0)))).setCell ⟨w.heap.size + 1 + 1 + 1 + 1, 1, none⟩ (.int .i64 (sat (v + max c.err 0)))) = W ∧ W.heap[w.heap.size]? = some (.cells (cfgA c oc fe) 34 (0, 0)) ∧ W.heap[w.heap.size + 1]? = some (.cells #[.int .i64 a, .int .i64 b] 23 (0, 0)) ∧ W.heap[w.heap.size + 1 + 1 + 1]? = some (.cells #[.int .i64 0, .int .i64 0] 23 (0, 0)) ∧
        W.heap[w.heap.size + 1 + 1 + 1 + 1]? = some (.cells #[.int .i64 (sat (v - max c.err 0)), .int .i64 (sat (v + max c.err 0))] 23 (0, 0)) ∧ Below w.heap.size w W := by
      have o : ∀ k, k ≠ w.heap.size + 1 + 1 + 1 + 1 → ((w1.setCell ⟨w.heap.size + 1 + 1 + 1 + 1, 0, none⟩ (.int .i64 (sat (v - max c.err 0)))).setCell ⟨w.heap.size + 1 + 1 + 1 + 1, 1, none⟩ (.int .i64 (sat (v + max c.err 0)))).heap[k]? = w1.heap[k]? := fun k hk => (heap_setCell_other _ ⟨_, _, _⟩ _ _ hk).trans (heap_setCell_other _ ⟨_, _, _⟩ _ _ hk)
      refine ⟨_, rfl, (o _ (by omega)).trans hc0, (o _ (by omega)).trans hb0, (o _ (by omega)).trans hr0, ?_, (hw0.setCell (p := ⟨w.heap.size + 1 + 1 + 1 + 1, 0, none⟩) (by simp; omega) _).setCell (p := ⟨w.heap.size + 1 + 1 + 1 + 1, 1, none⟩) (by simp; omega) _⟩
      simp [World.setCell, Array.getElem?_modify, hN]
    rw [hW]
    clear hW hc0 hb0 hr0 hN hw0 hs0 n0 n1 nf
    have hc0 := hc1; have hb0 := hb1; have hr0 := hr1; have hN := hN1; have hw0 := hw1
    clear hc1 hb1 hr1 hN1 hw1
    have HN := Lib.hid hN
    have HC0 := Lib.hid hc0
    have HB0 := Lib.hid hb0
    have HR0 := Lib.hid hr0
    have HW := Lib.hid hw0
    have l0 : W.drew.cell? ⟨w.heap.size + 1, 0, none⟩ = some (.int .i64 a) := cell_of_row W _ 0 _ _ _ hb0
    have l1 : W.drew.cell? ⟨w.heap.size + 1, 1, none⟩ = some (.int .i64 b) := cell_of_row W _ 1 _ _ _ hb0
    have l2 : W.drew.cell? ⟨w.heap.size + 1 + 1 + 1 + 1, 0, none⟩ = some (.int .i64 (sat (v - max c.err 0))) := cell_of_row W _ 0 _ _ _ hN
    have l3 : W.drew.cell? ⟨w.heap.size + 1 + 1 + 1 + 1, 1, none⟩ = some (.int .i64 (sat (v + max c.err 0))) := cell_of_row W _ 1 _ _ _ hN
    have l5 : W.drew.cell? ⟨w.heap.size, 5, none⟩ = some (.int .i64 100000) := cell_of_row W _ 5 _ _ _ hc0
    clear hN hc0 hb0 hr0 hw0
    go_region_with (first
      | (go_at_call 47; (with_reducible refine (KS.out _).mono ?_); rintro e w5 ⟨rfl, hb5⟩; have l5 := below_cell hb5 l5; dsimp only)
      | (go_at_call 34; (with_reducible refine (KC.out _).mono ?_); rintro e w6 ⟨rfl, hb6⟩; have h6 := row_below hb6 (row_below (w := W.drew) hb5 HR0.out); have y0 : w6.cell? ⟨w.heap.size + 1 + 1 + 1, 0, none⟩ = some (.int .i64 0) := cell_of_row w6 _ 0 _ _ _ h6; have y1 : w6.cell? ⟨w.heap.size + 1 + 1 + 1, 1, none⟩ = some (.int .i64 0) := cell_of_row w6 _ 1 _ _ _ h6; have yf : ∀ j, w6.frozen? ⟨w.heap.size + 1 + 1 + 1, j, none⟩ = false := fun j => (by simp [World.frozen?, h6]); have H6 := Lib.hid h6; have B6 := Lib.hid (HW.out.drew.trans ((hb5.trans (hb6.mono hb5.size)).mono HW.out.drew.size)); clear h6 hb6; dsimp only))
    all_goals
      go_wp2_with fail
      refine bodyPost_ret (v := .agg #[.int .i64 r1, .int .i64 r2]) (by simp [results, Try.results37, go_sem, y0, y1]) rfl ⟨rfl, ?_⟩
      exact (B6.out.setCell (p := ⟨w.heap.size + 1 + 1 + 1, 0, none⟩) (by simp; omega) _).setCell (p := ⟨w.heap.size + 1 + 1 + 1, 1, none⟩) (by simp; omega) _
end Go.Proofs.Ytomjhoaffbjkgaa
