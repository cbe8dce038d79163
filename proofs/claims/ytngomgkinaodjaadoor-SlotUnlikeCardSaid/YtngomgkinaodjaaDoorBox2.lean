/- Two boxes that a call made first, and all that was there before it. Conditions: none. -/
import Derived.Test.YtngomgkinaodjaaDoorBox
namespace Go.Proofs.YtngomgkinaodjaaDoor
open Go.RowKit
set_option linter.unusedVariables false
structure Bx2 (w wr : World) (A : Array Value) (t : TypeId) (cs : Array Value) (u : TypeId) : Prop where
  row1 : wr.heap[w.heap.size]? = some (.cells A t (0, 0))
  row2 : wr.heap[w.heap.size + 1]? = some (.cells cs u (0, 0))
  lo : Below w.heap.size w wr
theorem Bx2.new (w : World) (A : Array Value) (t : TypeId) (cs : Array Value) (u : TypeId) : Bx2 w ((w.alloc (.cells A t)).alloc (.cells cs u)) A t cs u := by
  refine ⟨?_, ?_, ((Below.refl _ _).alloc (Nat.le_refl _) _).alloc (by simp) _⟩
  · exact (((Below.refl _ (w.alloc (.cells A t))).alloc (Nat.le_refl _) (.cells cs u)).block w.heap.size (by simp)).trans (heap_alloc_new _ _)
  · have := heap_alloc_new (w.alloc (.cells A t)) (.cells cs u)
    rwa [World.size_alloc] at this
theorem Bx2.below {w wr w' : World} {A cs : Array Value} {t u : TypeId} (h : Bx2 w wr A t cs u) (hb : Below wr.heap.size wr w') : Bx2 w w' A t cs u :=
  ⟨(hb.block _ (Array.getElem?_eq_some_iff.1 h.row1).1).trans h.row1, (hb.block _ (Array.getElem?_eq_some_iff.1 h.row2).1).trans h.row2, h.lo.trans (hb.mono h.lo.size)⟩
theorem Bx2.reach {w wr : World} {A cs : Array Value} {t u : TypeId} (h : Bx2 w wr A t cs u) (d : World) : Bx2 w (reach wr.heap.size wr d) A t cs u :=
  h.below (reach_below _ _ _)
theorem Bx2.froz1 {w wr : World} {A cs : Array Value} {t u : TypeId} (h : Bx2 w wr A t cs u) (j : Nat) : wr.frozen? ⟨w.heap.size, j, none⟩ = false := by
  have := h.row1
  simp [World.frozen?, this]
theorem Bx2.froz2 {w wr : World} {A cs : Array Value} {t u : TypeId} (h : Bx2 w wr A t cs u) (j : Nat) : wr.frozen? ⟨w.heap.size + 1, j, none⟩ = false := by
  have := h.row2
  simp [World.frozen?, this]
theorem Bx2.cell1 {w wr : World} {A cs : Array Value} {t u : TypeId} (h : Bx2 w wr A t cs u) (i : Nat) {v : Value} (hv : A[i]? = some v) : wr.cell? ⟨w.heap.size, i, none⟩ = some v := by
  have := h.row1
  simp [World.cell?, this, hv]
theorem Bx2.cell2 {w wr : World} {A cs : Array Value} {t u : TypeId} (h : Bx2 w wr A t cs u) (i : Nat) {v : Value} (hv : cs[i]? = some v) : wr.cell? ⟨w.heap.size + 1, i, none⟩ = some v := by
  have := h.row2
  simp [World.cell?, this, hv]
theorem Bx2.set2 {w wr : World} {A cs : Array Value} {t u : TypeId} (h : Bx2 w wr A t cs u) (i : Nat) (v : Value) : Bx2 w (wr.setCell ⟨w.heap.size + 1, i, none⟩ v) A t (cs.setIfInBounds i v) u := by
  refine ⟨?_, ?_, h.lo.setCell (by simp) (p := ⟨w.heap.size + 1, i, none⟩) v⟩
  · have := h.row1
    simp [World.setCell, Array.getElem?_modify, this]
  · have := h.row2
    simp [World.setCell, Array.getElem?_modify, this]
end Go.Proofs.YtngomgkinaodjaaDoor
