/- A box that a call made first, and all that was there before it. Conditions: none. -/
import Derived.Test.YtngomgkinaodjaaDoorReach
namespace Go.Proofs.YtngomgkinaodjaaDoor
open Go.RowKit
set_option linter.unusedVariables false
structure Bx (w wr : World) (cs : Array Value) (t : TypeId) : Prop where
  row : wr.heap[w.heap.size]? = some (.cells cs t (0, 0))
  lo : Below w.heap.size w wr
theorem Bx.new (w : World) (cs : Array Value) (t : TypeId) : Bx w (w.alloc (.cells cs t)) cs t :=
  ⟨heap_alloc_new _ _, (Below.refl _ _).alloc (Nat.le_refl _) _⟩
theorem Bx.below {w wr w' : World} {cs : Array Value} {t : TypeId} (h : Bx w wr cs t) (hb : Below wr.heap.size wr w') : Bx w w' cs t :=
  ⟨(hb.block _ (Array.getElem?_eq_some_iff.1 h.row).1).trans h.row, h.lo.trans (hb.mono h.lo.size)⟩
theorem Bx.reach {w wr : World} {cs : Array Value} {t : TypeId} (h : Bx w wr cs t) (d : World) : Bx w (reach wr.heap.size wr d) cs t :=
  h.below (reach_below _ _ _)
theorem Bx.froz {w wr : World} {cs : Array Value} {t : TypeId} (h : Bx w wr cs t) (j : Nat) : wr.frozen? ⟨w.heap.size, j, none⟩ = false := by
  have := h.row
  simp [World.frozen?, this]
theorem Bx.cell {w wr : World} {cs : Array Value} {t : TypeId} (h : Bx w wr cs t) (i : Nat) {v : Value} (hv : cs[i]? = some v) : wr.cell? ⟨w.heap.size, i, none⟩ = some v := by
  have := h.row
  simp [World.cell?, this, hv]
theorem Bx.set {w wr : World} {cs : Array Value} {t : TypeId} (h : Bx w wr cs t) (i : Nat) (v : Value) : Bx w (wr.setCell ⟨w.heap.size, i, none⟩ v) (cs.setIfInBounds i v) t := by
  refine ⟨?_, h.lo.setCell (Nat.le_refl _) (p := ⟨w.heap.size, i, none⟩) v⟩
  have := h.row
  simp [World.setCell, Array.getElem?_modify, this]
theorem Bx.size {w wr : World} {cs : Array Value} {t : TypeId} (h : Bx w wr cs t) : w.heap.size < wr.heap.size := (Array.getElem?_eq_some_iff.1 h.row).1
end Go.Proofs.YtngomgkinaodjaaDoor
