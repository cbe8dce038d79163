/- Three, four, five boxes that a call made first, and all that was there before them. Conditions: none. -/
import Derived.Test.YtbeemfkndpandaaDoorBox2
namespace Go.Proofs.YtbeemfkndpandaaDoor
open Go.RowKit
set_option linter.unusedVariables false
structure Bx3 (w wr : World) (A0 : Array Value) (t0 : TypeId) (A1 : Array Value) (t1 : TypeId) (A2 : Array Value) (t2 : TypeId) : Prop where
  r0 : wr.heap[w.heap.size]? = some (.cells A0 t0 (0, 0))
  r1 : wr.heap[w.heap.size + 1]? = some (.cells A1 t1 (0, 0))
  r2 : wr.heap[w.heap.size + 1 + 1]? = some (.cells A2 t2 (0, 0))
  lo : Below w.heap.size w wr
theorem Bx3.new (w : World) (A0 : Array Value) (t0 : TypeId) (A1 : Array Value) (t1 : TypeId) (A2 : Array Value) (t2 : TypeId) : Bx3 w (((w.alloc (.cells A0 t0)).alloc (.cells A1 t1)).alloc (.cells A2 t2)) A0 t0 A1 t1 A2 t2 := by
  have e : ∀ (u : World) (o : Obj) (k : Nat) (x : Obj), u.heap[k]? = some x → (u.alloc o).heap[k]? = some x := fun u o k x h => (((Below.refl u.heap.size u).alloc (Nat.le_refl _) o).block k (Array.getElem?_eq_some_iff.1 h).1).trans h
  have h0 := heap_alloc_new w (.cells A0 t0)
  have h1 := heap_alloc_new (w.alloc (.cells A0 t0)) (.cells A1 t1)
  have h2 := heap_alloc_new ((w.alloc (.cells A0 t0)).alloc (.cells A1 t1)) (.cells A2 t2)
  simp only [World.size_alloc] at h1 h2
  exact ⟨(e _ _ _ _ (e _ _ _ _ h0)), (e _ _ _ _ h1), h2, ((((Below.refl _ w).alloc (by simp) _).alloc (by simp) _).alloc (by simp; omega) _)⟩
theorem Bx3.below {w wr w2 : World} {A0 A1 A2 : Array Value} {t0 t1 t2 : TypeId} (h : Bx3 w wr A0 t0 A1 t1 A2 t2) (hb : Below wr.heap.size wr w2) : Bx3 w w2 A0 t0 A1 t1 A2 t2 :=
  ⟨(hb.block _ (Array.getElem?_eq_some_iff.1 h.r0).1).trans h.r0, (hb.block _ (Array.getElem?_eq_some_iff.1 h.r1).1).trans h.r1, (hb.block _ (Array.getElem?_eq_some_iff.1 h.r2).1).trans h.r2, h.lo.trans (hb.mono h.lo.size)⟩
theorem Bx3.reach {w wr : World} {A0 A1 A2 : Array Value} {t0 t1 t2 : TypeId} (h : Bx3 w wr A0 t0 A1 t1 A2 t2) (d : World) : Bx3 w (reach wr.heap.size wr d) A0 t0 A1 t1 A2 t2 :=
  h.below (reach_below _ _ _)
theorem Bx3.c0 {w wr : World} {A0 A1 A2 : Array Value} {t0 t1 t2 : TypeId} (h : Bx3 w wr A0 t0 A1 t1 A2 t2) (j : Nat) {v : Value} (hv : A0[j]? = some v) : wr.cell? ⟨w.heap.size, j, none⟩ = some v := by
  have := h.r0
  simp [World.cell?, this, hv]
theorem Bx3.c1 {w wr : World} {A0 A1 A2 : Array Value} {t0 t1 t2 : TypeId} (h : Bx3 w wr A0 t0 A1 t1 A2 t2) (j : Nat) {v : Value} (hv : A1[j]? = some v) : wr.cell? ⟨w.heap.size + 1, j, none⟩ = some v := by
  have := h.r1
  simp [World.cell?, this, hv]
theorem Bx3.c2 {w wr : World} {A0 A1 A2 : Array Value} {t0 t1 t2 : TypeId} (h : Bx3 w wr A0 t0 A1 t1 A2 t2) (j : Nat) {v : Value} (hv : A2[j]? = some v) : wr.cell? ⟨w.heap.size + 1 + 1, j, none⟩ = some v := by
  have := h.r2
  simp [World.cell?, this, hv]
theorem Bx3.froz {w wr : World} {A0 A1 A2 : Array Value} {t0 t1 t2 : TypeId} (h : Bx3 w wr A0 t0 A1 t1 A2 t2) (j : Nat) : wr.frozen? ⟨w.heap.size + 1 + 1, j, none⟩ = false := by
  have := h.r2
  simp [World.frozen?, this]
theorem Bx3.set {w wr : World} {A0 A1 A2 : Array Value} {t0 t1 t2 : TypeId} (h : Bx3 w wr A0 t0 A1 t1 A2 t2) (j : Nat) (v : Value) : Bx3 w (wr.setCell ⟨w.heap.size + 1 + 1, j, none⟩ v) A0 t0 A1 t1 (A2.setIfInBounds j v) t2 := by
  refine ⟨?_, ?_, ?_, h.lo.setCell (by simp; try omega) (p := ⟨w.heap.size + 1 + 1, j, none⟩) v⟩
  · have := h.r0
    simp [World.setCell, Array.getElem?_modify, this] <;> omega
  · have := h.r1
    simp [World.setCell, Array.getElem?_modify, this] <;> omega
  · have := h.r2
    simp [World.setCell, Array.getElem?_modify, this]
structure Bx4 (w wr : World) (A0 : Array Value) (t0 : TypeId) (A1 : Array Value) (t1 : TypeId) (A2 : Array Value) (t2 : TypeId) (A3 : Array Value) (t3 : TypeId) : Prop where
  r0 : wr.heap[w.heap.size]? = some (.cells A0 t0 (0, 0))
  r1 : wr.heap[w.heap.size + 1]? = some (.cells A1 t1 (0, 0))
  r2 : wr.heap[w.heap.size + 1 + 1]? = some (.cells A2 t2 (0, 0))
  r3 : wr.heap[w.heap.size + 1 + 1 + 1]? = some (.cells A3 t3 (0, 0))
  lo : Below w.heap.size w wr
theorem Bx4.new (w : World) (A0 : Array Value) (t0 : TypeId) (A1 : Array Value) (t1 : TypeId) (A2 : Array Value) (t2 : TypeId) (A3 : Array Value) (t3 : TypeId) : Bx4 w ((((w.alloc (.cells A0 t0)).alloc (.cells A1 t1)).alloc (.cells A2 t2)).alloc (.cells A3 t3)) A0 t0 A1 t1 A2 t2 A3 t3 := by
  have e : ∀ (u : World) (o : Obj) (k : Nat) (x : Obj), u.heap[k]? = some x → (u.alloc o).heap[k]? = some x := fun u o k x h => (((Below.refl u.heap.size u).alloc (Nat.le_refl _) o).block k (Array.getElem?_eq_some_iff.1 h).1).trans h
  have h0 := heap_alloc_new w (.cells A0 t0)
  have h1 := heap_alloc_new (w.alloc (.cells A0 t0)) (.cells A1 t1)
  have h2 := heap_alloc_new ((w.alloc (.cells A0 t0)).alloc (.cells A1 t1)) (.cells A2 t2)
  have h3 := heap_alloc_new (((w.alloc (.cells A0 t0)).alloc (.cells A1 t1)).alloc (.cells A2 t2)) (.cells A3 t3)
  simp only [World.size_alloc] at h1 h2 h3
  exact ⟨(e _ _ _ _ (e _ _ _ _ (e _ _ _ _ h0))), (e _ _ _ _ (e _ _ _ _ h1)), (e _ _ _ _ h2), h3, (((((Below.refl _ w).alloc (by simp) _).alloc (by simp) _).alloc (by simp; omega) _).alloc (by simp; omega) _)⟩
theorem Bx4.below {w wr w2 : World} {A0 A1 A2 A3 : Array Value} {t0 t1 t2 t3 : TypeId} (h : Bx4 w wr A0 t0 A1 t1 A2 t2 A3 t3) (hb : Below wr.heap.size wr w2) : Bx4 w w2 A0 t0 A1 t1 A2 t2 A3 t3 :=
  ⟨(hb.block _ (Array.getElem?_eq_some_iff.1 h.r0).1).trans h.r0, (hb.block _ (Array.getElem?_eq_some_iff.1 h.r1).1).trans h.r1, (hb.block _ (Array.getElem?_eq_some_iff.1 h.r2).1).trans h.r2, (hb.block _ (Array.getElem?_eq_some_iff.1 h.r3).1).trans h.r3, h.lo.trans (hb.mono h.lo.size)⟩
theorem Bx4.reach {w wr : World} {A0 A1 A2 A3 : Array Value} {t0 t1 t2 t3 : TypeId} (h : Bx4 w wr A0 t0 A1 t1 A2 t2 A3 t3) (d : World) : Bx4 w (reach wr.heap.size wr d) A0 t0 A1 t1 A2 t2 A3 t3 :=
  h.below (reach_below _ _ _)
theorem Bx4.c0 {w wr : World} {A0 A1 A2 A3 : Array Value} {t0 t1 t2 t3 : TypeId} (h : Bx4 w wr A0 t0 A1 t1 A2 t2 A3 t3) (j : Nat) {v : Value} (hv : A0[j]? = some v) : wr.cell? ⟨w.heap.size, j, none⟩ = some v := by
  have := h.r0
  simp [World.cell?, this, hv]
theorem Bx4.c1 {w wr : World} {A0 A1 A2 A3 : Array Value} {t0 t1 t2 t3 : TypeId} (h : Bx4 w wr A0 t0 A1 t1 A2 t2 A3 t3) (j : Nat) {v : Value} (hv : A1[j]? = some v) : wr.cell? ⟨w.heap.size + 1, j, none⟩ = some v := by
  have := h.r1
  simp [World.cell?, this, hv]
theorem Bx4.c2 {w wr : World} {A0 A1 A2 A3 : Array Value} {t0 t1 t2 t3 : TypeId} (h : Bx4 w wr A0 t0 A1 t1 A2 t2 A3 t3) (j : Nat) {v : Value} (hv : A2[j]? = some v) : wr.cell? ⟨w.heap.size + 1 + 1, j, none⟩ = some v := by
  have := h.r2
  simp [World.cell?, this, hv]
theorem Bx4.c3 {w wr : World} {A0 A1 A2 A3 : Array Value} {t0 t1 t2 t3 : TypeId} (h : Bx4 w wr A0 t0 A1 t1 A2 t2 A3 t3) (j : Nat) {v : Value} (hv : A3[j]? = some v) : wr.cell? ⟨w.heap.size + 1 + 1 + 1, j, none⟩ = some v := by
  have := h.r3
  simp [World.cell?, this, hv]
theorem Bx4.froz {w wr : World} {A0 A1 A2 A3 : Array Value} {t0 t1 t2 t3 : TypeId} (h : Bx4 w wr A0 t0 A1 t1 A2 t2 A3 t3) (j : Nat) : wr.frozen? ⟨w.heap.size + 1 + 1 + 1, j, none⟩ = false := by
  have := h.r3
  simp [World.frozen?, this]
theorem Bx4.set {w wr : World} {A0 A1 A2 A3 : Array Value} {t0 t1 t2 t3 : TypeId} (h : Bx4 w wr A0 t0 A1 t1 A2 t2 A3 t3) (j : Nat) (v : Value) : Bx4 w (wr.setCell ⟨w.heap.size + 1 + 1 + 1, j, none⟩ v) A0 t0 A1 t1 A2 t2 (A3.setIfInBounds j v) t3 := by
  refine ⟨?_, ?_, ?_, ?_, h.lo.setCell (by simp; try omega) (p := ⟨w.heap.size + 1 + 1 + 1, j, none⟩) v⟩
  · have := h.r0
    simp [World.setCell, Array.getElem?_modify, this] <;> omega
  · have := h.r1
    simp [World.setCell, Array.getElem?_modify, this] <;> omega
  · have := h.r2
    simp [World.setCell, Array.getElem?_modify, this] <;> omega
  · have := h.r3
    simp [World.setCell, Array.getElem?_modify, this]
structure Bx5 (w wr : World) (A0 : Array Value) (t0 : TypeId) (A1 : Array Value) (t1 : TypeId) (A2 : Array Value) (t2 : TypeId) (A3 : Array Value) (t3 : TypeId) (A4 : Array Value) (t4 : TypeId) : Prop where
  r0 : wr.heap[w.heap.size]? = some (.cells A0 t0 (0, 0))
  r1 : wr.heap[w.heap.size + 1]? = some (.cells A1 t1 (0, 0))
  r2 : wr.heap[w.heap.size + 1 + 1]? = some (.cells A2 t2 (0, 0))
  r3 : wr.heap[w.heap.size + 1 + 1 + 1]? = some (.cells A3 t3 (0, 0))
  r4 : wr.heap[w.heap.size + 1 + 1 + 1 + 1]? = some (.cells A4 t4 (0, 0))
  lo : Below w.heap.size w wr
theorem Bx5.new (w : World) (A0 : Array Value) (t0 : TypeId) (A1 : Array Value) (t1 : TypeId) (A2 : Array Value) (t2 : TypeId) (A3 : Array Value) (t3 : TypeId) (A4 : Array Value) (t4 : TypeId) : Bx5 w (((((w.alloc (.cells A0 t0)).alloc (.cells A1 t1)).alloc (.cells A2 t2)).alloc (.cells A3 t3)).alloc (.cells A4 t4)) A0 t0 A1 t1 A2 t2 A3 t3 A4 t4 := by
  have e : ∀ (u : World) (o : Obj) (k : Nat) (x : Obj), u.heap[k]? = some x → (u.alloc o).heap[k]? = some x := fun u o k x h => (((Below.refl u.heap.size u).alloc (Nat.le_refl _) o).block k (Array.getElem?_eq_some_iff.1 h).1).trans h
  have h0 := heap_alloc_new w (.cells A0 t0)
  have h1 := heap_alloc_new (w.alloc (.cells A0 t0)) (.cells A1 t1)
  have h2 := heap_alloc_new ((w.alloc (.cells A0 t0)).alloc (.cells A1 t1)) (.cells A2 t2)
  have h3 := heap_alloc_new (((w.alloc (.cells A0 t0)).alloc (.cells A1 t1)).alloc (.cells A2 t2)) (.cells A3 t3)
  have h4 := heap_alloc_new ((((w.alloc (.cells A0 t0)).alloc (.cells A1 t1)).alloc (.cells A2 t2)).alloc (.cells A3 t3)) (.cells A4 t4)
  simp only [World.size_alloc] at h1 h2 h3 h4
  exact ⟨(e _ _ _ _ (e _ _ _ _ (e _ _ _ _ (e _ _ _ _ h0)))), (e _ _ _ _ (e _ _ _ _ (e _ _ _ _ h1))), (e _ _ _ _ (e _ _ _ _ h2)), (e _ _ _ _ h3), h4, ((((((Below.refl _ w).alloc (by simp) _).alloc (by simp) _).alloc (by simp; omega) _).alloc (by simp; omega) _).alloc (by simp; omega) _)⟩
theorem Bx5.below {w wr w2 : World} {A0 A1 A2 A3 A4 : Array Value} {t0 t1 t2 t3 t4 : TypeId} (h : Bx5 w wr A0 t0 A1 t1 A2 t2 A3 t3 A4 t4) (hb : Below wr.heap.size wr w2) : Bx5 w w2 A0 t0 A1 t1 A2 t2 A3 t3 A4 t4 :=
  ⟨(hb.block _ (Array.getElem?_eq_some_iff.1 h.r0).1).trans h.r0, (hb.block _ (Array.getElem?_eq_some_iff.1 h.r1).1).trans h.r1, (hb.block _ (Array.getElem?_eq_some_iff.1 h.r2).1).trans h.r2, (hb.block _ (Array.getElem?_eq_some_iff.1 h.r3).1).trans h.r3, (hb.block _ (Array.getElem?_eq_some_iff.1 h.r4).1).trans h.r4, h.lo.trans (hb.mono h.lo.size)⟩
theorem Bx5.reach {w wr : World} {A0 A1 A2 A3 A4 : Array Value} {t0 t1 t2 t3 t4 : TypeId} (h : Bx5 w wr A0 t0 A1 t1 A2 t2 A3 t3 A4 t4) (d : World) : Bx5 w (reach wr.heap.size wr d) A0 t0 A1 t1 A2 t2 A3 t3 A4 t4 :=
  h.below (reach_below _ _ _)
theorem Bx5.c0 {w wr : World} {A0 A1 A2 A3 A4 : Array Value} {t0 t1 t2 t3 t4 : TypeId} (h : Bx5 w wr A0 t0 A1 t1 A2 t2 A3 t3 A4 t4) (j : Nat) {v : Value} (hv : A0[j]? = some v) : wr.cell? ⟨w.heap.size, j, none⟩ = some v := by
  have := h.r0
  simp [World.cell?, this, hv]
theorem Bx5.c1 {w wr : World} {A0 A1 A2 A3 A4 : Array Value} {t0 t1 t2 t3 t4 : TypeId} (h : Bx5 w wr A0 t0 A1 t1 A2 t2 A3 t3 A4 t4) (j : Nat) {v : Value} (hv : A1[j]? = some v) : wr.cell? ⟨w.heap.size + 1, j, none⟩ = some v := by
  have := h.r1
  simp [World.cell?, this, hv]
theorem Bx5.c2 {w wr : World} {A0 A1 A2 A3 A4 : Array Value} {t0 t1 t2 t3 t4 : TypeId} (h : Bx5 w wr A0 t0 A1 t1 A2 t2 A3 t3 A4 t4) (j : Nat) {v : Value} (hv : A2[j]? = some v) : wr.cell? ⟨w.heap.size + 1 + 1, j, none⟩ = some v := by
  have := h.r2
  simp [World.cell?, this, hv]
theorem Bx5.c3 {w wr : World} {A0 A1 A2 A3 A4 : Array Value} {t0 t1 t2 t3 t4 : TypeId} (h : Bx5 w wr A0 t0 A1 t1 A2 t2 A3 t3 A4 t4) (j : Nat) {v : Value} (hv : A3[j]? = some v) : wr.cell? ⟨w.heap.size + 1 + 1 + 1, j, none⟩ = some v := by
  have := h.r3
  simp [World.cell?, this, hv]
theorem Bx5.c4 {w wr : World} {A0 A1 A2 A3 A4 : Array Value} {t0 t1 t2 t3 t4 : TypeId} (h : Bx5 w wr A0 t0 A1 t1 A2 t2 A3 t3 A4 t4) (j : Nat) {v : Value} (hv : A4[j]? = some v) : wr.cell? ⟨w.heap.size + 1 + 1 + 1 + 1, j, none⟩ = some v := by
  have := h.r4
  simp [World.cell?, this, hv]
theorem Bx5.froz {w wr : World} {A0 A1 A2 A3 A4 : Array Value} {t0 t1 t2 t3 t4 : TypeId} (h : Bx5 w wr A0 t0 A1 t1 A2 t2 A3 t3 A4 t4) (j : Nat) : wr.frozen? ⟨w.heap.size + 1 + 1 + 1 + 1, j, none⟩ = false := by
  have := h.r4
  simp [World.frozen?, this]
theorem Bx5.set {w wr : World} {A0 A1 A2 A3 A4 : Array Value} {t0 t1 t2 t3 t4 : TypeId} (h : Bx5 w wr A0 t0 A1 t1 A2 t2 A3 t3 A4 t4) (j : Nat) (v : Value) : Bx5 w (wr.setCell ⟨w.heap.size + 1 + 1 + 1 + 1, j, none⟩ v) A0 t0 A1 t1 A2 t2 A3 t3 (A4.setIfInBounds j v) t4 := by
  refine ⟨?_, ?_, ?_, ?_, ?_, h.lo.setCell (by simp; try omega) (p := ⟨w.heap.size + 1 + 1 + 1 + 1, j, none⟩) v⟩
  · have := h.r0
    simp [World.setCell, Array.getElem?_modify, this] <;> omega
  · have := h.r1
    simp [World.setCell, Array.getElem?_modify, this] <;> omega
  · have := h.r2
    simp [World.setCell, Array.getElem?_modify, this] <;> omega
  · have := h.r3
    simp [World.setCell, Array.getElem?_modify, this] <;> omega
  · have := h.r4
    simp [World.setCell, Array.getElem?_modify, this]
end Go.Proofs.YtbeemfkndpandaaDoor
