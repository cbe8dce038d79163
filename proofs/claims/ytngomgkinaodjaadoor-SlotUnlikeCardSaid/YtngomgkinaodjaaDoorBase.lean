/- Laws of no one program: a whole struct's load behind a guard; what lies where boxed arguments were laid. No condition. -/
import Derived.Test.YtngomgkinaodjaaDoorOnly
import Derived.Laws.Rows
import Derived.Laws.Tables
import Derived.WalkKit
import Derived.Lib.Hide
namespace Go.Proofs.YtngomgkinaodjaaDoor
open Go.RowKit
theorem wpList_load_row_g {P : Program} {ops : Array Oper} {rest : List Oper} {o : Oper} {a : Act} {w : World} {Q : Exit → Act → World → Prop} (hw : Region.wanted o (yielded ops a.tmps) = true) (ty : TypeId) (x : Operand) (ho : o.op = .load ty x)
    (g : Nat) (hx : a.eval x = .pointer (some ⟨g, 0, none⟩)) (t : TypeId) (cs : Array Value) (fr : Nat × Nat) (d : TypeDesc) (hg : w.heap[g]? = some (.cells cs t fr))
    (hu : P.underlying ty = some d) (hd : (match d with | .struct _ | .array _ _ => true | _ => false) = true) (hi : (P.info? ty).map (·.size) = some cs.size)
    (h : wpList P ops Q rest (a.put o.dst (.agg cs)) w) : wpList P ops Q (o :: rest) a w := by
  unfold wpList
  rw [if_pos hw]
  exact .inl (wp_load_row ty x ho g hx t cs fr d hg hu hd hi h)
theorem boxes2 {w w1 : World} {A B : Array Value} {s t : TypeId} (hb : Below ((w.alloc (.cells A s)).alloc (.cells B t)).heap.size ((w.alloc (.cells A s)).alloc (.cells B t)) w1) :
    w1.heap[w.heap.size]? = some (.cells A s (0, 0)) ∧ w1.heap[w.heap.size + 1]? = some (.cells B t (0, 0)) ∧ Below w.heap.size w w1 ∧ w.heap.size + 2 ≤ w1.heap.size := by
  have e1 := heap_alloc_new w (.cells A s)
  have e2 := heap_alloc2_new w (.cells A s) (.cells B t)
  have b := ((Below.refl (w.heap.size + 1) (w.alloc (.cells A s))).alloc (by simp) (.cells B t)).block w.heap.size (by omega)
  have hs := hb.size
  simp only [World.size_alloc] at hs
  refine ⟨?_, ?_, (((Below.refl _ w).alloc (Nat.le_refl _) _).alloc (by simp) _).trans (hb.mono (by simp; omega)), by omega⟩
  · rw [hb.block _ (by simp; omega), b]; exact e1
  · rw [hb.block _ (by simp)]; exact e2
theorem boxes1 {w w1 : World} {A : Array Value} {s : TypeId} (hb : Below (w.alloc (.cells A s)).heap.size (w.alloc (.cells A s)) w1) :
    w1.heap[w.heap.size]? = some (.cells A s (0, 0)) ∧ Below w.heap.size w w1 ∧ w.heap.size + 1 ≤ w1.heap.size := by
  have hs := hb.size
  simp only [World.size_alloc] at hs
  refine ⟨?_, ((Below.refl _ w).alloc (Nat.le_refl _) _).trans (hb.mono (by simp)), by omega⟩
  rw [hb.block _ (by simp)]; exact heap_alloc_new _ _
/-- What was there is there behind a making. -/
theorem cell_alloc {w : World} {p : Addr} {v : Value} (h : w.cell? p = some v) (o : Obj) : (w.alloc o).cell? p = some v :=
  (((Below.refl w.heap.size w).alloc (Nat.le_refl _) o).cell (p := p) (block_lt_of_cell h)).trans h
end Go.Proofs.YtngomgkinaodjaaDoor
