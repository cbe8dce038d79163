/- Three boxes that a call of Back makes. Conditions: none. -/
import Derived.Test.YtppomdpppidbaaaDoorTabA
namespace Go.Proofs.YtppomdpppidbaaaDoor
open Go.RowKit
set_option linter.unusedVariables false
/-- Three boxes: the table, the number, the result; and all that was there. -/
structure TB (w wx : World) (a : Addr) (n cap : Nat) (v : Int) : Prop where
  t : wx.heap[w.heap.size]? = some (.cells #[.slice (some a) n cap] 25 (0, 0))
  y : wx.heap[w.heap.size + 1]? = some (.cells #[.int .i64 v] 2 (0, 0))
  r : wx.heap[w.heap.size + 1 + 1]? = some (.cells #[.int .i64 0, .int .i64 0] 27 (0, 0))
  lo : Below w.heap.size w wx
theorem TB.below {w wx w' : World} {a : Addr} {n cap : Nat} {v : Int} (h : TB w wx a n cap v) (hb : Below wx.heap.size wx w') : TB w w' a n cap v :=
  ⟨(hb.block _ (Array.getElem?_eq_some_iff.1 h.t).1).trans h.t, (hb.block _ (Array.getElem?_eq_some_iff.1 h.y).1).trans h.y, (hb.block _ (Array.getElem?_eq_some_iff.1 h.r).1).trans h.r, h.lo.trans (hb.mono h.lo.size)⟩
theorem TB.new (w : World) (a : Addr) (n cap : Nat) (v : Int) : TB w (((w.alloc (.cells #[.slice (some a) n cap] 25)).alloc (.cells #[.int .i64 v] 2)).alloc (.cells #[.int .i64 0, .int .i64 0] 27)) a n cap v := by
  have b1 := (Below.refl w.heap.size w).alloc (Nat.le_refl _) (.cells #[.slice (some a) n cap] 25)
  have b2 := b1.alloc b1.size (.cells #[.int .i64 v] 2)
  have b3 := b2.alloc b2.size (.cells #[.int .i64 0, .int .i64 0] 27)
  refine ⟨?_, ?_, ?_, b3⟩
  · have e := two_new1 w #[.slice (some a) n cap] #[.int .i64 v] 25 2
    exact (((Below.refl _ ((w.alloc (.cells #[.slice (some a) n cap] 25)).alloc (.cells #[.int .i64 v] 2))).alloc (Nat.le_refl _) _).block w.heap.size (by simp; omega)).trans e
  · have e := two_new2 w #[.slice (some a) n cap] #[.int .i64 v] 25 2
    exact (((Below.refl _ ((w.alloc (.cells #[.slice (some a) n cap] 25)).alloc (.cells #[.int .i64 v] 2))).alloc (Nat.le_refl _) _).block (w.heap.size + 1) (by simp)).trans e
  · have e := heap_alloc_new ((w.alloc (.cells #[.slice (some a) n cap] 25)).alloc (.cells #[.int .i64 v] 2)) (.cells #[.int .i64 0, .int .i64 0] 27)
    have q : ((w.alloc (.cells #[.slice (some a) n cap] 25)).alloc (.cells #[.int .i64 v] 2)).heap.size = w.heap.size + 1 + 1 := by simp
    rw [q] at e
    exact e
end Go.Proofs.YtppomdpppidbaaaDoor
