/- What the document's own filter does. Conditions: its count is small. -/
import Derived.Test.YtbgjfcnaiahehaaFil
namespace Go.Proofs.Ytbgjfcnaiahehaa
open Go.RowKit
def FlR (w : World) (B : Nat) (k : FK) : Prop :=
  w.heap[B]? = some (.cells #[.int .i64 k.n, .int .i64 k.c, .bool k.s] 56 (0, 0))
theorem FlR.lt {w : World} {B : Nat} {k : FK} (h : FlR w B k) : B < w.heap.size := (Array.getElem?_eq_some_iff.1 h).1
theorem FlR.cells {w : World} {B : Nat} {k : FK} (h : FlR w B k) :
    w.cell? ⟨B, 0, none⟩ = some (.int .i64 k.n) ∧ w.cell? ⟨B, 1, none⟩ = some (.int .i64 k.c) ∧ w.cell? ⟨B, 2, none⟩ = some (.bool k.s) ∧ w.frozen? ⟨B, 1, none⟩ = false ∧ w.frozen? ⟨B, 2, none⟩ = false ∧ B < w.heap.size := by
  have hlt := h.lt
  unfold FlR at h
  refine ⟨?_, ?_, ?_, ?_, ?_, hlt⟩ <;> simp [World.cell?, World.frozen?, h]
theorem FlR.count {w : World} {B : Nat} {n c : Int} {s : Bool} (h : FlR w B ⟨n, c, s⟩) (d : Int) : FlR (w.setCell ⟨B, 1, none⟩ (.int .i64 d)) B ⟨n, d, s⟩ := by
  unfold FlR at *
  simp [World.setCell, Array.getElem?_modify, h]
theorem FlR.state {w : World} {B : Nat} {n c : Int} {s : Bool} (h : FlR w B ⟨n, c, s⟩) (t : Bool) : FlR (w.setCell ⟨B, 2, none⟩ (.bool t)) B ⟨n, c, t⟩ := by
  unfold FlR at *
  simp [World.setCell, Array.getElem?_modify, h]
theorem FlR.drewN {w : World} {B : Nat} {k : FK} (h : FlR w B k) (m : Nat) : FlR (w.drewN m) B k := h
theorem FlR.only {w w' : World} {B C : Nat} {k : FK} (h : FlR w C k) (hb : Only B w w') (hn : C ≠ B) : FlR w' C k := hb.row h hn
theorem FlR.below {w w' : World} {C : Nat} {k : FK} (h : FlR w C k) (hb : Below w.heap.size w w') : FlR w' C k := by
  unfold FlR at *
  rw [hb.block C (Array.getElem?_eq_some_iff.1 h).1]; exact h
theorem forceR (B : Nat) (k : FK) (t : Bool) (w : World) (h : FlR w B k) :
    Calls Try.prog 32 #[.pointer (some ⟨B, 0, none⟩), .bool t] w fun e w' => e = .returned (.tuple #[]) ∧ FlR w' B ⟨k.n, 0, t⟩ ∧ Only B w w' := by
  have H := Lib.hid h
  obtain ⟨h0, h1, h2, h3, h4, h5⟩ := h.cells
  clear h
  go_enter Try.func32, Try.ntmps32
  go_wp2
  go_end0
  exact ⟨rfl, (H.out.state t).count 0, (Only.set _ _ _ _).trans (Only.set _ _ _ _)⟩
theorem newR (n : Int) (w : World) :
    Calls Try.prog 31 #[.int .i64 n] w fun e w' => e = .returned (.pointer (some ⟨w.heap.size, 0, none⟩)) ∧ FlR w' w.heap.size ⟨cut1 n, 0, false⟩ ∧ Below w.heap.size w w' := by
  unfold cut1
  by_cases h1 : n ≤ 1000
  · by_cases h2 : 1 ≤ n
    · rw [show max (min n 1000) 1 = n by omega]
      go_enter Try.func31, Try.ntmps31
      go_wp2
      all_goals
        go_ret
        refine ⟨rfl, ?_, (Below.refl _ _).alloc (Nat.le_refl _) _⟩
        unfold FlR
        show (w.heap.push _)[w.heap.size]? = _
        simp
        try omega
    · rw [show max (min n 1000) 1 = 1 by omega]
      go_enter Try.func31, Try.ntmps31
      go_wp2
      all_goals
        go_ret
        refine ⟨rfl, ?_, (Below.refl _ _).alloc (Nat.le_refl _) _⟩
        unfold FlR
        show (w.heap.push _)[w.heap.size]? = _
        simp
        try omega
  · rw [show max (min n 1000) 1 = 1000 by omega]
    go_enter Try.func31, Try.ntmps31
    go_wp2
    all_goals
      go_ret
      refine ⟨rfl, ?_, (Below.refl _ _).alloc (Nat.le_refl _) _⟩
      unfold FlR
      show (w.heap.push _)[w.heap.size]? = _
      simp
      try omega
theorem stepR (B : Nat) (k : FK) (i : Bool) (hc : 0 ≤ k.c) (hc2 : k.c ≤ 1000000) (w : World) (h : FlR w B k) :
    Calls Try.prog 33 #[.pointer (some ⟨B, 0, none⟩), .bool i] w fun e w' => e = .returned (.bool (k.step i).s) ∧ FlR w' B (k.step i) ∧ Only B w w' := by
  have H := Lib.hid h
  obtain ⟨h0, h1, h2, h3, h4, h5⟩ := h.cells
  clear h
  obtain ⟨n, c, s⟩ := k
  simp only [] at hc hc2 h0 h1 h2
  unfold FK.step
  simp only []
  cases hs : (i == s)
  · simp only [Bool.false_eq_true, if_false]
    by_cases hn : n ≤ c + 1
    · rw [if_pos hn]
      go_enter Try.func33, Try.ntmps33
      go_wp2
      try go_quiet (fail)
      try go_wp2
      go_ret
      refine ⟨rfl, ?_, ?_⟩
      · first | exact (((H.out.count (c + 1)).state i).count 0) | exact (((H.out.count (c + 1)).drewN _).state i).count 0
      · repeat' first | exact Only.set _ _ _ _ | exact Only.drewN _ _ _ | refine Only.trans ?_ (Only.set _ _ _ _) | refine Only.trans ?_ (Only.drewN _ _ _)
    · rw [if_neg hn]
      go_enter Try.func33, Try.ntmps33
      go_wp2
      try go_quiet (fail)
      try go_wp2
      go_ret
      refine ⟨rfl, H.out.count (c + 1), ?_⟩
      repeat' first | exact Only.set _ _ _ _ | exact Only.drewN _ _ _ | refine Only.trans ?_ (Only.set _ _ _ _) | refine Only.trans ?_ (Only.drewN _ _ _)
  · simp only [if_true]
    go_enter Try.func33, Try.ntmps33
    go_wp2
    go_ret
    exact ⟨rfl, H.out.count 0, Only.set _ _ _ _⟩
end Go.Proofs.Ytbgjfcnaiahehaa
