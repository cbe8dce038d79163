/- What a filter does, by a plain definition; its block alone changes. Conditions: its count is small. -/
import Derived.Test.YtcphpaacgkfkbaaOnly
import Derived.Handy
import Derived.OpenShut
import Derived.Lib.Hide
import Derived.Deep.QuietTactic
import Derived.BigQuiet
namespace Go.Proofs.Ytcphpaacgkfkbaa
open Go.RowKit
theorem ret_fb {a b : Bool} (h : a = b) : Ending.returned (.bool a) = .returned (.bool b) := by rw [h]
/-- A filter: how many in a row, how many so far, its state. -/
structure FK where
  n : Int
  c : Int
  s : Bool
def FK.step (k : FK) (i : Bool) : FK := if i == k.s then ⟨k.n, 0, k.s⟩ else if k.n ≤ k.c + 1 then ⟨k.n, 0, i⟩ else ⟨k.n, k.c + 1, k.s⟩
def Fl (w : World) (B : Nat) (k : FK) : Prop :=
  w.heap[B]? = some (.cells #[.int .i64 k.n, .int .i64 k.c, .bool k.s] 82 (0, 0))
theorem Fl.lt {w : World} {B : Nat} {k : FK} (h : Fl w B k) : B < w.heap.size := (Array.getElem?_eq_some_iff.1 h).1
theorem Fl.cells {w : World} {B : Nat} {k : FK} (h : Fl w B k) :
    w.cell? ⟨B, 0, none⟩ = some (.int .i64 k.n) ∧ w.cell? ⟨B, 1, none⟩ = some (.int .i64 k.c) ∧ w.cell? ⟨B, 2, none⟩ = some (.bool k.s) ∧ w.frozen? ⟨B, 1, none⟩ = false ∧ w.frozen? ⟨B, 2, none⟩ = false ∧ B < w.heap.size := by
  have hlt := h.lt
  unfold Fl at h
  refine ⟨?_, ?_, ?_, ?_, ?_, hlt⟩ <;> simp [World.cell?, World.frozen?, h]
theorem Fl.count {w : World} {B : Nat} {n c : Int} {s : Bool} (h : Fl w B ⟨n, c, s⟩) (d : Int) : Fl (w.setCell ⟨B, 1, none⟩ (.int .i64 d)) B ⟨n, d, s⟩ := by
  unfold Fl at *
  simp [World.setCell, Array.getElem?_modify, h]
theorem Fl.state {w : World} {B : Nat} {n c : Int} {s : Bool} (h : Fl w B ⟨n, c, s⟩) (t : Bool) : Fl (w.setCell ⟨B, 2, none⟩ (.bool t)) B ⟨n, c, t⟩ := by
  unfold Fl at *
  simp [World.setCell, Array.getElem?_modify, h]
theorem Fl.drewN {w : World} {B : Nat} {k : FK} (h : Fl w B k) (m : Nat) : Fl (w.drewN m) B k := h
theorem Fl.only {w w' : World} {B C : Nat} {k : FK} (h : Fl w C k) (hb : Only B w w') (hn : C ≠ B) : Fl w' C k := hb.row h hn
theorem Fl.below {w w' : World} {C : Nat} {k : FK} (h : Fl w C k) (hb : Below w.heap.size w w') : Fl w' C k := by
  unfold Fl at *
  rw [hb.block C (Array.getElem?_eq_some_iff.1 h).1]; exact h
theorem stateC (B : Nat) (k : FK) (w : World) (h : Fl w B k) :
    Calls Try.prog 39 #[.pointer (some ⟨B, 0, none⟩)] w fun e w' => e = .returned (.bool k.s) ∧ w = w' := by
  obtain ⟨h0, h1, h2, h3, h4, h5⟩ := h.cells
  clear h
  go_enter Try.func39, Try.ntmps39
  go_wp2
  go_ret
  exact ⟨rfl, rfl⟩
theorem forceC (B : Nat) (k : FK) (t : Bool) (w : World) (h : Fl w B k) :
    Calls Try.prog 42 #[.pointer (some ⟨B, 0, none⟩), .bool t] w fun e w' => e = .returned (.tuple #[]) ∧ Fl w' B ⟨k.n, 0, t⟩ ∧ Only B w w' := by
  have H := Lib.hid h
  obtain ⟨h0, h1, h2, h3, h4, h5⟩ := h.cells
  clear h
  go_enter Try.func42, Try.ntmps42
  go_wp2
  go_end0
  exact ⟨rfl, (H.out.state t).count 0, (Only.set _ _ _ _).trans (Only.set _ _ _ _)⟩
def cut1 (n : Int) : Int := max (min n 1000) 1
theorem newC (n : Int) (w : World) :
    Calls Try.prog 38 #[.int .i64 n] w fun e w' => e = .returned (.pointer (some ⟨w.heap.size, 0, none⟩)) ∧ Fl w' w.heap.size ⟨cut1 n, 0, false⟩ ∧ Below w.heap.size w w' := by
  unfold cut1
  by_cases h1 : n ≤ 1000
  · by_cases h2 : 1 ≤ n
    · rw [show max (min n 1000) 1 = n by omega]
      go_enter Try.func38, Try.ntmps38
      go_wp2
      all_goals
        go_ret
        refine ⟨rfl, ?_, (Below.refl _ _).alloc (Nat.le_refl _) _⟩
        unfold Fl
        show (w.heap.push _)[w.heap.size]? = _
        simp
        try omega
    · rw [show max (min n 1000) 1 = 1 by omega]
      go_enter Try.func38, Try.ntmps38
      go_wp2
      all_goals
        go_ret
        refine ⟨rfl, ?_, (Below.refl _ _).alloc (Nat.le_refl _) _⟩
        unfold Fl
        show (w.heap.push _)[w.heap.size]? = _
        simp
        try omega
  · rw [show max (min n 1000) 1 = 1000 by omega]
    go_enter Try.func38, Try.ntmps38
    go_wp2
    all_goals
      go_ret
      refine ⟨rfl, ?_, (Below.refl _ _).alloc (Nat.le_refl _) _⟩
      unfold Fl
      show (w.heap.push _)[w.heap.size]? = _
      simp
      try omega
theorem stepC (B : Nat) (k : FK) (i : Bool) (hc : 0 ≤ k.c) (hc2 : k.c ≤ 1000000) (w : World) (h : Fl w B k) :
    Calls Try.prog 40 #[.pointer (some ⟨B, 0, none⟩), .bool i] w fun e w' => e = .returned (.bool (k.step i).s) ∧ Fl w' B (k.step i) ∧ Only B w w' := by
  have H := Lib.hid h
  obtain ⟨h0, h1, h2, h3, h4, h5⟩ := h.cells
  clear h
  obtain ⟨n, c, s⟩ := k
  simp only [] at hc hc2 h0 h1 h2
  unfold FK.step
  simp only []
  cases hs : (i == s)
  · simp only [Bool.false_eq_true, if_false]
    by_cases hn : n ≤ c + 1
    · rw [if_pos hn]
      go_enter Try.func40, Try.ntmps40
      go_wp2
      go_quiet (fail)
      go_wp2_with fail
      refine (forceC B ⟨n, c + 1, s⟩ i _ ((H.out.count (c + 1)).drewN _)).mono ?_
      rintro e w1 ⟨rfl, H1, hb⟩
      have h6 := H1.cells.2.2.1
      have HH := Lib.hid H1
      clear H1
      go_wp2
      go_ret
      exact ⟨rfl, HH.out, ((Only.set _ _ _ _).trans (Only.drewN _ _ _)).trans hb⟩
    · rw [if_neg hn]
      go_enter Try.func40, Try.ntmps40
      go_wp2
      go_quiet (fail)
      go_wp2
      go_ret
      exact ⟨rfl, H.out.count (c + 1), (Only.set _ _ _ _).trans (Only.drewN _ _ _)⟩
  · simp only [if_true]
    go_enter Try.func40, Try.ntmps40
    go_wp2
    go_ret
    exact ⟨rfl, H.out.count 0, Only.set _ _ _ _⟩
theorem FK.bounds (k : FK) (i : Bool) (m : Int) (h0 : 0 ≤ k.c) (h1 : k.c ≤ m) : 0 ≤ (k.step i).c ∧ (k.step i).c ≤ m + 1 := by
  unfold FK.step
  split
  · exact ⟨show (0 : Int) ≤ 0 by omega, show (0 : Int) ≤ m + 1 by omega⟩
  · split
    · exact ⟨show (0 : Int) ≤ 0 by omega, show (0 : Int) ≤ m + 1 by omega⟩
    · exact ⟨show 0 ≤ k.c + 1 by omega, show k.c + 1 ≤ m + 1 by omega⟩
end Go.Proofs.Ytcphpaacgkfkbaa
