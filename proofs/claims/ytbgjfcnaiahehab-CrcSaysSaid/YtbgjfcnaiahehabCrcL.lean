/- CrcFinds holds: each call returns true. Conditions: the arguments are numbers of their kinds and a slice of bytes. -/
import Derived.Test.YtbgjfcnaiahehabCrcC
import Derived.Test.YtbgjfcnaiahehabCrcF
import Derived.Laws.Append
namespace Go.Proofs.Ytbgjfcnaiahehab
open Go.RowKit
set_option linter.unusedVariables false
/-- A row of the call's own at block C: its first n bytes. -/
def Mine (w : World) (C n : Nat) (X : Nat → BitVec 8) : Prop := ∃ arr t, w.heap[C]? = some (.cells arr t (0, 0)) ∧ ∀ j, j < n → arr[j]? = some (.int .u8 (u8v (X j)))
theorem Mine.cell {w : World} {C n : Nat} {X : Nat → BitVec 8} (h : Mine w C n X) (j : Nat) (hj : j < n) : w.cell? ⟨C, j, none⟩ = some (.int .u8 (u8v (X j))) ∧ w.frozen? ⟨C, j, none⟩ = false := by
  obtain ⟨arr, t, h1, h3⟩ := h
  exact ⟨by simp [World.cell?, h1, h3 j hj], by simp [World.frozen?, h1]⟩
theorem Mine.set {w : World} {C n : Nat} {X : Nat → BitVec 8} (h : Mine w C n X) (i : Nat) (hi : i < n) (v : BitVec 8) (Y : Nat → BitVec 8) (hY : ∀ j, j < n → Y j = if j = i then v else X j) :
    Mine (w.setCell ⟨C, i, none⟩ (.int .u8 (u8v v))) C n Y := by
  obtain ⟨arr, t, h1, h3⟩ := h
  have hl := (Array.getElem?_eq_some_iff.1 (h3 i hi)).1
  refine ⟨arr.setIfInBounds i (.int .u8 (u8v v)), t, by simp [World.setCell, Array.getElem?_modify, h1], fun j hj => ?_⟩
  rw [Array.getElem?_setIfInBounds, hY j hj]
  by_cases hji : i = j
  · subst hji; simp [hl]
  · rw [if_neg hji, if_neg (fun e => hji e.symm)]; exact h3 j hj
theorem Mine.row {w : World} {C n : Nat} {X : Nat → BitVec 8} (h : Mine w C n X) : Row8 w (some ⟨C, 0, none⟩) n X := by
  intro i hi
  refine ⟨_, rfl, ?_⟩
  have e : (⟨C, 0, none⟩ : Addr).add i = ⟨C, i, none⟩ := by simp [Addr.add]; exact fun h => h.symm
  rw [e]
  exact (h.cell i hi).1
theorem mine_new (w : World) (n : Nat) (zs : Array Value) (e : TypeId) (X : Nat → BitVec 8) :
    Mine (w.alloc (.cells (((List.range n).map fun i => Value.int .u8 (u8v (X i))).toArray ++ zs) e)) w.heap.size n X := by
  refine ⟨_, e, by show (w.heap.push _)[w.heap.size]? = _; simp; rfl, fun j hj => ?_⟩
  rw [Array.getElem?_append_left (by simpa using hj)]
  simp [hj]
theorem mine_set (w : World) (n : Nat) (zs : Array Value) (e : TypeId) (X : Nat → BitVec 8) (i : Nat) (hi : i < n) (v : BitVec 8) :
    Mine ((w.alloc (.cells ((((List.range n).map fun i => Value.int .u8 (u8v (X i))).toArray ++ zs).setIfInBounds i (.int .u8 (u8v (X i ^^^ v)))) e)).drew) w.heap.size n (fun t => X t ^^^ (if t = i then v else 0)) := by
  refine ⟨_, e, by show (w.heap.push _)[w.heap.size]? = _; simp; rfl, fun j hj => ?_⟩
  rw [Array.getElem?_setIfInBounds]
  by_cases hji : i = j
  · subst hji
    rw [if_pos rfl, if_pos (by simp; omega)]
    simp
  · have hji' : ¬ j = i := fun h => hji h.symm
    rw [if_neg hji, Array.getElem?_append_left (by simpa using hj)]
    simp [hj, hji']
set_option maxRecDepth 100000 in
set_option maxHeartbeats 8000000 in
theorem walkCrcFinds (a0 : Int) (a1 : Option Addr) (len1 cap1 : Nat) (z1 : List Int) (a2 : Int) (a3 : Int) (w : World) (w0 : (Lit.int .u16 a0).wf = true) (w1 : CameI .u8 w a1 len1 cap1 z1) (_w2 : (Lit.int .i64 a2).wf = true) (_w3 : (Lit.int .i64 a3).wf = true) :
    Calls Try.prog 6 #[.int .u16 a0, .slice a1 len1 cap1, .int .i64 a2, .int .i64 a3] w fun e w' => e = .returned (.bool true) ∧ Below w.heap.size w w' := by
  obtain ⟨s, rfl⟩ : ∃ s, a0 = u16v s := ⟨_, (u16_back _ w0).symm⟩
  have HX := Lib.hid (Row8.of_came w1)
  generalize (fun i => BitVec.ofInt 8 (z1.getD i 0)) = X at HX
  clear w0 _w2 _w3
  by_cases hz : len1 = 0
  · have e0 : ((len1 : Int) == 0) = true := by rw [beq_iff_eq]; omega
    go_enter Try.func6, Try.ntmps6
    go_wp2_with fail
    refine (first5 _).mono ?_
    rintro e w' ⟨rfl, rfl⟩
    go_wp2_with fail
    go_ret
    exact ⟨rfl, Below.refl _ _⟩
  have e0 : ((len1 : Int) == 0) = false := by rw [beq_eq_false_iff_ne]; omega
  by_cases h3 : 300 < len1
  · go_enter Try.func6, Try.ntmps6
    go_wp2_with fail
    refine (first5 _).mono ?_
    rintro e w' ⟨rfl, rfl⟩
    go_wp2_with fail
    go_ret
    exact ⟨rfl, Below.refl _ _⟩
  obtain ⟨p, rfl⟩ : ∃ p, a1 = some p := by
    rcases w1 with ⟨_, rfl, _⟩ | ⟨p, rfl, _⟩
    · exact absurd rfl hz
    · exact ⟨p, rfl⟩
  clear w1
  have hi1 := Int.emod_nonneg a2 (show 8 * (len1 : Int) ≠ 0 by omega)
  have hi2 := Int.emod_lt_of_pos a2 (show (0 : Int) < 8 * (len1 : Int) by omega)
  have hk1 := Int.emod_nonneg a3 (show 8 * (len1 : Int) ≠ 0 by omega)
  have hk2 := Int.emod_lt_of_pos a3 (show (0 : Int) < 8 * (len1 : Int) by omega)
  have N0 := Lib.hid fun (w : World) => numberB a2 (8 * (len1 : Int)) (by omega) (by omega) w
  have N1 := Lib.hid fun (w : World) => numberB a3 (8 * (len1 : Int)) (by omega) (by omega) w
  generalize a2 % (8 * (len1 : Int)) = i0 at *
  generalize a3 % (8 * (len1 : Int)) = k0 at *
  obtain ⟨i, rfl⟩ := Int.eq_ofNat_of_zero_le hi1
  obtain ⟨k, rfl⟩ := Int.eq_ofNat_of_zero_le hk1
  clear hi1 hk1
  have W1 := Lib.hid ((Below.refl w.heap.size w).alloc (Nat.le_refl _) (.cells #[] 5))
  have ld : (loadCellsFrom p 0 len1 #[]).run Try.prog (w.alloc (.cells #[] 5)).drew = .ok ((List.range len1).map fun i => Value.int .u8 (u8v (X i))).toArray (w.alloc (.cells #[] 5)).drew := by
    have := run_loadCells_list (P := Try.prog) (w.alloc (.cells #[] 5)).drew p ((List.range len1).map fun i => Value.int .u8 (u8v (X i))) (fun j v hv => by
      have hj : j < len1 := by
        have := (List.getElem?_eq_some_iff.1 hv).1
        simpa using this
      obtain ⟨x, hx, hc⟩ := HX.out j hj
      cases hx
      have hv' : v = .int .u8 (u8v (X j)) := by simpa [hj] using hv.symm
      rw [hv']
      exact below_cell W1.out.drew hc)
    simpa [loadCells] using this
  have ar : ∀ zs : Array Value, (((List.range len1).map fun i => Value.int .u8 (u8v (X i))).toArray ++ zs)[i / 8]? = some (.int .u8 (u8v (X (i / 8)))) := fun zs => by
    have hj : i / 8 < len1 := by omega
    rw [Array.getElem?_append_left (by simpa using hj)]
    simp [hj]
  have fz : ¬ (281474976710656 < Builtin.nextslicecap len1 0 * Try.t5.bytes) := by
    rw [show Try.t5.bytes = 1 by kernel_rfl]
    unfold Builtin.nextslicecap
    rw [if_pos (by omega)]
    omega
  have f1 : (2 : Int) ^ (i % 8) % 256 = u8v (oneB (i % 8)) := by
    have := u8_one ⟨i % 8, by omega⟩
    rwa [IntKind.wrap_u8] at this
  have f2 := u8_xor (X (i / 8)) (oneB (i % 8))
  go_enter Try.func6, Try.ntmps6
  go_wp2_with fail
  refine (first5 _).mono ?_
  rintro e w' ⟨rfl, rfl⟩
  go_wp2_with fail
  refine (N0.out _).mono ?_
  rintro e w' ⟨rfl, rfl⟩
  go_wp2_with fail
  refine (N1.out _).mono ?_
  rintro e w' ⟨rfl, rfl⟩
  go_wp2_with fail
  have HS : (w.alloc (.cells #[] 5)).heap.size = w.heap.size + 1 := by show (w.heap.push _).size = _; simp
  have M0 := Lib.hid (mine_set (w.alloc (.cells #[] 5)) len1 (Builtin.zeroCells #[.int .u8 0] ((Question.appendCap len1 0 5).cut (w.tape w.drawn (Question.appendCap len1 0 5)) - len1)) 5 X (i / 8) (by omega) (oneB (i % 8)))
  have B0 := Lib.hid ((W1.out.alloc W1.out.size (.cells ((((List.range len1).map fun i => Value.int .u8 (u8v (X i))).toArray ++ Builtin.zeroCells #[.int .u8 0] ((Question.appendCap len1 0 5).cut (w.tape w.drawn (Question.appendCap len1 0 5)) - len1)).setIfInBounds (i / 8) (.int .u8 (u8v (X (i / 8) ^^^ oneB (i % 8))))) 5)).drew)
  rw [HS] at M0
  generalize World.drew _ = W2 at M0 B0 ⊢
  generalize (Question.appendCap len1 0 5).cut (w.tape w.drawn (Question.appendCap len1 0 5)) = K at *
  obtain ⟨C, hC⟩ : ∃ C, w.heap.size + 1 = C := ⟨_, rfl⟩
  rw [hC] at M0 ⊢
  have M0 : Hid (Mine W2 C len1 (fun t => X t ^^^ flip (i / 8) (i % 8) t)) := M0
  have HC := Lib.hid hC
  clear hC HS ar ld W1
  refine (moreC s _ len1 K _ (by omega) _ M0.out.row).mono ?_
  rintro e w' ⟨rfl, rfl⟩
  have RX := Lib.hid (HX.out.below B0.out)
  have q1 : (u16v (crcN s (fun t => X t ^^^ flip (i / 8) (i % 8) t) len1) == u16v (crcN s X len1)) = false := by
    rw [u16_ne]
    exact decide_eq_false (one_flip s X (i / 8) (i % 8) len1 (by omega) (by omega))
  have TW := Lib.hid fun h => two_flips s X (i / 8) (i % 8) (k / 8) (k % 8) len1 (by omega) (by omega) (by omega) (by omega) (by omega) h
  generalize crcN s (fun t => X t ^^^ flip (i / 8) (i % 8) t) len1 = g1 at q1 ⊢
  go_wp2_with fail
  refine (moreC s _ len1 cap1 _ (by omega) _ RX.out).mono ?_
  rintro e w' ⟨rfl, rfl⟩
  by_cases hik : i = k
  · have q2 : ((i : Int) != (k : Int)) = false := by subst hik; simp
    go_wp2_with fail
    go_ret
    exact ⟨rfl, B0.out⟩
  · have q2 : ((i : Int) != (k : Int)) = true := by rw [bne_iff_ne]; omega
    have d1 := (M0.out.cell (k / 8) (by omega)).1
    have d2 := (M0.out.cell (k / 8) (by omega)).2
    have f1 : (2 : Int) ^ (k % 8) % 256 = u8v (oneB (k % 8)) := by
      have := u8_one ⟨k % 8, by omega⟩
      rwa [IntKind.wrap_u8] at this
    have f2 := u8_xor (X (k / 8) ^^^ flip (i / 8) (i % 8) (k / 8)) (oneB (k % 8))
    have M2 := Lib.hid (M0.out.set (k / 8) (by omega) (X (k / 8) ^^^ flip (i / 8) (i % 8) (k / 8) ^^^ oneB (k % 8)) (fun t => (X t ^^^ flip (i / 8) (i % 8) t) ^^^ flip (k / 8) (k % 8) t) (fun j _ => by
      show (X j ^^^ flip (i / 8) (i % 8) j) ^^^ flip (k / 8) (k % 8) j = _
      by_cases hj : j = k / 8
      · rw [if_pos hj, hj, show flip (k / 8) (k % 8) (k / 8) = oneB (k % 8) by unfold flip; rw [if_pos rfl]]
      · rw [if_neg hj, show flip (k / 8) (k % 8) j = 0 by unfold flip; rw [if_neg hj]]
        simp))
    have B2 := Lib.hid (B0.out.setCell (p := ⟨C, k / 8, none⟩) (by have := HC.out; show w.heap.size ≤ C; omega) (.int .u8 (u8v (X (k / 8) ^^^ flip (i / 8) (i % 8) (k / 8) ^^^ oneB (k % 8)))))
    have q3 : (u16v (crcN s (fun t => (X t ^^^ flip (i / 8) (i % 8) t) ^^^ flip (k / 8) (k % 8) t) len1) == u16v (crcN s X len1)) = false := by
      rw [u16_ne]
      exact decide_eq_false (TW.out (by omega))
    generalize X (k / 8) ^^^ flip (i / 8) (i % 8) (k / 8) = x8 at *
    go_wp2_with fail
    refine (moreC s _ len1 K _ (by omega) _ M2.out.row).mono ?_
    rintro e w' ⟨rfl, rfl⟩
    have RY := Lib.hid (HX.out.below B2.out)
    go_wp2_with fail
    refine (moreC s _ len1 cap1 _ (by omega) _ RY.out).mono ?_
    rintro e w' ⟨rfl, rfl⟩
    go_wp2_with fail
    go_ret
    exact ⟨rfl, B2.out⟩
end Go.Proofs.Ytbgjfcnaiahehab
