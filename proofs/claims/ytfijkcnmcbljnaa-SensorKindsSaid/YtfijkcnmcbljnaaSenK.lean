/- SensorKinds holds: each call returns true. Condition: the argument is a number of 64 bits. -/
import Derived.Test.YtfijkcnmcbljnaaRange
import Derived.Test.YtfijkcnmcbljnaaNum2
import Derived.Test.YtfijkcnmcbljnaaCame
import Derived.Deep.DeepCutAuto
namespace Go.Proofs.Ytfijkcnmcbljnaa
open Go.RowKit
set_option linter.unusedVariables false
theorem first7 (w : World) : Calls Try.prog 22 #[] w fun e w' => e = .returned (.bool true) ∧ Below w.heap.size w w' := by
  have K0 := Lib.hid fun (w : World) => rangeC 0 w
  have K1 := Lib.hid fun (w : World) => rangeC 29 w
  rw [show rangeI 0 = (0, 0, false) from rfl] at K0
  rw [show rangeI 29 = (0, 127, true) from rfl] at K1
  go_enter Try.func22, Try.ntmps22
  go_wp2_with fail
  refine (K0.out _).mono ?_
  rintro e w1 ⟨rfl, hb1⟩
  have B1 := Lib.hid hb1
  clear hb1
  go_wp2_with fail
  refine (K1.out _).mono ?_
  rintro e w2 ⟨rfl, hb2⟩
  have B2 := Lib.hid ((B1.out.alloc B1.out.size _).trans (hb2.mono (by simp; have := B1.out.size; omega)))
  clear hb2
  go_wp2_with fail
  go_ret
  exact ⟨rfl, B2.out.alloc B2.out.size _⟩
theorem addZ (b k : Nat) : (⟨b, 0, none⟩ : Addr).add k = ⟨b, k, none⟩ := by unfold Addr.add; split <;> simp_all
theorem fourth (w : World) (A B C D : Obj) : let W := (((w.alloc A).alloc B).alloc C).alloc D
    W.heap[w.heap.size]? = some A ∧ W.heap[w.heap.size + 1]? = some B ∧ W.heap[w.heap.size + 1 + 1]? = some C ∧ W.heap[w.heap.size + 1 + 1 + 1]? = some D := by
  have a := heap_alloc_new w A
  have b := heap_alloc_new (w.alloc A) B
  have c := heap_alloc_new ((w.alloc A).alloc B) C
  have d := heap_alloc_new (((w.alloc A).alloc B).alloc C) D
  simp only [World.size_alloc] at b c d
  have e : ∀ (u : World) (o : Obj) (k : Nat) (x : Obj), u.heap[k]? = some x → (u.alloc o).heap[k]? = some x := fun u o k x h => (((Below.refl u.heap.size u).alloc (Nat.le_refl _) o).block k (Array.getElem?_eq_some_iff.1 h).1).trans h
  exact ⟨e _ _ _ _ (e _ _ _ _ (e _ _ _ _ a)), e _ _ _ _ (e _ _ _ _ b), e _ _ _ _ c, d⟩
set_option maxHeartbeats 4000000 in
theorem walkSensorKinds (a0 : Int) (w : World) (w0 : (Lit.int .i64 a0).wf = true) :
    Calls Try.prog 8 #[.int .i64 a0] w fun e w' => e = .returned (.bool true) ∧ Below w.heap.size w w' := by
  have N0 := Lib.hid fun (w : World) => numberC a0 10 (by omega) (by omega) w
  obtain ⟨k, hk, hk2⟩ : ∃ k : Nat, a0 % 10 = k ∧ k < 10 := ⟨(a0 % 10).toNat, by omega, by omega⟩
  rw [hk] at N0
  clear hk w0
  go_enter Try.func8, Try.ntmps8
  go_wp2_with fail
  refine (first7 _).mono ?_
  rintro e w1 ⟨rfl, hb1⟩
  have B1 := Lib.hid hb1
  clear hb1
  go_wp2_with fail
  refine (N0.out _).mono ?_
  rintro e w' ⟨rfl, rfl⟩
  obtain ⟨W, hW, hF, hT, hL, hH, hb⟩ : ∃ W, (((w1.alloc (.cells #[.int .i64 1, .int .i64 5, .int .i64 9, .int .i64 12, .int .i64 15, .int .i64 23, .int .i64 25, .int .i64 29, .int .i64 30, .int .i64 46] 3)).alloc (.cells #[.int .i64 5, .int .i64 9, .int .i64 12, .int .i64 15, .int .i64 23, .int .i64 25, .int .i64 29, .int .i64 30, .int .i64 46, .int .i64 48] 3)).alloc (.cells #[.int .i64 0, .int .i64 (-500000), .int .i64 0, .int .i64 0, .int .i64 0, .int .i64 (-500), .int .i64 (-30000), .int .i64 0, .int .i64 0, .int .i64 (-500000)] 2)).alloc (.cells #[.int .i64 60000, .int .i64 500000, .int .i64 60000, .int .i64 500000, .int .i64 6000, .int .i64 1500, .int .i64 30000, .int .i64 127, .int .i64 1, .int .i64 500000] 2) = W ∧ W.heap[w1.heap.size]? = some (.cells #[.int .i64 1, .int .i64 5, .int .i64 9, .int .i64 12, .int .i64 15, .int .i64 23, .int .i64 25, .int .i64 29, .int .i64 30, .int .i64 46] 3 (0, 0)) ∧ W.heap[w1.heap.size + 1]? = some (.cells #[.int .i64 5, .int .i64 9, .int .i64 12, .int .i64 15, .int .i64 23, .int .i64 25, .int .i64 29, .int .i64 30, .int .i64 46, .int .i64 48] 3 (0, 0)) ∧ W.heap[w1.heap.size + 1 + 1]? = some (.cells #[.int .i64 0, .int .i64 (-500000), .int .i64 0, .int .i64 0, .int .i64 0, .int .i64 (-500), .int .i64 (-30000), .int .i64 0, .int .i64 0, .int .i64 (-500000)] 2 (0, 0)) ∧ W.heap[w1.heap.size + 1 + 1 + 1]? = some (.cells #[.int .i64 60000, .int .i64 500000, .int .i64 60000, .int .i64 500000, .int .i64 6000, .int .i64 1500, .int .i64 30000, .int .i64 127, .int .i64 1, .int .i64 500000] 2 (0, 0)) ∧ Below w.heap.size w W := by
    refine ⟨_, rfl, ?_, ?_, ?_, ?_, (((B1.out.alloc B1.out.size _).alloc (by simp; have := B1.out.size; omega) _).alloc (by simp; have := B1.out.size; omega) _).alloc (by simp; have := B1.out.size; omega) _⟩
    · exact fourth w1 _ _ _ _ |>.1
    · exact fourth w1 _ _ _ _ |>.2.1
    · exact fourth w1 _ _ _ _ |>.2.2.1
    · exact fourth w1 _ _ _ _ |>.2.2.2
  rw [hW]
  clear hW
  obtain ⟨a, b, lo, hi, hab, hra, hF', hT', hL', hH'⟩ : ∃ a b lo hi : Int, (1 ≤ a ∧ a ≤ b ∧ b ≤ 48) ∧ (∀ ch, a ≤ ch → ch < b → rangeI ch = (lo, hi, true)) ∧ W.cell? ⟨w1.heap.size, k, none⟩ = some (.int .i64 a) ∧ W.cell? ⟨w1.heap.size + 1, k, none⟩ = some (.int .i64 b) ∧ W.cell? ⟨w1.heap.size + 1 + 1, k, none⟩ = some (.int .i64 lo) ∧ W.cell? ⟨w1.heap.size + 1 + 1 + 1, k, none⟩ = some (.int .i64 hi) := by
    have cF := cell_of_row W _ k _ _ _ hF
    have cT := cell_of_row W _ k _ _ _ hT
    have cL := cell_of_row W _ k _ _ _ hL
    have cH := cell_of_row W _ k _ _ _ hH
    rcases (show k = 0 ∨ k = 1 ∨ k = 2 ∨ k = 3 ∨ k = 4 ∨ k = 5 ∨ k = 6 ∨ k = 7 ∨ k = 8 ∨ k = 9 by omega) with rfl | rfl | rfl | rfl | rfl | rfl | rfl | rfl | rfl | rfl
    · exact ⟨1, 5, 0, 60000, by omega, fun ch h1 h2 => by unfold rangeI; repeat (first | rw [if_pos (by omega)] | rw [if_neg (by omega)]), cF, cT, cL, cH⟩
    · exact ⟨5, 9, (-500000), 500000, by omega, fun ch h1 h2 => by unfold rangeI; repeat (first | rw [if_pos (by omega)] | rw [if_neg (by omega)]), cF, cT, cL, cH⟩
    · exact ⟨9, 12, 0, 60000, by omega, fun ch h1 h2 => by unfold rangeI; repeat (first | rw [if_pos (by omega)] | rw [if_neg (by omega)]), cF, cT, cL, cH⟩
    · exact ⟨12, 15, 0, 500000, by omega, fun ch h1 h2 => by unfold rangeI; repeat (first | rw [if_pos (by omega)] | rw [if_neg (by omega)]), cF, cT, cL, cH⟩
    · exact ⟨15, 23, 0, 6000, by omega, fun ch h1 h2 => by unfold rangeI; repeat (first | rw [if_pos (by omega)] | rw [if_neg (by omega)]), cF, cT, cL, cH⟩
    · exact ⟨23, 25, (-500), 1500, by omega, fun ch h1 h2 => by unfold rangeI; repeat (first | rw [if_pos (by omega)] | rw [if_neg (by omega)]), cF, cT, cL, cH⟩
    · exact ⟨25, 29, (-30000), 30000, by omega, fun ch h1 h2 => by unfold rangeI; repeat (first | rw [if_pos (by omega)] | rw [if_neg (by omega)]), cF, cT, cL, cH⟩
    · exact ⟨29, 30, 0, 127, by omega, fun ch h1 h2 => by unfold rangeI; repeat (first | rw [if_pos (by omega)] | rw [if_neg (by omega)]), cF, cT, cL, cH⟩
    · exact ⟨30, 46, 0, 1, by omega, fun ch h1 h2 => by unfold rangeI; repeat (first | rw [if_pos (by omega)] | rw [if_neg (by omega)]), cF, cT, cL, cH⟩
    · exact ⟨46, 48, (-500000), 500000, by omega, fun ch h1 h2 => by unfold rangeI; repeat (first | rw [if_pos (by omega)] | rw [if_neg (by omega)]), cF, cT, cL, cH⟩
  have q1 : (⟨w1.heap.size, 0, none⟩ : Addr).add k = ⟨w1.heap.size, k, none⟩ := addZ _ _
  have q2 : (⟨w1.heap.size + 1, 0, none⟩ : Addr).add k = ⟨w1.heap.size + 1, k, none⟩ := addZ _ _
  have q3 : (⟨w1.heap.size + 1 + 1, 0, none⟩ : Addr).add k = ⟨w1.heap.size + 1 + 1, k, none⟩ := addZ _ _
  have q4 : (⟨w1.heap.size + 1 + 1 + 1, 0, none⟩ : Addr).add k = ⟨w1.heap.size + 1 + 1 + 1, k, none⟩ := addZ _ _
  rw [← q1] at hF'
  rw [← q2] at hT'
  rw [← q3] at hL'
  rw [← q4] at hH'
  generalize (⟨w1.heap.size, 0, none⟩ : Addr) = pF at *
  generalize (⟨w1.heap.size + 1, 0, none⟩ : Addr) = pT at *
  generalize (⟨w1.heap.size + 1 + 1, 0, none⟩ : Addr) = pL at *
  generalize (⟨w1.heap.size + 1 + 1 + 1, 0, none⟩ : Addr) = pH at *
  have HR := Lib.hid hra
  have HT := Lib.hid hT'
  have HL := Lib.hid hL'
  have HH := Lib.hid hH'
  have HB := Lib.hid hb
  clear hra hT' hL' hH' hb q1 q2 q3 q4 hF hT hL hH
  go_wp2_with fail
  go_loopw [9] (fun v wr => ∃ ch : Int, v = .int .i64 ch ∧ a ≤ ch ∧ ch ≤ b ∧ wr.cell? (pT.add k) = some (.int .i64 b) ∧ wr.cell? (pL.add k) = some (.int .i64 lo) ∧ wr.cell? (pH.add k) = some (.int .i64 hi) ∧ Below w.heap.size w wr) (fun v _ => (b - intOf v).toNat)
  case atStart => exact ⟨a, rfl, by omega, by omega, HT.out, HL.out, HH.out, HB.out⟩
  case round =>
    obtain ⟨ch, rfl, h1, h2, cT, cL, cH, hb⟩ := hrel
    have FT := Lib.hid cT
    have FL := Lib.hid cL
    have FH := Lib.hid cH
    have FB := Lib.hid hb
    clear HT HL HH HB hF' cL cH hb
    by_cases hl : ch < b
    · have K := rangeC ch wr
      rw [HR.out ch h1 hl] at K
      have KH := Lib.hid K
      clear K
      go_wp2_with fail
      refine KH.out.mono ?_
      rintro e w2 ⟨rfl, hb2⟩
      have cL := fun o => cell_alloc (below_cell hb2 FL.out) o
      have cH := fun o => cell_alloc (below_cell hb2 FH.out) o
      have GT := Lib.hid (below_cell hb2 FT.out)
      have GB := Lib.hid (FB.out.trans (hb2.mono FB.out.size))
      have qa : (lo != lo) = false := by simp
      have qb : (hi != hi) = false := by simp
      clear hb2 FT FB cT KH
      go_wp2_with fail
      go_quiet (fail)
      go_wp2_with fail
      go_roundw
      case rel => exact ⟨ch + 1, by go_num, by omega, by omega, cell_alloc GT.out _, cL _, cH _, below_drewN (GB.out.alloc GB.out.size _) _⟩
      case measure => simp [intOf]; omega
    · have K0 := Lib.hid fun (w : World) => rangeC 48 w
      have K1 := Lib.hid fun (w : World) => rangeC (-1) w
      rw [show rangeI 48 = (0, 0, false) from rfl] at K0
      rw [show rangeI (-1) = (0, 0, false) from rfl] at K1
      go_wp2_with fail
      refine (K0.out _).mono ?_
      rintro e w2 ⟨rfl, hb2⟩
      have B2 := Lib.hid (FB.out.trans (hb2.mono FB.out.size))
      clear hb2
      go_wp2_with fail
      refine (K1.out _).mono ?_
      rintro e w3 ⟨rfl, hb3⟩
      have B3 := Lib.hid ((B2.out.alloc B2.out.size _).trans (hb3.mono (by simp; have := B2.out.size; omega)))
      clear hb3
      go_wp2_with fail
      go_ret
      exact ⟨rfl, B3.out.alloc B3.out.size _⟩
end Go.Proofs.Ytfijkcnmcbljnaa
