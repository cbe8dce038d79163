/- ContactOpens holds: each call returns true. Conditions: the arguments are numbers of 64 bits. -/
import Derived.Test.YtbgjfcnaiahehaaConH
namespace Go.Proofs.Ytbgjfcnaiahehaa
open Go.RowKit
set_option linter.unusedVariables false
/-- Behind i cycles in which it is told to close, and does. -/
def kA (D : Int) : Nat → CK
  | 0 => ⟨D, 1000, false, -2, 0, 0, false, false, false⟩
  | i + 1 => ⟨D, 1000, true, i, 0, 1, true, false, false⟩
/-- Behind j cycles in which it is told to open, and does. -/
def kB (D : Int) : Nat → CK
  | 0 => ⟨D, 1000, true, 4, 0, 1, true, false, false⟩
  | j + 1 => ⟨D, 1000, false, j, 0, 0, true, false, false⟩
theorem kA_step (D : Int) (i : Nat) (hi : i ≤ 900) : (kA D i).step true 1 true = kA D (i + 1) := by
  cases i with
  | zero => rfl
  | succ i =>
    show (⟨D, 1000, true, min ((i : Int) + 1) 1000, 0, 1, true, false, false⟩ : CK) = ⟨D, 1000, true, ((i + 1 : Nat) : Int), 0, 1, true, false, false⟩
    rw [show min ((i : Int) + 1) 1000 = ((i + 1 : Nat) : Int) by omega]
theorem kB_step (D : Int) (i : Nat) (hi : i ≤ 900) : (kB D i).step false 0 true = kB D (i + 1) := by
  cases i with
  | zero => rfl
  | succ i =>
    show (⟨D, 1000, false, min ((i : Int) + 1) 1000, 0, 0, true, false, false⟩ : CK) = ⟨D, 1000, false, ((i + 1 : Nat) : Int), 0, 0, true, false, false⟩
    rw [show min ((i : Int) + 1) 1000 = ((i + 1 : Nat) : Int) by omega]
theorem kA_in (D : Int) (i : Nat) (hi : i ≤ 900) : -2 ≤ (kA D i).s ∧ (kA D i).s ≤ 1000 ∧ (kA D i).g = 0 := by
  cases i with
  | zero => exact ⟨show (-2 : Int) ≤ -2 by omega, show (-2 : Int) ≤ 1000 by omega, rfl⟩
  | succ i => exact ⟨show -2 ≤ (i : Int) by omega, show (i : Int) ≤ 1000 by omega, rfl⟩
theorem kB_in (D : Int) (i : Nat) (hi : i ≤ 900) : -2 ≤ (kB D i).s ∧ (kB D i).s ≤ 1000 ∧ (kB D i).g = 0 := by
  cases i with
  | zero => exact ⟨show (-2 : Int) ≤ 4 by omega, show (4 : Int) ≤ 1000 by omega, rfl⟩
  | succ i => exact ⟨show -2 ≤ (i : Int) by omega, show (i : Int) ≤ 1000 by omega, rfl⟩
theorem kB_last (D : Int) (i : Nat) (hD : 0 < D) : (kB D (i + 1)).step true 0 true = ⟨D, 1000, true, 0, 0, 0, true, false, false⟩ := by
  show CK.judge ⟨D, 1000, true, 0, 0, 0, true, false, false⟩ true = _
  rw [judge_fresh1 _ _ rfl (by show (_ || decide (0 < D)) = true; rw [decide_eq_true hD]; simp)]
set_option maxRecDepth 100000 in
set_option maxHeartbeats 8000000 in
theorem walkContactOpens (a0 a1 : Int) (w : World) (_w0 : (Lit.int .i64 a0).wf = true) (_w1 : (Lit.int .i64 a1).wf = true) :
    Calls Try.prog 3 #[.int .i64 a0, .int .i64 a1] w fun e w' => e = .returned (.bool true) ∧ Below w.heap.size w w' := by
  clear _w0 _w1
  have hn1 := Int.emod_nonneg a0 (show (30 : Int) ≠ 0 by omega)
  have hn2 := Int.emod_lt_of_pos a0 (show (0 : Int) < 30 by omega)
  have N0 := Lib.hid fun (w : World) => numberB a0 30 (by omega) (by omega) w
  have hm1 := Int.emod_nonneg a1 (show (70 : Int) ≠ 0 by omega)
  have hm2 := Int.emod_lt_of_pos a1 (show (0 : Int) < 70 by omega)
  have N1 := Lib.hid fun (w : World) => numberB a1 70 (by omega) (by omega) w
  generalize a0 % 30 = d0 at *
  generalize a1 % 70 = n0 at *
  obtain ⟨d, rfl⟩ := Int.eq_ofNat_of_zero_le hn1
  obtain ⟨n, rfl⟩ := Int.eq_ofNat_of_zero_le hm1
  have hd : d < 30 := by omega
  have hn : n < 70 := by omega
  clear hn1 hn2 hm1 hm2
  go_enter Try.func3, Try.ntmps3
  go_wp2_with fail
  refine (first16 _).mono ?_
  rintro e w0 ⟨rfl, hb0⟩
  have T0 := Lib.hid hb0
  clear hb0
  go_wp2_with fail
  refine (N0.out _).mono ?_; rintro e w' ⟨rfl, rfl⟩; go_wp2_with fail
  refine (N1.out _).mono ?_; rintro e w' ⟨rfl, rfl⟩; go_wp2_with fail
  refine (newC ((d : Int) + 1) 1000 _).mono ?_
  rintro e w1 ⟨rfl, H1, hb⟩
  rw [cutc_in _ (by omega) (by omega), cutc_in 1000 (by omega) (by omega)] at H1
  have F1 : Hid (Ct w1 w0.heap.size (kA ((d : Int) + 1) 0)) := Lib.hid H1
  have T1 := Lib.hid (T0.out.trans (hb.mono T0.out.size))
  have SB := Lib.hid T0.out.size
  clear H1 hb T0
  generalize w0.heap.size = B at *
  have LB := Lib.hid F1.out.lt
  have M1 := Lib.hid (Sm.new w1 0 true)
  have F2 := Lib.hid (F1.out.alloc (.cells #[.int .i64 0, .bool true] 27))
  have T2 := Lib.hid (T1.out.alloc T1.out.size (.cells #[.int .i64 0, .bool true] 27))
  obtain ⟨w2, hw2⟩ : ∃ w2, w2 = w1.alloc (.cells #[.int .i64 0, .bool true] 27) := ⟨_, rfl⟩
  have O3 := Lib.hid ((Below.refl w2.heap.size w2).alloc (Nat.le_refl _) (.cells #[.int .i64 1, .bool true] 27))
  have SZ : w2.heap.size = w1.heap.size + 1 := by rw [hw2]; show (w1.heap.push _).size = _; simp
  have M2 : Hid (Sm (w2.alloc (.cells #[.int .i64 1, .bool true] 27)) (w1.heap.size + 1) 1 true) := Lib.hid (by have := Sm.new w2 1 true; rw [SZ] at this; exact this)
  have F3 : Hid (Ct (w2.alloc (.cells #[.int .i64 1, .bool true] 27)) B (kA ((d : Int) + 1) 0)) := Lib.hid (by rw [hw2]; exact F2.out.alloc _)
  have M3 : Hid (Sm (w2.alloc (.cells #[.int .i64 1, .bool true] 27)) w1.heap.size 0 true) := Lib.hid (by have := M1.out; rw [← hw2] at this; exact this.below O3.out)
  have T3 : Hid (Below w.heap.size w (w2.alloc (.cells #[.int .i64 1, .bool true] 27))) := Lib.hid (by have := T2.out; rw [← hw2] at this; exact this.alloc this.size _)
  have EQ := Lib.hid hw2
  clear F1 F2 T1 T2 M1 O3 SZ
  go_wp2_with fail
  rw [← EQ.out]
  clear EQ hw2
  generalize w1.heap.size = S1 at *
  have NE1 : Hid (S1 ≠ B) := Lib.hid (by have := LB.out; omega)
  have NE2 : Hid (S1 + 1 ≠ B) := Lib.hid (by have := LB.out; omega)
  generalize World.alloc w2 _ = w3 at F3 M2 M3 T3 ⊢
  go_loopw [9] (fun v wr => ∃ i : Nat, i ≤ 5 ∧ v = .int .i64 i ∧ Ct wr B (kA ((d : Int) + 1) i) ∧ Sm wr S1 0 true ∧ Sm wr (S1 + 1) 1 true ∧ Below w.heap.size w wr) (fun v _ => 5 - (intOf v).toNat)
  case atStart => exact ⟨0, by omega, rfl, F3.out, M3.out, M2.out, T3.out⟩
  case round =>
    obtain ⟨i, hi, rfl, hf, hs1, hs2, hb⟩ := hrel
    clear F3 M3 M2 T3
    have F := Lib.hid hf
    have M1 := Lib.hid hs1
    have M2 := Lib.hid hs2
    have T := Lib.hid hb
    clear hf hs1 hs2 hb
    by_cases h5 : i < 5
    · have c0 := M2.out.cells.1
      have c1 := M2.out.cells.2.1
      have KI := Lib.hid (kA_in ((d : Int) + 1) i (by omega))
      have KE := Lib.hid (kA_step ((d : Int) + 1) i (by omega))
      go_wp2_with fail
      refine (stepC B _ true 1 true KI.out.1 KI.out.2.1 (by have := KI.out.2.2; omega) (by have := KI.out.2.2; omega) _ F.out).mono ?_
      rintro e w4 ⟨rfl, H4, hb⟩
      rw [KE.out] at H4
      have F4 := Lib.hid H4
      have M14 := Lib.hid (M1.out.only hb NE1.out)
      have M24 := Lib.hid (M2.out.only hb NE2.out)
      have T4 := Lib.hid (T.out.trans (hb.below SB.out T.out.size))
      clear H4 hb c0 c1
      go_wp2_with fail
      go_roundw
      case rel => exact ⟨i + 1, by omega, by go_num, F4.out, M14.out, M24.out, T4.out⟩
      case measure => simp [intOf]; omega
    · obtain rfl : i = 5 := by omega
      clear h5 hi
      have F : Hid (Ct wr B (kB ((d : Int) + 1) 0)) := F
      go_wp2_with fail
      refine (openC B _ _ F.out).mono ?_
      rintro e w4 ⟨he, hb⟩
      rw [show CK.op (kB ((d : Int) + 1) 0) = false from rfl] at he
      subst he
      have F4 := Lib.hid (F.out.below hb)
      have M14 := Lib.hid (M1.out.below hb)
      have T4 := Lib.hid (T.out.trans (hb.mono T.out.size))
      clear hb F M1 M2 T
      go_wp2_with fail
      refine (closedC B _ _ F4.out).mono ?_
      rintro e w5 ⟨he, rfl⟩
      rw [show CK.cl (kB ((d : Int) + 1) 0) = true from rfl] at he
      subst he
      go_wp2_with fail
      go_loopw [10] (fun v wr => ∃ j : Nat, j ≤ n + 1 ∧ v = .int .i64 j ∧ Ct wr B (kB ((d : Int) + 1) j) ∧ Sm wr S1 0 true ∧ Below w.heap.size w wr) (fun v _ => n + 1 - (intOf v).toNat)
      case atStart => exact ⟨0, by omega, rfl, F4.out, M14.out, T4.out⟩
      case round =>
        obtain ⟨j, hj, rfl, hf, hs1, hb⟩ := hrel
        clear F4 M14 T4
        have F := Lib.hid hf
        have M1 := Lib.hid hs1
        have T := Lib.hid hb
        clear hf hs1 hb
        have c0 := M1.out.cells.1
        have c1 := M1.out.cells.2.1
        have KI := Lib.hid (kB_in ((d : Int) + 1) j (by omega))
        by_cases hl : j ≤ n
        · have KE := Lib.hid (kB_step ((d : Int) + 1) j (by omega))
          have KO : Hid (CK.op (kB ((d : Int) + 1) (j + 1)) = decide ((d : Int) + 1 ≤ j)) := Lib.hid (by
            show (decide ((d : Int) + 1 ≤ (j : Int)) && true && true) = _
            simp)
          have KC : Hid (CK.cl (kB ((d : Int) + 1) (j + 1)) = false) := Lib.hid rfl
          by_cases hd2 : (d : Int) + 1 ≤ j
          · rw [decide_eq_true hd2] at KO
            go_wp2_with fail
            refine (stepC B _ false 0 true KI.out.1 KI.out.2.1 (by have := KI.out.2.2; omega) (by have := KI.out.2.2; omega) _ F.out).mono ?_
            rintro e w6 ⟨rfl, H6, hb⟩
            rw [KE.out] at H6
            have F6 := Lib.hid H6
            have M6 := Lib.hid (M1.out.only hb NE1.out)
            have T6 := Lib.hid (T.out.trans (hb.below SB.out T.out.size))
            clear H6 hb c0 c1
            go_wp2_with fail
            refine (openC B _ _ F6.out).mono ?_
            rintro e w7 ⟨he, hb⟩
            rw [KO.out] at he
            subst he
            have F7 := Lib.hid (F6.out.below hb)
            have M7 := Lib.hid (M6.out.below hb)
            have T7 := Lib.hid (T6.out.trans (hb.mono T6.out.size))
            clear hb F6 M6 T6
            go_wp2_with fail
            refine (closedC B _ _ F7.out).mono ?_
            rintro e w8 ⟨he, rfl⟩
            rw [KC.out] at he
            subst he
            go_wp2_with fail
            go_roundw
            case rel => exact ⟨j + 1, by omega, by go_num, F7.out, M7.out, T7.out⟩
            case measure => simp [intOf]; omega
          · rw [decide_eq_false hd2] at KO
            go_wp2_with fail
            refine (stepC B _ false 0 true KI.out.1 KI.out.2.1 (by have := KI.out.2.2; omega) (by have := KI.out.2.2; omega) _ F.out).mono ?_
            rintro e w6 ⟨rfl, H6, hb⟩
            rw [KE.out] at H6
            have F6 := Lib.hid H6
            have M6 := Lib.hid (M1.out.only hb NE1.out)
            have T6 := Lib.hid (T.out.trans (hb.below SB.out T.out.size))
            clear H6 hb c0 c1
            go_wp2_with fail
            refine (openC B _ _ F6.out).mono ?_
            rintro e w7 ⟨he, hb⟩
            rw [KO.out] at he
            subst he
            have F7 := Lib.hid (F6.out.below hb)
            have M7 := Lib.hid (M6.out.below hb)
            have T7 := Lib.hid (T6.out.trans (hb.mono T6.out.size))
            clear hb F6 M6 T6
            go_wp2_with fail
            refine (closedC B _ _ F7.out).mono ?_
            rintro e w8 ⟨he, rfl⟩
            rw [KC.out] at he
            subst he
            go_wp2_with fail
            go_roundw
            case rel => exact ⟨j + 1, by omega, by go_num, F7.out, M7.out, T7.out⟩
            case measure => simp [intOf]; omega
        · obtain rfl : j = n + 1 := by omega
          clear hl hj
          have KE := Lib.hid (kB_last ((d : Int) + 1) n (by omega))
          go_wp2_with fail
          refine (stepC B _ true 0 true KI.out.1 KI.out.2.1 (by have := KI.out.2.2; omega) (by have := KI.out.2.2; omega) _ F.out).mono ?_
          rintro e w6 ⟨rfl, H6, hb⟩
          rw [KE.out] at H6
          have F6 := Lib.hid H6
          have T6 := Lib.hid (T.out.trans (hb.below SB.out T.out.size))
          clear H6 hb c0 c1
          go_wp2_with fail
          refine (jamC B _ _ F6.out).mono ?_
          rintro e w7 ⟨rfl, hb⟩
          have F7 := Lib.hid (F6.out.below hb)
          have T7 := Lib.hid (T6.out.trans (hb.mono T6.out.size))
          clear hb
          go_wp2_with fail
          refine (openC B _ _ F7.out).mono ?_
          rintro e w8 ⟨he, hb⟩
          rw [show CK.op ⟨(d : Int) + 1, 1000, true, 0, 0, 0, true, false, false⟩ = false from rfl] at he
          subst he
          have T8 := Lib.hid (T7.out.trans (hb.mono T7.out.size))
          clear hb
          go_wp2_with fail
          go_ret
          exact ⟨rfl, T8.out⟩
end Go.Proofs.Ytbgjfcnaiahehaa
