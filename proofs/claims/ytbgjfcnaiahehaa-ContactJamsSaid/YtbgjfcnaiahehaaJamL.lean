/- ContactJams holds: each call returns true. Conditions: the arguments are numbers of 64 bits and a bool. -/
import Derived.Test.YtbgjfcnaiahehaaJamD
namespace Go.Proofs.Ytbgjfcnaiahehaa
open Go.RowKit
set_option linter.unusedVariables false
theorem Sm.setF {w : World} {S : Nat} {v : Int} {f : Bool} (h : Sm w S v f) (x : Bool) : Sm (w.setCell ⟨S, 1, none⟩ (.bool x)) S v x := by
  unfold Sm at *; simp [World.setCell, Array.getElem?_modify, h]
theorem kJT_g (D L G i : Nat) (hi : i ≤ 150) : (kJT D L G i).g ≤ 1000000 := by
  cases i with
  | zero => exact (show (0 : Int) ≤ 1000000 by omega)
  | succ i => exact (show (gW D G (i + 1) : Int) ≤ 1000000 by have := gW_le D G (i + 1); omega)
theorem kJF_g (D L G i : Nat) (hi : i ≤ 150) : (kJF D L G i).g ≤ 1000000 := by
  cases i with
  | zero => exact (show (0 : Int) ≤ 1000000 by omega)
  | succ i => exact (show (gW (D + 1) G (i + 1) : Int) ≤ 1000000 by have := gW_le (D + 1) G (i + 1); omega)
set_option maxRecDepth 100000 in
set_option maxHeartbeats 8000000 in
theorem jamT1 (a0 a1 a3 : Int) (D L : Nat) (hD : 1 ≤ D) (hD2 : D ≤ 20) (hL : 1 ≤ L) (hL2 : L ≤ 20) (h0 : a0 % 20 + 1 = D) (h1 : a1 % 20 + 1 = L) (h3 : a3 % 3 = 0) (w : World) :
    Calls Try.prog 4 #[.int .i64 a0, .int .i64 a1, .bool true, .int .i64 a3] w fun e w' => e = .returned (.bool true) ∧ Below w.heap.size w w' := by
  have N0 := Lib.hid fun (w : World) => numberB a0 20 (by omega) (by omega) w
  have N1 := Lib.hid fun (w : World) => numberB a1 20 (by omega) (by omega) w
  have N2 := Lib.hid fun (w : World) => numberB a3 3 (by omega) (by omega) w
  rw [h3] at N2
  have hd := Int.emod_nonneg a0 (show (20 : Int) ≠ 0 by omega)
  have hl := Int.emod_nonneg a1 (show (20 : Int) ≠ 0 by omega)
  generalize a0 % 20 = d0 at *
  generalize a1 % 20 = l0 at *
  have HD := Lib.hid h0
  have HL := Lib.hid h1
  have hd2 : d0 ≤ 19 := by omega
  have hl2 : l0 ≤ 19 := by omega
  clear h3 h0 h1
  obtain ⟨e1, e2, e3⟩ := gW_end D 1 L (by omega) hL
  have LT := Lib.hid fun i hi => gW_before D 1 L (by omega) i hi hL
  have hF : f1 D 1 ≤ 23 ∧ f1 D 1 = (D + 1 - 1) / 1 * 1 := by unfold f1; omega
  obtain ⟨hF1, hF2⟩ := hF
  obtain ⟨N, hN⟩ : ∃ N, N = f1 D 1 + (L - 1) * 1 := ⟨_, rfl⟩
  rw [← hN] at e1 e2 e3 LT
  have hN2 : N ≤ 90 := by omega
  have E := Lib.hid (And.intro e1 (And.intro e2 e3))
  have EN := Lib.hid (And.intro hN hF2)
  clear e1 e2 e3 hN hF1 hF2
  go_enter Try.func4, Try.ntmps4
  go_wp2_with fail
  refine (first16 _).mono ?_
  rintro e w0 ⟨rfl, hb0⟩
  have T0 := Lib.hid hb0
  clear hb0
  go_wp2_with fail
  refine (N0.out _).mono ?_; rintro e w' ⟨rfl, rfl⟩; go_wp2_with fail
  rw [HD.out]
  refine (N1.out _).mono ?_; rintro e w' ⟨rfl, rfl⟩; go_wp2_with fail
  rw [HL.out]
  clear hd hl hd2 hl2 HD HL
  refine (N2.out _).mono ?_; rintro e w' ⟨rfl, rfl⟩; go_wp2_with fail
  refine (newC (D : Int) (L : Int) _).mono ?_
  rintro e w1 ⟨rfl, H1, hb⟩
  rw [cutc_in _ (by omega) (by omega), cutc_in _ (by omega) (by omega)] at H1
  have F1 : Hid (Ct w1 w0.heap.size (kJT D L 1 0)) := Lib.hid H1
  have T1 := Lib.hid (T0.out.trans (hb.mono T0.out.size))
  have SB := Lib.hid T0.out.size
  clear H1 hb T0
  generalize w0.heap.size = B at *
  have LB := Lib.hid F1.out.lt
  have NS := Lib.hid (Sm.new w1 0 false)
  have F2 := Lib.hid (F1.out.alloc (.cells #[.int .i64 0, .bool false] 27))
  have T2 := Lib.hid (T1.out.alloc T1.out.size (.cells #[.int .i64 0, .bool false] 27))
  have SS := Lib.hid T1.out.size
  clear F1 T1
  go_wp2_with fail
  generalize w1.heap.size = S at *
  have NE := Lib.hid (Nat.ne_of_gt LB.out)
  go_loopw [12, 13] (fun n v wr => ∃ i : Nat, ∃ f : Bool, i ≤ N ∧ v = .int .i64 i ∧ n = .int .i64 0 ∧ Ct wr B (kJT D L 1 i) ∧ Sm wr S 0 f ∧ Below w.heap.size w wr) (fun _ v _ => N - (intOf v).toNat)
  case atStart => exact ⟨0, false, by omega, rfl, rfl, F2.out, NS.out, T2.out⟩
  case round =>
    obtain ⟨i, f, hi, rfl, rfl, hf, hn, hb⟩ := hrel
    clear F2 NS T2
    have F := Lib.hid hf
    have M := Lib.hid hn
    have T := Lib.hid hb
    clear hf hn hb
    have hfr : fr 1 i = true := decide_eq_true (Nat.mod_one i)
    have M' := Lib.hid (M.out.setF true)
    have F' := Lib.hid (F.out.only (Only.set S 1 _ (.bool true)) NE.out.symm)
    have T' := Lib.hid (T.out.trans ((Only.set S 1 _ (.bool true)).below SS.out T.out.size))
    have m0 := M'.out.cells.1
    have m1 := M'.out.cells.2.1
    have m2 := M.out.cells.2.2.2.1
    have m3 := M.out.cells.2.1
    have KI := Lib.hid (kJT_in D L 1 i (by omega))
    have KS := Lib.hid (stepC B _ true 0 true KI.out.1 KI.out.2.1 KI.out.2.2.1 (kJT_g D L 1 i (by omega)) _ F'.out)
    by_cases hlt : i < N
    · have ks := kJT_step D L 1 i (by omega) (LT.out i hlt)
      rw [hfr] at ks
      rw [ks] at KS
      have KJ := Lib.hid (kJT_in D L 1 (i + 1) (by omega))
      clear ks
      go_wp2_with fail
      refine KS.out.mono ?_
      rintro e w5 ⟨rfl, H5, hb⟩
      have F5 := Lib.hid H5
      have M5 := Lib.hid (M'.out.only hb NE.out)
      have T5 := Lib.hid (T'.out.trans (hb.below SB.out T'.out.size))
      clear H5 hb m0 m1 m2 m3
      go_wp2_with fail
      refine (jamC B _ _ F5.out).mono ?_
      rintro e w6 ⟨he, hb⟩
      rw [KJ.out.2.2.2.1, KJ.out.2.2.2.2] at he
      subst he
      have F6 := Lib.hid (F5.out.below hb)
      have M6 := Lib.hid (M5.out.below hb)
      have T6 := Lib.hid (T5.out.trans (hb.mono T5.out.size))
      clear hb
      go_wp2_with fail
      go_roundw
      case rel => exact ⟨i + 1, _, by omega, by go_num, rfl, F6.out, M6.out, T6.out⟩
      case measure => simp [intOf]; omega
    · obtain rfl : i = N := by omega
      clear hlt hi
      have ks := kJT_last D L 1 i (by omega) E.out.1 E.out.2.1 E.out.2.2
      rw [hfr] at ks
      have kb := kJT_back D L 1 i (gW D 1 i + 1) hD
      rw [ks] at KS
      clear ks
      have KB := Lib.hid kb
      clear kb
      go_wp2_with fail
      refine KS.out.mono ?_
      rintro e w5 ⟨rfl, H5, hb⟩
      have F5 := Lib.hid H5
      have M5 := Lib.hid (M'.out.only hb NE.out)
      have T5 := Lib.hid (T'.out.trans (hb.below SB.out T'.out.size))
      clear H5 hb m0 m1 m2 m3
      go_wp2_with fail
      refine (jamC B _ _ F5.out).mono ?_
      rintro e w6 ⟨he, hb⟩
      subst he
      have F6 := Lib.hid (F5.out.below hb)
      have M6 := Lib.hid (M5.out.below hb)
      have T6 := Lib.hid (T5.out.trans (hb.mono T5.out.size))
      clear hb
      have c0 := M6.out.cells.1
      have gl := gW_le D 1 i
      have KX := Lib.hid (stepC B ⟨D, L, true, (i : Int), (gW D 1 i : Int) + 1, 0, true, true, false⟩ false 1 true (show (-2 : Int) ≤ (i : Int) by omega) (show (i : Int) ≤ (1000 : Int) by omega) (show (0 : Int) ≤ (gW D 1 i : Int) + 1 by omega) (show (gW D 1 i : Int) + 1 ≤ 1000000 by omega) _ F6.out)
      rw [KB.out] at KX
      clear gl
      have ef : (i : Int) = ((D + 1 - 1) / 1 * 1 + (L - 1) * 1 : Nat) := by rw [EN.out.1, EN.out.2]
      go_wp2_with fail
      refine KX.out.mono ?_
      rintro e w7 ⟨rfl, H7, hb⟩
      have F7 := Lib.hid H7
      have T7 := Lib.hid (T6.out.trans (hb.below SB.out T6.out.size))
      clear H7 hb c0
      go_wp2_with fail
      refine (jamC B _ _ F7.out).mono ?_
      rintro e w8 ⟨he, hb⟩
      subst he
      have T8 := Lib.hid (T7.out.trans (hb.mono T7.out.size))
      clear hb
      go_wp2_with fail
      go_ret
      exact ⟨ret_cb (by first | rfl | simp), T8.out⟩
set_option maxRecDepth 100000 in
set_option maxHeartbeats 8000000 in
theorem jamT2 (a0 a1 a3 : Int) (D L : Nat) (hD : 1 ≤ D) (hD2 : D ≤ 20) (hL : 1 ≤ L) (hL2 : L ≤ 20) (h0 : a0 % 20 + 1 = D) (h1 : a1 % 20 + 1 = L) (h3 : a3 % 3 = 1) (w : World) :
    Calls Try.prog 4 #[.int .i64 a0, .int .i64 a1, .bool true, .int .i64 a3] w fun e w' => e = .returned (.bool true) ∧ Below w.heap.size w w' := by
  have N0 := Lib.hid fun (w : World) => numberB a0 20 (by omega) (by omega) w
  have N1 := Lib.hid fun (w : World) => numberB a1 20 (by omega) (by omega) w
  have N2 := Lib.hid fun (w : World) => numberB a3 3 (by omega) (by omega) w
  rw [h3] at N2
  have hd := Int.emod_nonneg a0 (show (20 : Int) ≠ 0 by omega)
  have hl := Int.emod_nonneg a1 (show (20 : Int) ≠ 0 by omega)
  generalize a0 % 20 = d0 at *
  generalize a1 % 20 = l0 at *
  have HD := Lib.hid h0
  have HL := Lib.hid h1
  have hd2 : d0 ≤ 19 := by omega
  have hl2 : l0 ≤ 19 := by omega
  clear h3 h0 h1
  obtain ⟨e1, e2, e3⟩ := gW_end D 2 L (by omega) hL
  have LT := Lib.hid fun i hi => gW_before D 2 L (by omega) i hi hL
  have hF : f1 D 2 ≤ 23 ∧ f1 D 2 = (D + 2 - 1) / 2 * 2 := by unfold f1; omega
  obtain ⟨hF1, hF2⟩ := hF
  obtain ⟨N, hN⟩ : ∃ N, N = f1 D 2 + (L - 1) * 2 := ⟨_, rfl⟩
  rw [← hN] at e1 e2 e3 LT
  have hN2 : N ≤ 90 := by omega
  have E := Lib.hid (And.intro e1 (And.intro e2 e3))
  have EN := Lib.hid (And.intro hN hF2)
  clear e1 e2 e3 hN hF1 hF2
  go_enter Try.func4, Try.ntmps4
  go_wp2_with fail
  refine (first16 _).mono ?_
  rintro e w0 ⟨rfl, hb0⟩
  have T0 := Lib.hid hb0
  clear hb0
  go_wp2_with fail
  refine (N0.out _).mono ?_; rintro e w' ⟨rfl, rfl⟩; go_wp2_with fail
  rw [HD.out]
  refine (N1.out _).mono ?_; rintro e w' ⟨rfl, rfl⟩; go_wp2_with fail
  rw [HL.out]
  clear hd hl hd2 hl2 HD HL
  refine (N2.out _).mono ?_; rintro e w' ⟨rfl, rfl⟩; go_wp2_with fail
  refine (newC (D : Int) (L : Int) _).mono ?_
  rintro e w1 ⟨rfl, H1, hb⟩
  rw [cutc_in _ (by omega) (by omega), cutc_in _ (by omega) (by omega)] at H1
  have F1 : Hid (Ct w1 w0.heap.size (kJT D L 2 0)) := Lib.hid H1
  have T1 := Lib.hid (T0.out.trans (hb.mono T0.out.size))
  have SB := Lib.hid T0.out.size
  clear H1 hb T0
  generalize w0.heap.size = B at *
  have LB := Lib.hid F1.out.lt
  have NS := Lib.hid (Sm.new w1 0 false)
  have F2 := Lib.hid (F1.out.alloc (.cells #[.int .i64 0, .bool false] 27))
  have T2 := Lib.hid (T1.out.alloc T1.out.size (.cells #[.int .i64 0, .bool false] 27))
  have SS := Lib.hid T1.out.size
  clear F1 T1
  go_wp2_with fail
  generalize w1.heap.size = S at *
  have NE := Lib.hid (Nat.ne_of_gt LB.out)
  go_loopw [12, 13] (fun n v wr => ∃ i : Nat, ∃ f : Bool, i ≤ N ∧ v = .int .i64 i ∧ n = .int .i64 0 ∧ Ct wr B (kJT D L 2 i) ∧ Sm wr S 0 f ∧ Below w.heap.size w wr) (fun _ v _ => N - (intOf v).toNat)
  case atStart => exact ⟨0, false, by omega, rfl, rfl, F2.out, NS.out, T2.out⟩
  case round =>
    obtain ⟨i, f, hi, rfl, rfl, hf, hn, hb⟩ := hrel
    clear F2 NS T2
    have F := Lib.hid hf
    have M := Lib.hid hn
    have T := Lib.hid hb
    clear hf hn hb
    have hr : ((i : Int) % 2 == 0) = fr 2 i := by have := tmod_fr i 2; rwa [Int.tmod_eq_emod_of_nonneg (by omega)] at this
    have M' := Lib.hid (M.out.setF (fr 2 i))
    have F' := Lib.hid (F.out.only (Only.set S 1 _ (.bool (fr 2 i))) NE.out.symm)
    have T' := Lib.hid (T.out.trans ((Only.set S 1 _ (.bool (fr 2 i))).below SS.out T.out.size))
    have m0 := M'.out.cells.1
    have m1 := M'.out.cells.2.1
    have m2 := M.out.cells.2.2.2.1
    have m3 := M.out.cells.2.1
    have KI := Lib.hid (kJT_in D L 2 i (by omega))
    have KS := Lib.hid (stepC B _ true 0 (fr 2 i) KI.out.1 KI.out.2.1 KI.out.2.2.1 (kJT_g D L 2 i (by omega)) _ F'.out)
    by_cases hlt : i < N
    · have ks := kJT_step D L 2 i (by omega) (LT.out i hlt)

      rw [ks] at KS
      have KJ := Lib.hid (kJT_in D L 2 (i + 1) (by omega))
      clear ks
      go_wp2_with fail
      refine KS.out.mono ?_
      rintro e w5 ⟨rfl, H5, hb⟩
      have F5 := Lib.hid H5
      have M5 := Lib.hid (M'.out.only hb NE.out)
      have T5 := Lib.hid (T'.out.trans (hb.below SB.out T'.out.size))
      clear H5 hb m0 m1 m2 m3
      go_wp2_with fail
      refine (jamC B _ _ F5.out).mono ?_
      rintro e w6 ⟨he, hb⟩
      rw [KJ.out.2.2.2.1, KJ.out.2.2.2.2] at he
      subst he
      have F6 := Lib.hid (F5.out.below hb)
      have M6 := Lib.hid (M5.out.below hb)
      have T6 := Lib.hid (T5.out.trans (hb.mono T5.out.size))
      clear hb
      go_wp2_with fail
      go_roundw
      case rel => exact ⟨i + 1, _, by omega, by go_num, rfl, F6.out, M6.out, T6.out⟩
      case measure => simp [intOf]; omega
    · obtain rfl : i = N := by omega
      clear hlt hi
      have ks := kJT_last D L 2 i (by omega) E.out.1 E.out.2.1 E.out.2.2

      have kb := kJT_back D L 2 i (gW D 2 i + 1) hD
      rw [ks] at KS
      clear ks
      have KB := Lib.hid kb
      clear kb
      go_wp2_with fail
      refine KS.out.mono ?_
      rintro e w5 ⟨rfl, H5, hb⟩
      have F5 := Lib.hid H5
      have M5 := Lib.hid (M'.out.only hb NE.out)
      have T5 := Lib.hid (T'.out.trans (hb.below SB.out T'.out.size))
      clear H5 hb m0 m1 m2 m3
      go_wp2_with fail
      refine (jamC B _ _ F5.out).mono ?_
      rintro e w6 ⟨he, hb⟩
      subst he
      have F6 := Lib.hid (F5.out.below hb)
      have M6 := Lib.hid (M5.out.below hb)
      have T6 := Lib.hid (T5.out.trans (hb.mono T5.out.size))
      clear hb
      have c0 := M6.out.cells.1
      have gl := gW_le D 2 i
      have KX := Lib.hid (stepC B ⟨D, L, true, (i : Int), (gW D 2 i : Int) + 1, 0, true, true, false⟩ false 1 true (show (-2 : Int) ≤ (i : Int) by omega) (show (i : Int) ≤ (1000 : Int) by omega) (show (0 : Int) ≤ (gW D 2 i : Int) + 1 by omega) (show (gW D 2 i : Int) + 1 ≤ 1000000 by omega) _ F6.out)
      rw [KB.out] at KX
      clear gl
      have ef : (i : Int) = ((D + 2 - 1) / 2 * 2 + (L - 1) * 2 : Nat) := by rw [EN.out.1, EN.out.2]
      go_wp2_with fail
      refine KX.out.mono ?_
      rintro e w7 ⟨rfl, H7, hb⟩
      have F7 := Lib.hid H7
      have T7 := Lib.hid (T6.out.trans (hb.below SB.out T6.out.size))
      clear H7 hb c0
      go_wp2_with fail
      refine (jamC B _ _ F7.out).mono ?_
      rintro e w8 ⟨he, hb⟩
      subst he
      have T8 := Lib.hid (T7.out.trans (hb.mono T7.out.size))
      clear hb
      go_wp2_with fail
      go_ret
      exact ⟨ret_cb (by first | rfl | simp), T8.out⟩
set_option maxRecDepth 100000 in
set_option maxHeartbeats 8000000 in
theorem jamT3 (a0 a1 a3 : Int) (D L : Nat) (hD : 1 ≤ D) (hD2 : D ≤ 20) (hL : 1 ≤ L) (hL2 : L ≤ 20) (h0 : a0 % 20 + 1 = D) (h1 : a1 % 20 + 1 = L) (h3 : a3 % 3 = 2) (w : World) :
    Calls Try.prog 4 #[.int .i64 a0, .int .i64 a1, .bool true, .int .i64 a3] w fun e w' => e = .returned (.bool true) ∧ Below w.heap.size w w' := by
  have N0 := Lib.hid fun (w : World) => numberB a0 20 (by omega) (by omega) w
  have N1 := Lib.hid fun (w : World) => numberB a1 20 (by omega) (by omega) w
  have N2 := Lib.hid fun (w : World) => numberB a3 3 (by omega) (by omega) w
  rw [h3] at N2
  have hd := Int.emod_nonneg a0 (show (20 : Int) ≠ 0 by omega)
  have hl := Int.emod_nonneg a1 (show (20 : Int) ≠ 0 by omega)
  generalize a0 % 20 = d0 at *
  generalize a1 % 20 = l0 at *
  have HD := Lib.hid h0
  have HL := Lib.hid h1
  have hd2 : d0 ≤ 19 := by omega
  have hl2 : l0 ≤ 19 := by omega
  clear h3 h0 h1
  obtain ⟨e1, e2, e3⟩ := gW_end D 3 L (by omega) hL
  have LT := Lib.hid fun i hi => gW_before D 3 L (by omega) i hi hL
  have hF : f1 D 3 ≤ 23 ∧ f1 D 3 = (D + 3 - 1) / 3 * 3 := by unfold f1; omega
  obtain ⟨hF1, hF2⟩ := hF
  obtain ⟨N, hN⟩ : ∃ N, N = f1 D 3 + (L - 1) * 3 := ⟨_, rfl⟩
  rw [← hN] at e1 e2 e3 LT
  have hN2 : N ≤ 90 := by omega
  have E := Lib.hid (And.intro e1 (And.intro e2 e3))
  have EN := Lib.hid (And.intro hN hF2)
  clear e1 e2 e3 hN hF1 hF2
  go_enter Try.func4, Try.ntmps4
  go_wp2_with fail
  refine (first16 _).mono ?_
  rintro e w0 ⟨rfl, hb0⟩
  have T0 := Lib.hid hb0
  clear hb0
  go_wp2_with fail
  refine (N0.out _).mono ?_; rintro e w' ⟨rfl, rfl⟩; go_wp2_with fail
  rw [HD.out]
  refine (N1.out _).mono ?_; rintro e w' ⟨rfl, rfl⟩; go_wp2_with fail
  rw [HL.out]
  clear hd hl hd2 hl2 HD HL
  refine (N2.out _).mono ?_; rintro e w' ⟨rfl, rfl⟩; go_wp2_with fail
  refine (newC (D : Int) (L : Int) _).mono ?_
  rintro e w1 ⟨rfl, H1, hb⟩
  rw [cutc_in _ (by omega) (by omega), cutc_in _ (by omega) (by omega)] at H1
  have F1 : Hid (Ct w1 w0.heap.size (kJT D L 3 0)) := Lib.hid H1
  have T1 := Lib.hid (T0.out.trans (hb.mono T0.out.size))
  have SB := Lib.hid T0.out.size
  clear H1 hb T0
  generalize w0.heap.size = B at *
  have LB := Lib.hid F1.out.lt
  have NS := Lib.hid (Sm.new w1 0 false)
  have F2 := Lib.hid (F1.out.alloc (.cells #[.int .i64 0, .bool false] 27))
  have T2 := Lib.hid (T1.out.alloc T1.out.size (.cells #[.int .i64 0, .bool false] 27))
  have SS := Lib.hid T1.out.size
  clear F1 T1
  go_wp2_with fail
  generalize w1.heap.size = S at *
  have NE := Lib.hid (Nat.ne_of_gt LB.out)
  go_loopw [12, 13] (fun n v wr => ∃ i : Nat, ∃ f : Bool, i ≤ N ∧ v = .int .i64 i ∧ n = .int .i64 0 ∧ Ct wr B (kJT D L 3 i) ∧ Sm wr S 0 f ∧ Below w.heap.size w wr) (fun _ v _ => N - (intOf v).toNat)
  case atStart => exact ⟨0, false, by omega, rfl, rfl, F2.out, NS.out, T2.out⟩
  case round =>
    obtain ⟨i, f, hi, rfl, rfl, hf, hn, hb⟩ := hrel
    clear F2 NS T2
    have F := Lib.hid hf
    have M := Lib.hid hn
    have T := Lib.hid hb
    clear hf hn hb
    have hr : ((i : Int) % 3 == 0) = fr 3 i := by have := tmod_fr i 3; rwa [Int.tmod_eq_emod_of_nonneg (by omega)] at this
    have M' := Lib.hid (M.out.setF (fr 3 i))
    have F' := Lib.hid (F.out.only (Only.set S 1 _ (.bool (fr 3 i))) NE.out.symm)
    have T' := Lib.hid (T.out.trans ((Only.set S 1 _ (.bool (fr 3 i))).below SS.out T.out.size))
    have m0 := M'.out.cells.1
    have m1 := M'.out.cells.2.1
    have m2 := M.out.cells.2.2.2.1
    have m3 := M.out.cells.2.1
    have KI := Lib.hid (kJT_in D L 3 i (by omega))
    have KS := Lib.hid (stepC B _ true 0 (fr 3 i) KI.out.1 KI.out.2.1 KI.out.2.2.1 (kJT_g D L 3 i (by omega)) _ F'.out)
    by_cases hlt : i < N
    · have ks := kJT_step D L 3 i (by omega) (LT.out i hlt)

      rw [ks] at KS
      have KJ := Lib.hid (kJT_in D L 3 (i + 1) (by omega))
      clear ks
      go_wp2_with fail
      refine KS.out.mono ?_
      rintro e w5 ⟨rfl, H5, hb⟩
      have F5 := Lib.hid H5
      have M5 := Lib.hid (M'.out.only hb NE.out)
      have T5 := Lib.hid (T'.out.trans (hb.below SB.out T'.out.size))
      clear H5 hb m0 m1 m2 m3
      go_wp2_with fail
      refine (jamC B _ _ F5.out).mono ?_
      rintro e w6 ⟨he, hb⟩
      rw [KJ.out.2.2.2.1, KJ.out.2.2.2.2] at he
      subst he
      have F6 := Lib.hid (F5.out.below hb)
      have M6 := Lib.hid (M5.out.below hb)
      have T6 := Lib.hid (T5.out.trans (hb.mono T5.out.size))
      clear hb
      go_wp2_with fail
      go_roundw
      case rel => exact ⟨i + 1, _, by omega, by go_num, rfl, F6.out, M6.out, T6.out⟩
      case measure => simp [intOf]; omega
    · obtain rfl : i = N := by omega
      clear hlt hi
      have ks := kJT_last D L 3 i (by omega) E.out.1 E.out.2.1 E.out.2.2

      have kb := kJT_back D L 3 i (gW D 3 i + 1) hD
      rw [ks] at KS
      clear ks
      have KB := Lib.hid kb
      clear kb
      go_wp2_with fail
      refine KS.out.mono ?_
      rintro e w5 ⟨rfl, H5, hb⟩
      have F5 := Lib.hid H5
      have M5 := Lib.hid (M'.out.only hb NE.out)
      have T5 := Lib.hid (T'.out.trans (hb.below SB.out T'.out.size))
      clear H5 hb m0 m1 m2 m3
      go_wp2_with fail
      refine (jamC B _ _ F5.out).mono ?_
      rintro e w6 ⟨he, hb⟩
      subst he
      have F6 := Lib.hid (F5.out.below hb)
      have M6 := Lib.hid (M5.out.below hb)
      have T6 := Lib.hid (T5.out.trans (hb.mono T5.out.size))
      clear hb
      have c0 := M6.out.cells.1
      have gl := gW_le D 3 i
      have KX := Lib.hid (stepC B ⟨D, L, true, (i : Int), (gW D 3 i : Int) + 1, 0, true, true, false⟩ false 1 true (show (-2 : Int) ≤ (i : Int) by omega) (show (i : Int) ≤ (1000 : Int) by omega) (show (0 : Int) ≤ (gW D 3 i : Int) + 1 by omega) (show (gW D 3 i : Int) + 1 ≤ 1000000 by omega) _ F6.out)
      rw [KB.out] at KX
      clear gl
      have ef : (i : Int) = ((D + 3 - 1) / 3 * 3 + (L - 1) * 3 : Nat) := by rw [EN.out.1, EN.out.2]
      go_wp2_with fail
      refine KX.out.mono ?_
      rintro e w7 ⟨rfl, H7, hb⟩
      have F7 := Lib.hid H7
      have T7 := Lib.hid (T6.out.trans (hb.below SB.out T6.out.size))
      clear H7 hb c0
      go_wp2_with fail
      refine (jamC B _ _ F7.out).mono ?_
      rintro e w8 ⟨he, hb⟩
      subst he
      have T8 := Lib.hid (T7.out.trans (hb.mono T7.out.size))
      clear hb
      go_wp2_with fail
      go_ret
      exact ⟨ret_cb (by first | rfl | simp), T8.out⟩
set_option maxRecDepth 100000 in
set_option maxHeartbeats 8000000 in
theorem jamF1 (a0 a1 a3 : Int) (D L : Nat) (hD : 1 ≤ D) (hD2 : D ≤ 20) (hL : 1 ≤ L) (hL2 : L ≤ 20) (h0 : a0 % 20 + 1 = D) (h1 : a1 % 20 + 1 = L) (h3 : a3 % 3 = 0) (w : World) :
    Calls Try.prog 4 #[.int .i64 a0, .int .i64 a1, .bool false, .int .i64 a3] w fun e w' => e = .returned (.bool true) ∧ Below w.heap.size w w' := by
  have N0 := Lib.hid fun (w : World) => numberB a0 20 (by omega) (by omega) w
  have N1 := Lib.hid fun (w : World) => numberB a1 20 (by omega) (by omega) w
  have N2 := Lib.hid fun (w : World) => numberB a3 3 (by omega) (by omega) w
  rw [h3] at N2
  have hd := Int.emod_nonneg a0 (show (20 : Int) ≠ 0 by omega)
  have hl := Int.emod_nonneg a1 (show (20 : Int) ≠ 0 by omega)
  generalize a0 % 20 = d0 at *
  generalize a1 % 20 = l0 at *
  have HD := Lib.hid h0
  have HL := Lib.hid h1
  have hd2 : d0 ≤ 19 := by omega
  have hl2 : l0 ≤ 19 := by omega
  clear h3 h0 h1
  obtain ⟨e1, e2, e3⟩ := gW_end (D + 1) 1 L (by omega) hL
  have LT := Lib.hid fun i hi => gW_before (D + 1) 1 L (by omega) i hi hL
  have hF : f1 (D + 1) 1 ≤ 23 ∧ f1 (D + 1) 1 = ((D + 1) + 1 - 1) / 1 * 1 := by unfold f1; omega
  obtain ⟨hF1, hF2⟩ := hF
  obtain ⟨N, hN⟩ : ∃ N, N = f1 (D + 1) 1 + (L - 1) * 1 := ⟨_, rfl⟩
  rw [← hN] at e1 e2 e3 LT
  have hN2 : N ≤ 90 := by omega
  have E := Lib.hid (And.intro e1 (And.intro e2 e3))
  have EN := Lib.hid (And.intro hN hF2)
  clear e1 e2 e3 hN hF1 hF2
  go_enter Try.func4, Try.ntmps4
  go_wp2_with fail
  refine (first16 _).mono ?_
  rintro e w0 ⟨rfl, hb0⟩
  have T0 := Lib.hid hb0
  clear hb0
  go_wp2_with fail
  refine (N0.out _).mono ?_; rintro e w' ⟨rfl, rfl⟩; go_wp2_with fail
  rw [HD.out]
  refine (N1.out _).mono ?_; rintro e w' ⟨rfl, rfl⟩; go_wp2_with fail
  rw [HL.out]
  clear hd hl hd2 hl2 HD HL
  refine (N2.out _).mono ?_; rintro e w' ⟨rfl, rfl⟩; go_wp2_with fail
  refine (newC (D : Int) (L : Int) _).mono ?_
  rintro e w1 ⟨rfl, H1, hb⟩
  rw [cutc_in _ (by omega) (by omega), cutc_in _ (by omega) (by omega)] at H1
  have F1 : Hid (Ct w1 w0.heap.size (kJF D L 1 0)) := Lib.hid H1
  have T1 := Lib.hid (T0.out.trans (hb.mono T0.out.size))
  have SB := Lib.hid T0.out.size
  clear H1 hb T0
  generalize w0.heap.size = B at *
  have LB := Lib.hid F1.out.lt
  have NS := Lib.hid (Sm.new w1 1 false)
  have F2 := Lib.hid (F1.out.alloc (.cells #[.int .i64 1, .bool false] 27))
  have T2 := Lib.hid (T1.out.alloc T1.out.size (.cells #[.int .i64 1, .bool false] 27))
  have SS := Lib.hid T1.out.size
  clear F1 T1
  go_wp2_with fail
  generalize w1.heap.size = S at *
  have NE := Lib.hid (Nat.ne_of_gt LB.out)
  go_loopw [12, 13] (fun n v wr => ∃ i : Nat, ∃ f : Bool, i ≤ N ∧ v = .int .i64 i ∧ n = .int .i64 0 ∧ Ct wr B (kJF D L 1 i) ∧ Sm wr S 1 f ∧ Below w.heap.size w wr) (fun _ v _ => N - (intOf v).toNat)
  case atStart => exact ⟨0, false, by omega, rfl, rfl, F2.out, NS.out, T2.out⟩
  case round =>
    obtain ⟨i, f, hi, rfl, rfl, hf, hn, hb⟩ := hrel
    clear F2 NS T2
    have F := Lib.hid hf
    have M := Lib.hid hn
    have T := Lib.hid hb
    clear hf hn hb
    have hfr : fr 1 i = true := decide_eq_true (Nat.mod_one i)
    have M' := Lib.hid (M.out.setF true)
    have F' := Lib.hid (F.out.only (Only.set S 1 _ (.bool true)) NE.out.symm)
    have T' := Lib.hid (T.out.trans ((Only.set S 1 _ (.bool true)).below SS.out T.out.size))
    have m0 := M'.out.cells.1
    have m1 := M'.out.cells.2.1
    have m2 := M.out.cells.2.2.2.1
    have m3 := M.out.cells.2.1
    have KI := Lib.hid (kJF_in D L 1 i (by omega))
    have KS := Lib.hid (stepC B _ false 1 true KI.out.1 KI.out.2.1 KI.out.2.2.1 (kJF_g D L 1 i (by omega)) _ F'.out)
    by_cases hlt : i < N
    · have ks := kJF_step D L 1 i (by omega) (LT.out i hlt)
      rw [hfr] at ks
      rw [ks] at KS
      have KJ := Lib.hid (kJF_in D L 1 (i + 1) (by omega))
      clear ks
      go_wp2_with fail
      refine KS.out.mono ?_
      rintro e w5 ⟨rfl, H5, hb⟩
      have F5 := Lib.hid H5
      have M5 := Lib.hid (M'.out.only hb NE.out)
      have T5 := Lib.hid (T'.out.trans (hb.below SB.out T'.out.size))
      clear H5 hb m0 m1 m2 m3
      go_wp2_with fail
      refine (jamC B _ _ F5.out).mono ?_
      rintro e w6 ⟨he, hb⟩
      rw [KJ.out.2.2.2.1, KJ.out.2.2.2.2] at he
      subst he
      have F6 := Lib.hid (F5.out.below hb)
      have M6 := Lib.hid (M5.out.below hb)
      have T6 := Lib.hid (T5.out.trans (hb.mono T5.out.size))
      clear hb
      go_wp2_with fail
      go_roundw
      case rel => exact ⟨i + 1, _, by omega, by go_num, rfl, F6.out, M6.out, T6.out⟩
      case measure => simp [intOf]; omega
    · obtain rfl : i = N := by omega
      clear hlt hi
      have ks := kJF_last D L 1 i (by omega) E.out.1 E.out.2.1 E.out.2.2
      rw [hfr] at ks
      have kb := kJF_back D L 1 i (gW (D + 1) 1 i + 1) hD
      rw [ks] at KS
      clear ks
      have KB := Lib.hid kb
      clear kb
      go_wp2_with fail
      refine KS.out.mono ?_
      rintro e w5 ⟨rfl, H5, hb⟩
      have F5 := Lib.hid H5
      have M5 := Lib.hid (M'.out.only hb NE.out)
      have T5 := Lib.hid (T'.out.trans (hb.below SB.out T'.out.size))
      clear H5 hb m0 m1 m2 m3
      go_wp2_with fail
      refine (jamC B _ _ F5.out).mono ?_
      rintro e w6 ⟨he, hb⟩
      subst he
      have F6 := Lib.hid (F5.out.below hb)
      have M6 := Lib.hid (M5.out.below hb)
      have T6 := Lib.hid (T5.out.trans (hb.mono T5.out.size))
      clear hb
      have c0 := M6.out.cells.1
      have gl := gW_le (D + 1) 1 i
      have KX := Lib.hid (stepC B ⟨D, L, false, ((i : Int) - 1), (gW (D + 1) 1 i : Int) + 1, 1, true, false, true⟩ true 0 true (show (-2 : Int) ≤ ((i : Int) - 1) by omega) (show ((i : Int) - 1) ≤ (1000 : Int) by omega) (show (0 : Int) ≤ (gW (D + 1) 1 i : Int) + 1 by omega) (show (gW (D + 1) 1 i : Int) + 1 ≤ 1000000 by omega) _ F6.out)
      rw [KB.out] at KX
      clear gl
      have ef : (i : Int) = (((D + 1) + 1 - 1) / 1 * 1 + (L - 1) * 1 : Nat) := by rw [EN.out.1, EN.out.2]
      go_wp2_with fail
      refine KX.out.mono ?_
      rintro e w7 ⟨rfl, H7, hb⟩
      have F7 := Lib.hid H7
      have T7 := Lib.hid (T6.out.trans (hb.below SB.out T6.out.size))
      clear H7 hb c0
      go_wp2_with fail
      refine (jamC B _ _ F7.out).mono ?_
      rintro e w8 ⟨he, hb⟩
      subst he
      have T8 := Lib.hid (T7.out.trans (hb.mono T7.out.size))
      clear hb
      go_wp2_with fail
      go_ret
      exact ⟨ret_cb (by first | rfl | simp), T8.out⟩
set_option maxRecDepth 100000 in
set_option maxHeartbeats 8000000 in
theorem jamF2 (a0 a1 a3 : Int) (D L : Nat) (hD : 1 ≤ D) (hD2 : D ≤ 20) (hL : 1 ≤ L) (hL2 : L ≤ 20) (h0 : a0 % 20 + 1 = D) (h1 : a1 % 20 + 1 = L) (h3 : a3 % 3 = 1) (w : World) :
    Calls Try.prog 4 #[.int .i64 a0, .int .i64 a1, .bool false, .int .i64 a3] w fun e w' => e = .returned (.bool true) ∧ Below w.heap.size w w' := by
  have N0 := Lib.hid fun (w : World) => numberB a0 20 (by omega) (by omega) w
  have N1 := Lib.hid fun (w : World) => numberB a1 20 (by omega) (by omega) w
  have N2 := Lib.hid fun (w : World) => numberB a3 3 (by omega) (by omega) w
  rw [h3] at N2
  have hd := Int.emod_nonneg a0 (show (20 : Int) ≠ 0 by omega)
  have hl := Int.emod_nonneg a1 (show (20 : Int) ≠ 0 by omega)
  generalize a0 % 20 = d0 at *
  generalize a1 % 20 = l0 at *
  have HD := Lib.hid h0
  have HL := Lib.hid h1
  have hd2 : d0 ≤ 19 := by omega
  have hl2 : l0 ≤ 19 := by omega
  clear h3 h0 h1
  obtain ⟨e1, e2, e3⟩ := gW_end (D + 1) 2 L (by omega) hL
  have LT := Lib.hid fun i hi => gW_before (D + 1) 2 L (by omega) i hi hL
  have hF : f1 (D + 1) 2 ≤ 23 ∧ f1 (D + 1) 2 = ((D + 1) + 2 - 1) / 2 * 2 := by unfold f1; omega
  obtain ⟨hF1, hF2⟩ := hF
  obtain ⟨N, hN⟩ : ∃ N, N = f1 (D + 1) 2 + (L - 1) * 2 := ⟨_, rfl⟩
  rw [← hN] at e1 e2 e3 LT
  have hN2 : N ≤ 90 := by omega
  have E := Lib.hid (And.intro e1 (And.intro e2 e3))
  have EN := Lib.hid (And.intro hN hF2)
  clear e1 e2 e3 hN hF1 hF2
  go_enter Try.func4, Try.ntmps4
  go_wp2_with fail
  refine (first16 _).mono ?_
  rintro e w0 ⟨rfl, hb0⟩
  have T0 := Lib.hid hb0
  clear hb0
  go_wp2_with fail
  refine (N0.out _).mono ?_; rintro e w' ⟨rfl, rfl⟩; go_wp2_with fail
  rw [HD.out]
  refine (N1.out _).mono ?_; rintro e w' ⟨rfl, rfl⟩; go_wp2_with fail
  rw [HL.out]
  clear hd hl hd2 hl2 HD HL
  refine (N2.out _).mono ?_; rintro e w' ⟨rfl, rfl⟩; go_wp2_with fail
  refine (newC (D : Int) (L : Int) _).mono ?_
  rintro e w1 ⟨rfl, H1, hb⟩
  rw [cutc_in _ (by omega) (by omega), cutc_in _ (by omega) (by omega)] at H1
  have F1 : Hid (Ct w1 w0.heap.size (kJF D L 2 0)) := Lib.hid H1
  have T1 := Lib.hid (T0.out.trans (hb.mono T0.out.size))
  have SB := Lib.hid T0.out.size
  clear H1 hb T0
  generalize w0.heap.size = B at *
  have LB := Lib.hid F1.out.lt
  have NS := Lib.hid (Sm.new w1 1 false)
  have F2 := Lib.hid (F1.out.alloc (.cells #[.int .i64 1, .bool false] 27))
  have T2 := Lib.hid (T1.out.alloc T1.out.size (.cells #[.int .i64 1, .bool false] 27))
  have SS := Lib.hid T1.out.size
  clear F1 T1
  go_wp2_with fail
  generalize w1.heap.size = S at *
  have NE := Lib.hid (Nat.ne_of_gt LB.out)
  go_loopw [12, 13] (fun n v wr => ∃ i : Nat, ∃ f : Bool, i ≤ N ∧ v = .int .i64 i ∧ n = .int .i64 0 ∧ Ct wr B (kJF D L 2 i) ∧ Sm wr S 1 f ∧ Below w.heap.size w wr) (fun _ v _ => N - (intOf v).toNat)
  case atStart => exact ⟨0, false, by omega, rfl, rfl, F2.out, NS.out, T2.out⟩
  case round =>
    obtain ⟨i, f, hi, rfl, rfl, hf, hn, hb⟩ := hrel
    clear F2 NS T2
    have F := Lib.hid hf
    have M := Lib.hid hn
    have T := Lib.hid hb
    clear hf hn hb
    have hr : ((i : Int) % 2 == 0) = fr 2 i := by have := tmod_fr i 2; rwa [Int.tmod_eq_emod_of_nonneg (by omega)] at this
    have M' := Lib.hid (M.out.setF (fr 2 i))
    have F' := Lib.hid (F.out.only (Only.set S 1 _ (.bool (fr 2 i))) NE.out.symm)
    have T' := Lib.hid (T.out.trans ((Only.set S 1 _ (.bool (fr 2 i))).below SS.out T.out.size))
    have m0 := M'.out.cells.1
    have m1 := M'.out.cells.2.1
    have m2 := M.out.cells.2.2.2.1
    have m3 := M.out.cells.2.1
    have KI := Lib.hid (kJF_in D L 2 i (by omega))
    have KS := Lib.hid (stepC B _ false 1 (fr 2 i) KI.out.1 KI.out.2.1 KI.out.2.2.1 (kJF_g D L 2 i (by omega)) _ F'.out)
    by_cases hlt : i < N
    · have ks := kJF_step D L 2 i (by omega) (LT.out i hlt)

      rw [ks] at KS
      have KJ := Lib.hid (kJF_in D L 2 (i + 1) (by omega))
      clear ks
      go_wp2_with fail
      refine KS.out.mono ?_
      rintro e w5 ⟨rfl, H5, hb⟩
      have F5 := Lib.hid H5
      have M5 := Lib.hid (M'.out.only hb NE.out)
      have T5 := Lib.hid (T'.out.trans (hb.below SB.out T'.out.size))
      clear H5 hb m0 m1 m2 m3
      go_wp2_with fail
      refine (jamC B _ _ F5.out).mono ?_
      rintro e w6 ⟨he, hb⟩
      rw [KJ.out.2.2.2.1, KJ.out.2.2.2.2] at he
      subst he
      have F6 := Lib.hid (F5.out.below hb)
      have M6 := Lib.hid (M5.out.below hb)
      have T6 := Lib.hid (T5.out.trans (hb.mono T5.out.size))
      clear hb
      go_wp2_with fail
      go_roundw
      case rel => exact ⟨i + 1, _, by omega, by go_num, rfl, F6.out, M6.out, T6.out⟩
      case measure => simp [intOf]; omega
    · obtain rfl : i = N := by omega
      clear hlt hi
      have ks := kJF_last D L 2 i (by omega) E.out.1 E.out.2.1 E.out.2.2

      have kb := kJF_back D L 2 i (gW (D + 1) 2 i + 1) hD
      rw [ks] at KS
      clear ks
      have KB := Lib.hid kb
      clear kb
      go_wp2_with fail
      refine KS.out.mono ?_
      rintro e w5 ⟨rfl, H5, hb⟩
      have F5 := Lib.hid H5
      have M5 := Lib.hid (M'.out.only hb NE.out)
      have T5 := Lib.hid (T'.out.trans (hb.below SB.out T'.out.size))
      clear H5 hb m0 m1 m2 m3
      go_wp2_with fail
      refine (jamC B _ _ F5.out).mono ?_
      rintro e w6 ⟨he, hb⟩
      subst he
      have F6 := Lib.hid (F5.out.below hb)
      have M6 := Lib.hid (M5.out.below hb)
      have T6 := Lib.hid (T5.out.trans (hb.mono T5.out.size))
      clear hb
      have c0 := M6.out.cells.1
      have gl := gW_le (D + 1) 2 i
      have KX := Lib.hid (stepC B ⟨D, L, false, ((i : Int) - 1), (gW (D + 1) 2 i : Int) + 1, 1, true, false, true⟩ true 0 true (show (-2 : Int) ≤ ((i : Int) - 1) by omega) (show ((i : Int) - 1) ≤ (1000 : Int) by omega) (show (0 : Int) ≤ (gW (D + 1) 2 i : Int) + 1 by omega) (show (gW (D + 1) 2 i : Int) + 1 ≤ 1000000 by omega) _ F6.out)
      rw [KB.out] at KX
      clear gl
      have ef : (i : Int) = (((D + 1) + 2 - 1) / 2 * 2 + (L - 1) * 2 : Nat) := by rw [EN.out.1, EN.out.2]
      go_wp2_with fail
      refine KX.out.mono ?_
      rintro e w7 ⟨rfl, H7, hb⟩
      have F7 := Lib.hid H7
      have T7 := Lib.hid (T6.out.trans (hb.below SB.out T6.out.size))
      clear H7 hb c0
      go_wp2_with fail
      refine (jamC B _ _ F7.out).mono ?_
      rintro e w8 ⟨he, hb⟩
      subst he
      have T8 := Lib.hid (T7.out.trans (hb.mono T7.out.size))
      clear hb
      go_wp2_with fail
      go_ret
      exact ⟨ret_cb (by first | rfl | simp), T8.out⟩
set_option maxRecDepth 100000 in
set_option maxHeartbeats 8000000 in
theorem jamF3 (a0 a1 a3 : Int) (D L : Nat) (hD : 1 ≤ D) (hD2 : D ≤ 20) (hL : 1 ≤ L) (hL2 : L ≤ 20) (h0 : a0 % 20 + 1 = D) (h1 : a1 % 20 + 1 = L) (h3 : a3 % 3 = 2) (w : World) :
    Calls Try.prog 4 #[.int .i64 a0, .int .i64 a1, .bool false, .int .i64 a3] w fun e w' => e = .returned (.bool true) ∧ Below w.heap.size w w' := by
  have N0 := Lib.hid fun (w : World) => numberB a0 20 (by omega) (by omega) w
  have N1 := Lib.hid fun (w : World) => numberB a1 20 (by omega) (by omega) w
  have N2 := Lib.hid fun (w : World) => numberB a3 3 (by omega) (by omega) w
  rw [h3] at N2
  have hd := Int.emod_nonneg a0 (show (20 : Int) ≠ 0 by omega)
  have hl := Int.emod_nonneg a1 (show (20 : Int) ≠ 0 by omega)
  generalize a0 % 20 = d0 at *
  generalize a1 % 20 = l0 at *
  have HD := Lib.hid h0
  have HL := Lib.hid h1
  have hd2 : d0 ≤ 19 := by omega
  have hl2 : l0 ≤ 19 := by omega
  clear h3 h0 h1
  obtain ⟨e1, e2, e3⟩ := gW_end (D + 1) 3 L (by omega) hL
  have LT := Lib.hid fun i hi => gW_before (D + 1) 3 L (by omega) i hi hL
  have hF : f1 (D + 1) 3 ≤ 23 ∧ f1 (D + 1) 3 = ((D + 1) + 3 - 1) / 3 * 3 := by unfold f1; omega
  obtain ⟨hF1, hF2⟩ := hF
  obtain ⟨N, hN⟩ : ∃ N, N = f1 (D + 1) 3 + (L - 1) * 3 := ⟨_, rfl⟩
  rw [← hN] at e1 e2 e3 LT
  have hN2 : N ≤ 90 := by omega
  have E := Lib.hid (And.intro e1 (And.intro e2 e3))
  have EN := Lib.hid (And.intro hN hF2)
  clear e1 e2 e3 hN hF1 hF2
  go_enter Try.func4, Try.ntmps4
  go_wp2_with fail
  refine (first16 _).mono ?_
  rintro e w0 ⟨rfl, hb0⟩
  have T0 := Lib.hid hb0
  clear hb0
  go_wp2_with fail
  refine (N0.out _).mono ?_; rintro e w' ⟨rfl, rfl⟩; go_wp2_with fail
  rw [HD.out]
  refine (N1.out _).mono ?_; rintro e w' ⟨rfl, rfl⟩; go_wp2_with fail
  rw [HL.out]
  clear hd hl hd2 hl2 HD HL
  refine (N2.out _).mono ?_; rintro e w' ⟨rfl, rfl⟩; go_wp2_with fail
  refine (newC (D : Int) (L : Int) _).mono ?_
  rintro e w1 ⟨rfl, H1, hb⟩
  rw [cutc_in _ (by omega) (by omega), cutc_in _ (by omega) (by omega)] at H1
  have F1 : Hid (Ct w1 w0.heap.size (kJF D L 3 0)) := Lib.hid H1
  have T1 := Lib.hid (T0.out.trans (hb.mono T0.out.size))
  have SB := Lib.hid T0.out.size
  clear H1 hb T0
  generalize w0.heap.size = B at *
  have LB := Lib.hid F1.out.lt
  have NS := Lib.hid (Sm.new w1 1 false)
  have F2 := Lib.hid (F1.out.alloc (.cells #[.int .i64 1, .bool false] 27))
  have T2 := Lib.hid (T1.out.alloc T1.out.size (.cells #[.int .i64 1, .bool false] 27))
  have SS := Lib.hid T1.out.size
  clear F1 T1
  go_wp2_with fail
  generalize w1.heap.size = S at *
  have NE := Lib.hid (Nat.ne_of_gt LB.out)
  go_loopw [12, 13] (fun n v wr => ∃ i : Nat, ∃ f : Bool, i ≤ N ∧ v = .int .i64 i ∧ n = .int .i64 0 ∧ Ct wr B (kJF D L 3 i) ∧ Sm wr S 1 f ∧ Below w.heap.size w wr) (fun _ v _ => N - (intOf v).toNat)
  case atStart => exact ⟨0, false, by omega, rfl, rfl, F2.out, NS.out, T2.out⟩
  case round =>
    obtain ⟨i, f, hi, rfl, rfl, hf, hn, hb⟩ := hrel
    clear F2 NS T2
    have F := Lib.hid hf
    have M := Lib.hid hn
    have T := Lib.hid hb
    clear hf hn hb
    have hr : ((i : Int) % 3 == 0) = fr 3 i := by have := tmod_fr i 3; rwa [Int.tmod_eq_emod_of_nonneg (by omega)] at this
    have M' := Lib.hid (M.out.setF (fr 3 i))
    have F' := Lib.hid (F.out.only (Only.set S 1 _ (.bool (fr 3 i))) NE.out.symm)
    have T' := Lib.hid (T.out.trans ((Only.set S 1 _ (.bool (fr 3 i))).below SS.out T.out.size))
    have m0 := M'.out.cells.1
    have m1 := M'.out.cells.2.1
    have m2 := M.out.cells.2.2.2.1
    have m3 := M.out.cells.2.1
    have KI := Lib.hid (kJF_in D L 3 i (by omega))
    have KS := Lib.hid (stepC B _ false 1 (fr 3 i) KI.out.1 KI.out.2.1 KI.out.2.2.1 (kJF_g D L 3 i (by omega)) _ F'.out)
    by_cases hlt : i < N
    · have ks := kJF_step D L 3 i (by omega) (LT.out i hlt)

      rw [ks] at KS
      have KJ := Lib.hid (kJF_in D L 3 (i + 1) (by omega))
      clear ks
      go_wp2_with fail
      refine KS.out.mono ?_
      rintro e w5 ⟨rfl, H5, hb⟩
      have F5 := Lib.hid H5
      have M5 := Lib.hid (M'.out.only hb NE.out)
      have T5 := Lib.hid (T'.out.trans (hb.below SB.out T'.out.size))
      clear H5 hb m0 m1 m2 m3
      go_wp2_with fail
      refine (jamC B _ _ F5.out).mono ?_
      rintro e w6 ⟨he, hb⟩
      rw [KJ.out.2.2.2.1, KJ.out.2.2.2.2] at he
      subst he
      have F6 := Lib.hid (F5.out.below hb)
      have M6 := Lib.hid (M5.out.below hb)
      have T6 := Lib.hid (T5.out.trans (hb.mono T5.out.size))
      clear hb
      go_wp2_with fail
      go_roundw
      case rel => exact ⟨i + 1, _, by omega, by go_num, rfl, F6.out, M6.out, T6.out⟩
      case measure => simp [intOf]; omega
    · obtain rfl : i = N := by omega
      clear hlt hi
      have ks := kJF_last D L 3 i (by omega) E.out.1 E.out.2.1 E.out.2.2

      have kb := kJF_back D L 3 i (gW (D + 1) 3 i + 1) hD
      rw [ks] at KS
      clear ks
      have KB := Lib.hid kb
      clear kb
      go_wp2_with fail
      refine KS.out.mono ?_
      rintro e w5 ⟨rfl, H5, hb⟩
      have F5 := Lib.hid H5
      have M5 := Lib.hid (M'.out.only hb NE.out)
      have T5 := Lib.hid (T'.out.trans (hb.below SB.out T'.out.size))
      clear H5 hb m0 m1 m2 m3
      go_wp2_with fail
      refine (jamC B _ _ F5.out).mono ?_
      rintro e w6 ⟨he, hb⟩
      subst he
      have F6 := Lib.hid (F5.out.below hb)
      have M6 := Lib.hid (M5.out.below hb)
      have T6 := Lib.hid (T5.out.trans (hb.mono T5.out.size))
      clear hb
      have c0 := M6.out.cells.1
      have gl := gW_le (D + 1) 3 i
      have KX := Lib.hid (stepC B ⟨D, L, false, ((i : Int) - 1), (gW (D + 1) 3 i : Int) + 1, 1, true, false, true⟩ true 0 true (show (-2 : Int) ≤ ((i : Int) - 1) by omega) (show ((i : Int) - 1) ≤ (1000 : Int) by omega) (show (0 : Int) ≤ (gW (D + 1) 3 i : Int) + 1 by omega) (show (gW (D + 1) 3 i : Int) + 1 ≤ 1000000 by omega) _ F6.out)
      rw [KB.out] at KX
      clear gl
      have ef : (i : Int) = (((D + 1) + 3 - 1) / 3 * 3 + (L - 1) * 3 : Nat) := by rw [EN.out.1, EN.out.2]
      go_wp2_with fail
      refine KX.out.mono ?_
      rintro e w7 ⟨rfl, H7, hb⟩
      have F7 := Lib.hid H7
      have T7 := Lib.hid (T6.out.trans (hb.below SB.out T6.out.size))
      clear H7 hb c0
      go_wp2_with fail
      refine (jamC B _ _ F7.out).mono ?_
      rintro e w8 ⟨he, hb⟩
      subst he
      have T8 := Lib.hid (T7.out.trans (hb.mono T7.out.size))
      clear hb
      go_wp2_with fail
      go_ret
      exact ⟨ret_cb (by first | rfl | simp), T8.out⟩
theorem walkContactJams (a0 a1 : Int) (a2 : Bool) (a3 : Int) (w : World) (_w0 : (Lit.int .i64 a0).wf = true) (_w1 : (Lit.int .i64 a1).wf = true) (_w3 : (Lit.int .i64 a3).wf = true) :
    Calls Try.prog 4 #[.int .i64 a0, .int .i64 a1, .bool a2, .int .i64 a3] w fun e w' => e = .returned (.bool true) ∧ Below w.heap.size w w' := by
  have d1 := Int.emod_nonneg a0 (show (20 : Int) ≠ 0 by omega)
  have d2 := Int.emod_lt_of_pos a0 (show (0 : Int) < 20 by omega)
  have l1 := Int.emod_nonneg a1 (show (20 : Int) ≠ 0 by omega)
  have l2 := Int.emod_lt_of_pos a1 (show (0 : Int) < 20 by omega)
  obtain ⟨D, hD⟩ : ∃ D : Nat, a0 % 20 + 1 = D := ⟨(a0 % 20 + 1).toNat, by omega⟩
  obtain ⟨L, hL⟩ : ∃ L : Nat, a1 % 20 + 1 = L := ⟨(a1 % 20 + 1).toNat, by omega⟩
  have hg : a3 % 3 = 0 ∨ a3 % 3 = 1 ∨ a3 % 3 = 2 := by omega
  cases a2
  · rcases hg with hg | hg | hg
    · exact jamF1 a0 a1 a3 D L (by omega) (by omega) (by omega) (by omega) hD hL hg w
    · exact jamF2 a0 a1 a3 D L (by omega) (by omega) (by omega) (by omega) hD hL hg w
    · exact jamF3 a0 a1 a3 D L (by omega) (by omega) (by omega) (by omega) hD hL hg w
  · rcases hg with hg | hg | hg
    · exact jamT1 a0 a1 a3 D L (by omega) (by omega) (by omega) (by omega) hD hL hg w
    · exact jamT2 a0 a1 a3 D L (by omega) (by omega) (by omega) (by omega) hD hL hg w
    · exact jamT3 a0 a1 a3 D L (by omega) (by omega) (by omega) (by omega) hD hL hg w
end Go.Proofs.Ytbgjfcnaiahehaa
