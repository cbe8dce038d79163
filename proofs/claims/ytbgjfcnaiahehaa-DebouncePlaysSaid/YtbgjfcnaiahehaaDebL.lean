/- DebounceFlips and DebounceSlow hold: each call returns true. Conditions: the arguments are numbers of 64 bits, bools and slices of bools. -/
import Derived.Test.YtbgjfcnaiahehaaFil
import Derived.Test.YtbgjfcnaiahehaaCame
namespace Go.Proofs.Ytbgjfcnaiahehaa
open Go.RowKit
theorem ret_fn {a b : Int} (h : a = b) : Ending.returned (.int .i64 a) = .returned (.int .i64 b) := by rw [h]
theorem numberB (n b : Int) (hb : 1 ≤ b) (hb2 : b ≤ 1000000) (w : World) :
    Calls Try.prog 14 #[.int .i64 n, .int .i64 b] w fun e w' => e = .returned (.int .i64 (n % b)) ∧ w = w' := by
  have t1 : -b < n.tmod b := by
    have := Int.tmod_lt_of_pos (-n) (show (0 : Int) < b by omega)
    rw [Int.neg_tmod] at this; omega
  have t2 : n.tmod b < b := Int.tmod_lt_of_pos n (by omega)
  have e0 : ((b : Int) == 0) = false := by rw [beq_eq_false_iff_ne]; omega
  go_enter Try.func14, Try.ntmps14
  go_wp2
  all_goals
    go_ret
    refine ⟨ret_fn ?_, rfl⟩
    have q1 := Int.mul_tdiv_add_tmod n b
    first
      | (have : n % b = (n.tmod b + b) % b := by
           rw [Int.add_emod_right]
           conv => lhs; rw [← q1]
           rw [Int.add_comm, Int.add_mul_emod_self_left]
         rw [this, Int.emod_eq_of_lt (by omega) (by omega)])
      | (have : n % b = (n.tmod b) % b := by
           conv => lhs; rw [← q1]
           rw [Int.add_comm, Int.add_mul_emod_self_left]
         rw [this, Int.emod_eq_of_lt (by omega) (by omega)])
theorem cut1_in (n : Int) (h1 : 1 ≤ n) (h2 : n ≤ 1000) : cut1 n = n := by unfold cut1; omega
theorem first13 (w : World) : Calls Try.prog 26 #[] w fun e w' => e = .returned (.bool true) ∧ Below w.heap.size w w' := by
  go_enter Try.func26, Try.ntmps26
  go_wp2_with fail
  refine (newC 1 _).mono ?_
  rintro e w1 ⟨rfl, H1, hb⟩
  have F1 := Lib.hid H1
  have B1 := Lib.hid hb
  clear H1 hb
  go_wp2_with fail
  refine (stepC _ _ true (show (0 : Int) ≤ 0 by omega) (show (0 : Int) ≤ 1000000 by omega) _ F1.out).mono ?_
  rintro e w2 ⟨he, H2, hb⟩
  rw [show (FK.step ⟨cut1 1, 0, false⟩ true).s = true by decide] at he
  subst he
  rw [show FK.step ⟨cut1 1, 0, false⟩ true = ⟨1, 0, true⟩ from rfl] at H2
  have F2 := Lib.hid H2
  have B2 := Lib.hid (B1.out.trans (hb.below (Nat.le_refl _) B1.out.size))
  clear H2 hb
  go_wp2_with fail
  refine (stateC _ _ _ F2.out).mono ?_
  rintro e w3 ⟨rfl, rfl⟩
  go_wp2
  go_ret
  exact ⟨rfl, B2.out⟩
theorem step_same (n c : Int) (s : Bool) : FK.step ⟨n, c, s⟩ s = ⟨n, 0, s⟩ := by unfold FK.step; simp
theorem step_more (n c : Int) (s i : Bool) (h : i ≠ s) (hn : c + 1 < n) : FK.step ⟨n, c, s⟩ i = ⟨n, c + 1, s⟩ := by
  unfold FK.step
  rw [if_neg (by simpa using h), if_neg (show ¬ n ≤ c + 1 by omega)]
theorem step_flip (n c : Int) (s i : Bool) (h : i ≠ s) (hn : n ≤ c + 1) : FK.step ⟨n, c, s⟩ i = ⟨n, 0, i⟩ := by
  unfold FK.step
  rw [if_neg (by simpa using h), if_pos (show n ≤ c + 1 by omega)]
theorem bool_not {x s : Bool} (h : (x != s) = true) : x ≠ s := by simpa using h
set_option maxRecDepth 100000 in
set_option maxHeartbeats 4000000 in
theorem walkDebounceFlips (a0 : Int) (a1 : Option Addr) (len1 cap1 : Nat) (z1 : Nat → Bool) (a2 : Bool) (w : World) (_w0 : (Lit.int .i64 a0).wf = true) (w1 : CameB w a1 len1 cap1 z1) :
    Calls Try.prog 9 #[.int .i64 a0, .slice a1 len1 cap1, .bool a2] w fun e w' => e = .returned (.bool true) ∧ Below w.heap.size w w' := by
  have C1 := Lib.hid fun i hi => w1.at i hi
  clear w1 _w0
  have hn1 := Int.emod_nonneg a0 (show (20 : Int) ≠ 0 by omega)
  have hn2 := Int.emod_lt_of_pos a0 (show (0 : Int) < 20 by omega)
  have N0 := Lib.hid fun (w : World) => numberB a0 20 (by omega) (by omega) w
  generalize a0 % 20 = n0 at *
  obtain ⟨n, rfl⟩ := Int.eq_ofNat_of_zero_le hn1
  have hn : n < 20 := by omega
  clear hn1 hn2
  by_cases h1 : 200 < len1
  · go_enter Try.func9, Try.ntmps9
    go_wp2_with fail
    refine (first13 _).mono ?_
    rintro e w0 ⟨rfl, hb0⟩
    have T0 := Lib.hid hb0
    clear hb0
    go_wp2_with fail
    refine (N0.out _).mono ?_; rintro e w' ⟨rfl, rfl⟩; go_wp2_with fail
    go_ret
    exact ⟨rfl, T0.out⟩
  go_enter Try.func9, Try.ntmps9
  go_wp2_with fail
  refine (first13 _).mono ?_
  rintro e w0 ⟨rfl, hb0⟩
  have T0 := Lib.hid hb0
  clear hb0
  go_wp2_with fail
  refine (N0.out _).mono ?_; rintro e w' ⟨rfl, rfl⟩; go_wp2_with fail
  refine (newC ((n : Int) + 2) _).mono ?_
  rintro e w1 ⟨rfl, H1, hb⟩
  rw [cut1_in _ (by omega) (by omega)] at H1
  have F1 := Lib.hid H1
  have T1 := Lib.hid (T0.out.trans (hb.mono T0.out.size))
  have SB := Lib.hid T0.out.size
  clear H1 hb T0
  generalize w0.heap.size = B at *
  go_wp2_with fail
  refine (forceC B _ a2 _ F1.out).mono ?_
  rintro e w2 ⟨rfl, H2, hb⟩
  have F2 := Lib.hid H2
  have T2 := Lib.hid (T1.out.trans (hb.below SB.out T1.out.size))
  clear H2 hb T1 F1
  go_wp2_with fail
  go_loopw [9, 10] (fun r v wr => ∃ i r' : Nat, i ≤ len1 ∧ v = .int .i64 i ∧ r = .int .i64 r' ∧ r' < n + 2 ∧ Fl wr B ⟨(n : Int) + 2, r', a2⟩ ∧ Below w.heap.size w wr) (fun _ v _ => len1 - (intOf v).toNat)
  case atStart => exact ⟨0, 0, by omega, rfl, rfl, by omega, F2.out, T2.out⟩
  case round =>
    obtain ⟨i, r, hi, rfl, rfl, hr, hf, hb⟩ := hrel
    clear F2 T2
    have F := Lib.hid hf
    have T := Lib.hid hb
    clear hf hb
    by_cases hl : i < len1
    · obtain ⟨x1, rfl, c1⟩ := C1.out i hl
      have c1' := below_cell T.out c1
      have KS := Lib.hid fun j => stepC B ⟨(n : Int) + 2, r, a2⟩ j (show (0 : Int) ≤ r by omega) (show (r : Int) ≤ 1000000 by omega) _ F.out
      have q1 : (a2 != a2) = false := by simp
      clear c1
      generalize z1 i = x at *
      cases hx : (x != a2)
      · obtain rfl : x = a2 := by simpa using hx
        have K1 := Lib.hid (step_same ((n : Int) + 2) r x)
        clear hx
        go_wp2_with fail
        refine (KS.out x).mono ?_
        rintro e w3 ⟨he, H3, hb⟩
        rw [K1.out] at he H3
        subst he
        have F3 := Lib.hid H3
        have T3 := Lib.hid (T.out.trans (hb.below SB.out T.out.size))
        clear H3 hb
        go_wp2_with fail
        refine (stateC B _ _ F3.out).mono ?_
        rintro e w4 ⟨rfl, rfl⟩
        go_wp2_with fail
        go_roundw
        case rel => exact ⟨i + 1, 0, by omega, by go_num, rfl, by omega, F3.out, T3.out⟩
        case measure => simp [intOf]; omega
      · have hx' : x = !a2 := by cases x <;> cases a2 <;> simp at hx ⊢
        subst hx'
        clear hx q1
        by_cases hr2 : n + 2 ≤ r + 1
        · cases a2
          · simp only [Bool.not_false] at c1'
            have K1 := Lib.hid (step_same ((n : Int) + 2) r false)
            go_wp2_with fail
            refine (KS.out false).mono ?_
            rintro e w3 ⟨he, H3, hb⟩
            rw [K1.out] at he H3
            subst he
            have F3 := Lib.hid H3
            have T3 := Lib.hid (T.out.trans (hb.below SB.out T.out.size))
            clear H3 hb
            go_wp2_with fail
            refine (stateC B _ _ F3.out).mono ?_
            rintro e w4 ⟨rfl, rfl⟩
            go_wp2_with fail
            go_roundw
            case rel => exact ⟨i + 1, 0, by omega, by go_num, rfl, by omega, F3.out, T3.out⟩
            case measure => simp [intOf]; omega
          · simp only [Bool.not_true] at c1'
            have K1 := Lib.hid (step_same ((n : Int) + 2) r true)
            go_wp2_with fail
            refine (KS.out true).mono ?_
            rintro e w3 ⟨he, H3, hb⟩
            rw [K1.out] at he H3
            subst he
            have F3 := Lib.hid H3
            have T3 := Lib.hid (T.out.trans (hb.below SB.out T.out.size))
            clear H3 hb
            go_wp2_with fail
            refine (stateC B _ _ F3.out).mono ?_
            rintro e w4 ⟨rfl, rfl⟩
            go_wp2_with fail
            go_roundw
            case rel => exact ⟨i + 1, 0, by omega, by go_num, rfl, by omega, F3.out, T3.out⟩
            case measure => simp [intOf]; omega
        · cases a2
          · simp only [Bool.not_false] at c1'
            have K1 := Lib.hid (step_more ((n : Int) + 2) r false true (by decide) (by omega))
            go_wp2_with fail
            refine (KS.out true).mono ?_
            rintro e w3 ⟨he, H3, hb⟩
            rw [K1.out] at he H3
            subst he
            have F3 := Lib.hid H3
            have T3 := Lib.hid (T.out.trans (hb.below SB.out T.out.size))
            clear H3 hb
            go_wp2_with fail
            refine (stateC B _ _ F3.out).mono ?_
            rintro e w4 ⟨rfl, rfl⟩
            go_wp2_with fail
            go_roundw
            case rel => exact ⟨i + 1, r + 1, by omega, by go_num, by go_num, by omega, F3.out, T3.out⟩
            case measure => simp [intOf]; omega
          · simp only [Bool.not_true] at c1'
            have K1 := Lib.hid (step_more ((n : Int) + 2) r true false (by decide) (by omega))
            go_wp2_with fail
            refine (KS.out false).mono ?_
            rintro e w3 ⟨he, H3, hb⟩
            rw [K1.out] at he H3
            subst he
            have F3 := Lib.hid H3
            have T3 := Lib.hid (T.out.trans (hb.below SB.out T.out.size))
            clear H3 hb
            go_wp2_with fail
            refine (stateC B _ _ F3.out).mono ?_
            rintro e w4 ⟨rfl, rfl⟩
            go_wp2_with fail
            go_roundw
            case rel => exact ⟨i + 1, r + 1, by omega, by go_num, by go_num, by omega, F3.out, T3.out⟩
            case measure => simp [intOf]; omega
    · have q1 : ((!a2) != a2) = true := by cases a2 <;> rfl
      go_wp2_with fail
      refine (forceC B _ (!a2) _ F.out).mono ?_
      rintro e w3 ⟨rfl, H3, hb⟩
      have F3 := Lib.hid H3
      have T3 := Lib.hid (T.out.trans (hb.below SB.out T.out.size))
      clear H3 hb
      go_wp2_with fail
      refine (stateC B _ _ F3.out).mono ?_
      rintro e w4 ⟨rfl, rfl⟩
      go_wp2_with fail
      go_ret
      exact ⟨ret_fb (by simp), T3.out⟩
set_option maxRecDepth 100000 in
set_option maxHeartbeats 8000000 in
theorem walkDebounceSlow (a0 a1 : Int) (a2 : Option Addr) (len2 cap2 : Nat) (z2 : Nat → Bool) (a3 : Bool) (w : World) (_w0 : (Lit.int .i64 a0).wf = true) (_w1 : (Lit.int .i64 a1).wf = true) (w2 : CameB w a2 len2 cap2 z2) :
    Calls Try.prog 10 #[.int .i64 a0, .int .i64 a1, .slice a2 len2 cap2, .bool a3] w fun e w' => e = .returned (.bool true) ∧ Below w.heap.size w w' := by
  have C1 := Lib.hid fun i hi => w2.at i hi
  clear w2 _w0 _w1
  by_cases h1 : 100 < len2
  · go_enter Try.func10, Try.ntmps10
    go_wp2_with fail
    refine (first13 _).mono ?_
    rintro e w0 ⟨rfl, hb0⟩
    have T0 := Lib.hid hb0
    clear hb0
    go_wp2_with fail
    go_ret
    exact ⟨rfl, T0.out⟩
  have hn1 := Int.emod_nonneg a0 (show (20 : Int) ≠ 0 by omega)
  have hn2 := Int.emod_lt_of_pos a0 (show (0 : Int) < 20 by omega)
  have N0 := Lib.hid fun (w : World) => numberB a0 20 (by omega) (by omega) w
  have hm1 := Int.emod_nonneg a1 (show (20 : Int) ≠ 0 by omega)
  have hm2 := Int.emod_lt_of_pos a1 (show (0 : Int) < 20 by omega)
  have N1 := Lib.hid fun (w : World) => numberB a1 20 (by omega) (by omega) w
  generalize a0 % 20 = n0 at *
  generalize a1 % 20 = m0 at *
  obtain ⟨n, rfl⟩ := Int.eq_ofNat_of_zero_le hn1
  obtain ⟨m, rfl⟩ := Int.eq_ofNat_of_zero_le hm1
  have hn : n < 20 := by omega
  have hm : m < 20 := by omega
  clear hn1 hn2 hm1 hm2
  go_enter Try.func10, Try.ntmps10
  go_wp2_with fail
  refine (first13 _).mono ?_
  rintro e w0 ⟨rfl, hb0⟩
  have T0 := Lib.hid hb0
  clear hb0
  go_wp2_with fail
  refine (N0.out _).mono ?_; rintro e w' ⟨rfl, rfl⟩; go_wp2_with fail
  refine (N1.out _).mono ?_; rintro e w' ⟨rfl, rfl⟩; go_wp2_with fail
  refine (newC ((n : Int) + 1) _).mono ?_
  rintro e w1 ⟨rfl, H1, hb⟩
  rw [cut1_in _ (by omega) (by omega)] at H1
  have F1 := Lib.hid H1
  have T1 := Lib.hid (T0.out.trans (hb.mono T0.out.size))
  have SB := Lib.hid T0.out.size
  clear H1 hb T0
  generalize w0.heap.size = B at *
  have LB := Lib.hid F1.out.lt
  go_wp2_with fail
  refine (newC ((n : Int) + 1 + m) _).mono ?_
  rintro e w2 ⟨rfl, H2, hb⟩
  rw [cut1_in _ (by omega) (by omega)] at H2
  have G2 := Lib.hid H2
  have F2 := Lib.hid (F1.out.below hb)
  have T2 := Lib.hid (T1.out.trans (hb.mono T1.out.size))
  have SC := Lib.hid T1.out.size
  clear H2 hb T1 F1
  generalize w1.heap.size = C at *
  have NE := Lib.hid (Nat.ne_of_gt LB.out)
  go_wp2_with fail
  refine (forceC B _ a3 _ F2.out).mono ?_
  rintro e w3 ⟨rfl, H3, hb⟩
  have F3 := Lib.hid H3
  have G3 := Lib.hid (G2.out.only hb NE.out)
  have T3 := Lib.hid (T2.out.trans (hb.below SB.out T2.out.size))
  clear H3 hb T2 F2 G2
  go_wp2_with fail
  refine (forceC C _ a3 _ G3.out).mono ?_
  rintro e w4 ⟨rfl, H4, hb⟩
  have G4 := Lib.hid H4
  have F4 := Lib.hid (F3.out.only hb NE.out.symm)
  have T4 := Lib.hid (T3.out.trans (hb.below SC.out T3.out.size))
  clear H4 hb T3 F3 G3
  go_wp2_with fail
  go_loopw [12] (fun v wr => ∃ i c : Nat, i ≤ len2 ∧ v = .int .i64 i ∧ c < n + 1 ∧ Fl wr B ⟨(n : Int) + 1, c, a3⟩ ∧ Fl wr C ⟨(n : Int) + 1 + m, c, a3⟩ ∧ Below w.heap.size w wr) (fun v _ => len2 - (intOf v).toNat)
  case atStart => exact ⟨0, 0, by omega, rfl, by omega, F4.out, G4.out, T4.out⟩
  case round =>
    obtain ⟨i, c, hi, rfl, hc, hf, hg, hb⟩ := hrel
    clear F4 G4 T4
    have F := Lib.hid hf
    have G := Lib.hid hg
    have T := Lib.hid hb
    clear hf hg hb
    by_cases hl : i < len2
    · obtain ⟨x1, rfl, c1⟩ := C1.out i hl
      have c1' := below_cell T.out c1
      have KS := Lib.hid fun j => stepC B ⟨(n : Int) + 1, c, a3⟩ j (show (0 : Int) ≤ c by omega) (show (c : Int) ≤ 1000000 by omega) _ F.out
      have KT := Lib.hid fun j (w : World) h => stepC C ⟨(n : Int) + 1 + m, c, a3⟩ j (show (0 : Int) ≤ c by omega) (show (c : Int) ≤ 1000000 by omega) w h
      have CC := Lib.hid c1
      clear c1
      generalize z2 i = x at *
      cases a3 <;> cases x
      · have K1 := Lib.hid (step_same ((n : Int) + 1) c false)
        have K2 := Lib.hid (step_same ((n : Int) + 1 + m) c false)
        go_wp2_with fail
        refine (KS.out false).mono ?_
        rintro e w5 ⟨he, H5, hb⟩
        rw [K1.out] at he H5
        subst he
        have F5 := Lib.hid H5
        have G5 := Lib.hid (G.out.only hb NE.out)
        have T5 := Lib.hid (T.out.trans (hb.below SB.out T.out.size))
        have c2 := below_cell T5.out CC.out
        clear H5 hb c1'
        go_wp2_with fail
        refine (KT.out false _ G5.out).mono ?_
        rintro e w6 ⟨he, H6, hb⟩
        rw [K2.out] at he H6
        subst he
        have G6 := Lib.hid H6
        have F6 := Lib.hid (F5.out.only hb NE.out.symm)
        have T6 := Lib.hid (T5.out.trans (hb.below SC.out T5.out.size))
        clear H6 hb c2
        go_wp2_with fail
        go_roundw
        case rel => exact ⟨i + 1, 0, by omega, by go_num, by omega, F6.out, G6.out, T6.out⟩
        case measure => simp [intOf]; omega
      · by_cases hf : n + 1 ≤ c + 1
        · by_cases hm0 : m = 0
          · have eq : ((n : Int) + 1 + m == (n : Int) + 1) = true := by rw [beq_iff_eq]; omega
            have K1 := Lib.hid (step_flip ((n : Int) + 1) c false true (by decide) (by omega))
            have K2 := Lib.hid (step_flip ((n : Int) + 1 + m) c false true (by decide) (by omega))
            go_wp2_with fail
            refine (KS.out true).mono ?_
            rintro e w5 ⟨he, H5, hb⟩
            rw [K1.out] at he H5
            subst he
            have F5 := Lib.hid H5
            have G5 := Lib.hid (G.out.only hb NE.out)
            have T5 := Lib.hid (T.out.trans (hb.below SB.out T.out.size))
            have c2 := below_cell T5.out CC.out
            clear H5 hb c1'
            go_wp2_with fail
            refine (KT.out true _ G5.out).mono ?_
            rintro e w6 ⟨he, H6, hb⟩
            rw [K2.out] at he H6
            subst he
            have G6 := Lib.hid H6
            have F6 := Lib.hid (F5.out.only hb NE.out.symm)
            have T6 := Lib.hid (T5.out.trans (hb.below SC.out T5.out.size))
            clear H6 hb c2
            go_wp2_with fail
            go_ret
            exact ⟨rfl, T6.out⟩
          · have eq : ((n : Int) + 1 + m == (n : Int) + 1) = false := by rw [beq_eq_false_iff_ne]; omega
            have K1 := Lib.hid (step_flip ((n : Int) + 1) c false true (by decide) (by omega))
            have K2 := Lib.hid (step_more ((n : Int) + 1 + m) c false true (by decide) (by omega))
            go_wp2_with fail
            refine (KS.out true).mono ?_
            rintro e w5 ⟨he, H5, hb⟩
            rw [K1.out] at he H5
            subst he
            have F5 := Lib.hid H5
            have G5 := Lib.hid (G.out.only hb NE.out)
            have T5 := Lib.hid (T.out.trans (hb.below SB.out T.out.size))
            have c2 := below_cell T5.out CC.out
            clear H5 hb c1'
            go_wp2_with fail
            refine (KT.out true _ G5.out).mono ?_
            rintro e w6 ⟨he, H6, hb⟩
            rw [K2.out] at he H6
            subst he
            have G6 := Lib.hid H6
            have F6 := Lib.hid (F5.out.only hb NE.out.symm)
            have T6 := Lib.hid (T5.out.trans (hb.below SC.out T5.out.size))
            clear H6 hb c2
            go_wp2_with fail
            go_ret
            exact ⟨rfl, T6.out⟩
        · have K1 := Lib.hid (step_more ((n : Int) + 1) c false true (by decide) (by omega))
          have K2 := Lib.hid (step_more ((n : Int) + 1 + m) c false true (by decide) (by omega))
          go_wp2_with fail
          refine (KS.out true).mono ?_
          rintro e w5 ⟨he, H5, hb⟩
          rw [K1.out] at he H5
          subst he
          have F5 := Lib.hid H5
          have G5 := Lib.hid (G.out.only hb NE.out)
          have T5 := Lib.hid (T.out.trans (hb.below SB.out T.out.size))
          have c2 := below_cell T5.out CC.out
          clear H5 hb c1'
          go_wp2_with fail
          refine (KT.out true _ G5.out).mono ?_
          rintro e w6 ⟨he, H6, hb⟩
          rw [K2.out] at he H6
          subst he
          have G6 := Lib.hid H6
          have F6 := Lib.hid (F5.out.only hb NE.out.symm)
          have T6 := Lib.hid (T5.out.trans (hb.below SC.out T5.out.size))
          clear H6 hb c2
          go_wp2_with fail
          go_roundw
          case rel => exact ⟨i + 1, c + 1, by omega, by go_num, by omega, F6.out, G6.out, T6.out⟩
          case measure => simp [intOf]; omega
      · by_cases hf : n + 1 ≤ c + 1
        · by_cases hm0 : m = 0
          · have eq : ((n : Int) + 1 + m == (n : Int) + 1) = true := by rw [beq_iff_eq]; omega
            have K1 := Lib.hid (step_flip ((n : Int) + 1) c true false (by decide) (by omega))
            have K2 := Lib.hid (step_flip ((n : Int) + 1 + m) c true false (by decide) (by omega))
            go_wp2_with fail
            refine (KS.out false).mono ?_
            rintro e w5 ⟨he, H5, hb⟩
            rw [K1.out] at he H5
            subst he
            have F5 := Lib.hid H5
            have G5 := Lib.hid (G.out.only hb NE.out)
            have T5 := Lib.hid (T.out.trans (hb.below SB.out T.out.size))
            have c2 := below_cell T5.out CC.out
            clear H5 hb c1'
            go_wp2_with fail
            refine (KT.out false _ G5.out).mono ?_
            rintro e w6 ⟨he, H6, hb⟩
            rw [K2.out] at he H6
            subst he
            have G6 := Lib.hid H6
            have F6 := Lib.hid (F5.out.only hb NE.out.symm)
            have T6 := Lib.hid (T5.out.trans (hb.below SC.out T5.out.size))
            clear H6 hb c2
            go_wp2_with fail
            go_ret
            exact ⟨rfl, T6.out⟩
          · have eq : ((n : Int) + 1 + m == (n : Int) + 1) = false := by rw [beq_eq_false_iff_ne]; omega
            have K1 := Lib.hid (step_flip ((n : Int) + 1) c true false (by decide) (by omega))
            have K2 := Lib.hid (step_more ((n : Int) + 1 + m) c true false (by decide) (by omega))
            go_wp2_with fail
            refine (KS.out false).mono ?_
            rintro e w5 ⟨he, H5, hb⟩
            rw [K1.out] at he H5
            subst he
            have F5 := Lib.hid H5
            have G5 := Lib.hid (G.out.only hb NE.out)
            have T5 := Lib.hid (T.out.trans (hb.below SB.out T.out.size))
            have c2 := below_cell T5.out CC.out
            clear H5 hb c1'
            go_wp2_with fail
            refine (KT.out false _ G5.out).mono ?_
            rintro e w6 ⟨he, H6, hb⟩
            rw [K2.out] at he H6
            subst he
            have G6 := Lib.hid H6
            have F6 := Lib.hid (F5.out.only hb NE.out.symm)
            have T6 := Lib.hid (T5.out.trans (hb.below SC.out T5.out.size))
            clear H6 hb c2
            go_wp2_with fail
            go_ret
            exact ⟨rfl, T6.out⟩
        · have K1 := Lib.hid (step_more ((n : Int) + 1) c true false (by decide) (by omega))
          have K2 := Lib.hid (step_more ((n : Int) + 1 + m) c true false (by decide) (by omega))
          go_wp2_with fail
          refine (KS.out false).mono ?_
          rintro e w5 ⟨he, H5, hb⟩
          rw [K1.out] at he H5
          subst he
          have F5 := Lib.hid H5
          have G5 := Lib.hid (G.out.only hb NE.out)
          have T5 := Lib.hid (T.out.trans (hb.below SB.out T.out.size))
          have c2 := below_cell T5.out CC.out
          clear H5 hb c1'
          go_wp2_with fail
          refine (KT.out false _ G5.out).mono ?_
          rintro e w6 ⟨he, H6, hb⟩
          rw [K2.out] at he H6
          subst he
          have G6 := Lib.hid H6
          have F6 := Lib.hid (F5.out.only hb NE.out.symm)
          have T6 := Lib.hid (T5.out.trans (hb.below SC.out T5.out.size))
          clear H6 hb c2
          go_wp2_with fail
          go_roundw
          case rel => exact ⟨i + 1, c + 1, by omega, by go_num, by omega, F6.out, G6.out, T6.out⟩
          case measure => simp [intOf]; omega
      · have K1 := Lib.hid (step_same ((n : Int) + 1) c true)
        have K2 := Lib.hid (step_same ((n : Int) + 1 + m) c true)
        go_wp2_with fail
        refine (KS.out true).mono ?_
        rintro e w5 ⟨he, H5, hb⟩
        rw [K1.out] at he H5
        subst he
        have F5 := Lib.hid H5
        have G5 := Lib.hid (G.out.only hb NE.out)
        have T5 := Lib.hid (T.out.trans (hb.below SB.out T.out.size))
        have c2 := below_cell T5.out CC.out
        clear H5 hb c1'
        go_wp2_with fail
        refine (KT.out true _ G5.out).mono ?_
        rintro e w6 ⟨he, H6, hb⟩
        rw [K2.out] at he H6
        subst he
        have G6 := Lib.hid H6
        have F6 := Lib.hid (F5.out.only hb NE.out.symm)
        have T6 := Lib.hid (T5.out.trans (hb.below SC.out T5.out.size))
        clear H6 hb c2
        go_wp2_with fail
        go_roundw
        case rel => exact ⟨i + 1, 0, by omega, by go_num, by omega, F6.out, G6.out, T6.out⟩
        case measure => simp [intOf]; omega
    · go_wp2_with fail
      go_ret
      exact ⟨rfl, T.out⟩
end Go.Proofs.Ytbgjfcnaiahehaa
