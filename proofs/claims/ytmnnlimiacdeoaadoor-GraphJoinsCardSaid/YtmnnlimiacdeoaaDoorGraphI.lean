/- GraphJoins holds: each call returns true. Conditions: the arguments are numbers of 64 bits; the table of ends lies in memory as the program's text lays it. -/
import Derived.Test.YtmnnlimiacdeoaaDoorGraphF
import Derived.Test.YtmnnlimiacdeoaaDoorGraphK
namespace Go.Proofs.YtmnnlimiacdeoaaDoor
open Go.RowKit
set_option maxRecDepth 100000 in
set_option maxHeartbeats 8000000 in
theorem walkGraphJoins (a c n y : Int) (_w0 : (Lit.int .i64 a).wf = true) (_w1 : (Lit.int .i64 c).wf = true) (_w2 : (Lit.int .i64 n).wf = true) (_w3 : (Lit.int .i64 y).wf = true) (w : World) (hT : Tab w) :
    Calls Tryd.prog 4 #[.int .i64 a, .int .i64 c, .int .i64 n, .int .i64 y] w fun e w' => e = .returned (.bool true) ∧ Below w.heap.size w w' := by
  have HT := Lib.hid hT
  clear hT _w0 _w1 _w2 _w3
  have TB0 := Lib.hid (Below.refl w.heap.size w)
  have N0 := Lib.hid fun (w : World) => number7 a w
  generalize BitVec.ofInt 7 a = x at *
  have hc1 := Int.emod_nonneg c (show (7 : Int) ≠ 0 by omega)
  have hc2 := Int.emod_lt_of_pos c (show (0 : Int) < 7 by omega)
  have N1 := Lib.hid fun (w : World) => numberB c 7 (by omega) (by omega) w
  have hn1 := Int.emod_nonneg n (show (7 : Int) ≠ 0 by omega)
  have hn2 := Int.emod_lt_of_pos n (show (0 : Int) < 7 by omega)
  have N2 := Lib.hid fun (w : World) => numberB n 7 (by omega) (by omega) w
  have hy1 := Int.emod_nonneg y (show (7 : Int) ≠ 0 by omega)
  have hy2 := Int.emod_lt_of_pos y (show (0 : Int) < 7 by omega)
  have N3 := Lib.hid fun (w : World) => numberB y 7 (by omega) (by omega) w
  generalize c % 7 = c0 at *
  generalize n % 7 = n0 at *
  generalize y % 7 = y0 at *
  obtain ⟨k, rfl⟩ := Int.eq_ofNat_of_zero_le hc1
  obtain ⟨p, rfl⟩ := Int.eq_ofNat_of_zero_le hn1
  obtain ⟨q, rfl⟩ := Int.eq_ofNat_of_zero_le hy1
  have hk : k < 7 := by omega
  have hp : p < 7 := by omega
  have hq : q < 7 := by omega
  clear hc1 hc2 hn1 hn2 hy1 hy2
  obtain ⟨j1, j2, j3⟩ : (rch (x ||| bitOf k) (eA k)).getLsbD (eB k) = true ∧ prt (x ||| bitOf k) = (if (rch x (eA k)).getLsbD (eB k) then prt x else prt x - 1) ∧ (jnd x = true → jnd (x ||| bitOf k) = true) := joins7 x.toFin ⟨k, hk⟩
  obtain ⟨g3, g4⟩ : eA k < 7 ∧ eB k < 7 := ends7 ⟨k, hk⟩
  have j4 : rch x p &&& ~~~ rch (x ||| bitOf k) p = 0 := more7 x.toFin ⟨k, hk⟩ ⟨p, hp⟩
  obtain ⟨j5, j6'⟩ := both7 x.toFin ⟨p, hp⟩
  have j5' : (rch x p).getLsbD p = true := j5
  have j6 : (rch x p).getLsbD q = (rch x q).getLsbD p := j6' ⟨q, hq⟩
  obtain ⟨p1, p2⟩ : 1 ≤ prt x ∧ prt x ≤ 7 := prt_big7 x.toFin
  clear j5 j6'
  have ek := shl7 k hk
  have eo := m7_or x (bitOf k)
  have KE := Lib.hid fun (w : World) (hT : Tab w) => endsC k hk w hT
  have KP := Lib.hid fun (w : World) (hT : Tab w) => partsM x w hT
  have KQ := Lib.hid fun (w : World) (hT : Tab w) => partsM (x ||| bitOf k) w hT
  have KA := Lib.hid fun (w : World) (hT : Tab w) => reachM x (eA k) g3 w hT
  have KB := Lib.hid fun (w : World) (hT : Tab w) => reachM (x ||| bitOf k) (eA k) g3 w hT
  have KX := Lib.hid fun (w : World) (hT : Tab w) => reachM x p hp w hT
  have KM := Lib.hid fun (w : World) (hT : Tab w) => reachM (x ||| bitOf k) p hp w hT
  have KY := Lib.hid fun (w : World) (hT : Tab w) => reachM x q hq w hT
  have KJ := Lib.hid fun (w : World) (hT : Tab w) => joinedM x w hT
  have KK := Lib.hid fun (w : World) (hT : Tab w) => joinedM (x ||| bitOf k) w hT
  have d1 := bit1 _ _ _ j1
  have d2 := m7_andNot (rch x p) (rch (x ||| bitOf k) p)
  rw [j4] at d2
  have d5 := bit1 _ _ _ j5'
  have d6 := bit1 (rch x p) q _ rfl
  have d7 := bit1 (rch x q) p _ rfl
  rw [← j6] at d7
  clear j1 j4 j5' j6
  generalize eA k = ka at *
  generalize eB k = kb at *
  have q2 : ((m7 0 : Int) == 0) = true := rfl
  have q6 : ∀ b : Bool, (b == b) = true := fun b => by cases b <;> rfl
  have q6' := q6 ((rch x p).getLsbD q)
  clear q6
  have WP : ∀ z : Int, 0 ≤ z → z ≤ 8 → wrap64 z = z := fun z h1 h2 => IntWalk.wrap64_in z (by omega)
  have w1 := WP (prt x - 1) (by omega) (by omega)
  clear WP
  cases hj : jnd x
  · rw [hj] at KJ
    cases ha : (rch x ka).getLsbD kb
    · have d8 := bit0 _ _ _ ha
      rw [ha] at j2
      simp only [if_true, if_false, Bool.false_eq_true] at j2
      rw [j2] at KQ
      have q8 : ((prt x - 1) == (prt x - 1)) = true := by simp
      clear hj ha j2 j3
      go_enter Tryd.func4, Tryd.ntmps4
      go_wp2_with fail
      refine (first21 _ (HT.out.below TB0.out)).mono ?_
      rintro e w1 ⟨he, hb⟩
      subst he
      have TB1 := Lib.hid (TB0.out.trans (hb.mono TB0.out.size))
      clear hb TB0
      go_wp2_with fail
      refine (N0.out _).mono ?_
      rintro e w' ⟨he, rfl⟩
      subst he
      go_wp2_with fail
      refine (N1.out _).mono ?_
      rintro e w' ⟨he, rfl⟩
      subst he
      go_wp2_with fail
      refine (N2.out _).mono ?_
      rintro e w' ⟨he, rfl⟩
      subst he
      go_wp2_with fail
      refine (N3.out _).mono ?_
      rintro e w' ⟨he, rfl⟩
      subst he
      go_wp2_with fail
      refine (KE.out _ (HT.out.below TB1.out)).mono ?_
      rintro e w2 ⟨he, hb⟩
      subst he
      have TB2 := Lib.hid (TB1.out.trans (hb.mono TB1.out.size))
      clear hb TB1
      go_wp2_with fail
      refine (KP.out _ (HT.out.below TB2.out)).mono ?_
      rintro e w3 ⟨he, hb⟩
      subst he
      have TB3 := Lib.hid (TB2.out.trans (hb.mono TB2.out.size))
      clear hb TB2
      go_wp2_with fail
      refine (KQ.out _ (HT.out.below TB3.out)).mono ?_
      rintro e w4 ⟨he, hb⟩
      subst he
      have TB4 := Lib.hid (TB3.out.trans (hb.mono TB3.out.size))
      clear hb TB3
      go_wp2_with fail
      refine (KA.out _ (HT.out.below TB4.out)).mono ?_
      rintro e w5 ⟨he, hb⟩
      subst he
      have TB5 := Lib.hid (TB4.out.trans (hb.mono TB4.out.size))
      clear hb TB4
      go_wp2_with fail
      refine (KB.out _ (HT.out.below TB5.out)).mono ?_
      rintro e w6 ⟨he, hb⟩
      subst he
      have TB6 := Lib.hid (TB5.out.trans (hb.mono TB5.out.size))
      clear hb TB5
      go_wp2_with fail
      refine (KX.out _ (HT.out.below TB6.out)).mono ?_
      rintro e w7 ⟨he, hb⟩
      subst he
      have TB7 := Lib.hid (TB6.out.trans (hb.mono TB6.out.size))
      clear hb TB6
      go_wp2_with fail
      refine (KM.out _ (HT.out.below TB7.out)).mono ?_
      rintro e w8 ⟨he, hb⟩
      subst he
      have TB8 := Lib.hid (TB7.out.trans (hb.mono TB7.out.size))
      clear hb TB7
      go_wp2_with fail
      refine (KX.out _ (HT.out.below TB8.out)).mono ?_
      rintro e w9 ⟨he, hb⟩
      subst he
      have TB9 := Lib.hid (TB8.out.trans (hb.mono TB8.out.size))
      clear hb TB8
      go_wp2_with fail
      refine (KY.out _ (HT.out.below TB9.out)).mono ?_
      rintro e w10 ⟨he, hb⟩
      subst he
      have TB10 := Lib.hid (TB9.out.trans (hb.mono TB9.out.size))
      clear hb TB9
      go_wp2_with fail
      refine (KJ.out _ (HT.out.below TB10.out)).mono ?_
      rintro e w11 ⟨he, hb⟩
      subst he
      have TB11 := Lib.hid (TB10.out.trans (hb.mono TB10.out.size))
      clear hb TB10
      go_wp2_with fail
      refine (KX.out _ (HT.out.below TB11.out)).mono ?_
      rintro e w12 ⟨he, hb⟩
      subst he
      have TB12 := Lib.hid (TB11.out.trans (hb.mono TB11.out.size))
      clear hb TB11
      go_wp2_with fail
      go_ret
      exact ⟨rfl, TB12.out⟩
    · have d8 := bit0 _ _ _ ha
      rw [ha] at j2
      simp only [if_true, if_false, Bool.false_eq_true] at j2
      rw [j2] at KQ
      have q8 : (prt x == prt x) = true := by simp
      clear hj ha j2 j3
      go_enter Tryd.func4, Tryd.ntmps4
      go_wp2_with fail
      refine (first21 _ (HT.out.below TB0.out)).mono ?_
      rintro e w1 ⟨he, hb⟩
      subst he
      have TB1 := Lib.hid (TB0.out.trans (hb.mono TB0.out.size))
      clear hb TB0
      go_wp2_with fail
      refine (N0.out _).mono ?_
      rintro e w' ⟨he, rfl⟩
      subst he
      go_wp2_with fail
      refine (N1.out _).mono ?_
      rintro e w' ⟨he, rfl⟩
      subst he
      go_wp2_with fail
      refine (N2.out _).mono ?_
      rintro e w' ⟨he, rfl⟩
      subst he
      go_wp2_with fail
      refine (N3.out _).mono ?_
      rintro e w' ⟨he, rfl⟩
      subst he
      go_wp2_with fail
      refine (KE.out _ (HT.out.below TB1.out)).mono ?_
      rintro e w2 ⟨he, hb⟩
      subst he
      have TB2 := Lib.hid (TB1.out.trans (hb.mono TB1.out.size))
      clear hb TB1
      go_wp2_with fail
      refine (KP.out _ (HT.out.below TB2.out)).mono ?_
      rintro e w3 ⟨he, hb⟩
      subst he
      have TB3 := Lib.hid (TB2.out.trans (hb.mono TB2.out.size))
      clear hb TB2
      go_wp2_with fail
      refine (KQ.out _ (HT.out.below TB3.out)).mono ?_
      rintro e w4 ⟨he, hb⟩
      subst he
      have TB4 := Lib.hid (TB3.out.trans (hb.mono TB3.out.size))
      clear hb TB3
      go_wp2_with fail
      refine (KA.out _ (HT.out.below TB4.out)).mono ?_
      rintro e w5 ⟨he, hb⟩
      subst he
      have TB5 := Lib.hid (TB4.out.trans (hb.mono TB4.out.size))
      clear hb TB4
      go_wp2_with fail
      refine (KB.out _ (HT.out.below TB5.out)).mono ?_
      rintro e w6 ⟨he, hb⟩
      subst he
      have TB6 := Lib.hid (TB5.out.trans (hb.mono TB5.out.size))
      clear hb TB5
      go_wp2_with fail
      refine (KX.out _ (HT.out.below TB6.out)).mono ?_
      rintro e w7 ⟨he, hb⟩
      subst he
      have TB7 := Lib.hid (TB6.out.trans (hb.mono TB6.out.size))
      clear hb TB6
      go_wp2_with fail
      refine (KM.out _ (HT.out.below TB7.out)).mono ?_
      rintro e w8 ⟨he, hb⟩
      subst he
      have TB8 := Lib.hid (TB7.out.trans (hb.mono TB7.out.size))
      clear hb TB7
      go_wp2_with fail
      refine (KX.out _ (HT.out.below TB8.out)).mono ?_
      rintro e w9 ⟨he, hb⟩
      subst he
      have TB9 := Lib.hid (TB8.out.trans (hb.mono TB8.out.size))
      clear hb TB8
      go_wp2_with fail
      refine (KY.out _ (HT.out.below TB9.out)).mono ?_
      rintro e w10 ⟨he, hb⟩
      subst he
      have TB10 := Lib.hid (TB9.out.trans (hb.mono TB9.out.size))
      clear hb TB9
      go_wp2_with fail
      refine (KJ.out _ (HT.out.below TB10.out)).mono ?_
      rintro e w11 ⟨he, hb⟩
      subst he
      have TB11 := Lib.hid (TB10.out.trans (hb.mono TB10.out.size))
      clear hb TB10
      go_wp2_with fail
      refine (KX.out _ (HT.out.below TB11.out)).mono ?_
      rintro e w12 ⟨he, hb⟩
      subst he
      have TB12 := Lib.hid (TB11.out.trans (hb.mono TB11.out.size))
      clear hb TB11
      go_wp2_with fail
      go_ret
      exact ⟨rfl, TB12.out⟩
  · rw [hj] at KJ
    rw [j3 hj] at KK
    cases ha : (rch x ka).getLsbD kb
    · have d8 := bit0 _ _ _ ha
      rw [ha] at j2
      simp only [if_true, if_false, Bool.false_eq_true] at j2
      rw [j2] at KQ
      have q8 : ((prt x - 1) == (prt x - 1)) = true := by simp
      clear hj ha j2 j3
      go_enter Tryd.func4, Tryd.ntmps4
      go_wp2_with fail
      refine (first21 _ (HT.out.below TB0.out)).mono ?_
      rintro e w1 ⟨he, hb⟩
      subst he
      have TB1 := Lib.hid (TB0.out.trans (hb.mono TB0.out.size))
      clear hb TB0
      go_wp2_with fail
      refine (N0.out _).mono ?_
      rintro e w' ⟨he, rfl⟩
      subst he
      go_wp2_with fail
      refine (N1.out _).mono ?_
      rintro e w' ⟨he, rfl⟩
      subst he
      go_wp2_with fail
      refine (N2.out _).mono ?_
      rintro e w' ⟨he, rfl⟩
      subst he
      go_wp2_with fail
      refine (N3.out _).mono ?_
      rintro e w' ⟨he, rfl⟩
      subst he
      go_wp2_with fail
      refine (KE.out _ (HT.out.below TB1.out)).mono ?_
      rintro e w2 ⟨he, hb⟩
      subst he
      have TB2 := Lib.hid (TB1.out.trans (hb.mono TB1.out.size))
      clear hb TB1
      go_wp2_with fail
      refine (KP.out _ (HT.out.below TB2.out)).mono ?_
      rintro e w3 ⟨he, hb⟩
      subst he
      have TB3 := Lib.hid (TB2.out.trans (hb.mono TB2.out.size))
      clear hb TB2
      go_wp2_with fail
      refine (KQ.out _ (HT.out.below TB3.out)).mono ?_
      rintro e w4 ⟨he, hb⟩
      subst he
      have TB4 := Lib.hid (TB3.out.trans (hb.mono TB3.out.size))
      clear hb TB3
      go_wp2_with fail
      refine (KA.out _ (HT.out.below TB4.out)).mono ?_
      rintro e w5 ⟨he, hb⟩
      subst he
      have TB5 := Lib.hid (TB4.out.trans (hb.mono TB4.out.size))
      clear hb TB4
      go_wp2_with fail
      refine (KB.out _ (HT.out.below TB5.out)).mono ?_
      rintro e w6 ⟨he, hb⟩
      subst he
      have TB6 := Lib.hid (TB5.out.trans (hb.mono TB5.out.size))
      clear hb TB5
      go_wp2_with fail
      refine (KX.out _ (HT.out.below TB6.out)).mono ?_
      rintro e w7 ⟨he, hb⟩
      subst he
      have TB7 := Lib.hid (TB6.out.trans (hb.mono TB6.out.size))
      clear hb TB6
      go_wp2_with fail
      refine (KM.out _ (HT.out.below TB7.out)).mono ?_
      rintro e w8 ⟨he, hb⟩
      subst he
      have TB8 := Lib.hid (TB7.out.trans (hb.mono TB7.out.size))
      clear hb TB7
      go_wp2_with fail
      refine (KX.out _ (HT.out.below TB8.out)).mono ?_
      rintro e w9 ⟨he, hb⟩
      subst he
      have TB9 := Lib.hid (TB8.out.trans (hb.mono TB8.out.size))
      clear hb TB8
      go_wp2_with fail
      refine (KY.out _ (HT.out.below TB9.out)).mono ?_
      rintro e w10 ⟨he, hb⟩
      subst he
      have TB10 := Lib.hid (TB9.out.trans (hb.mono TB9.out.size))
      clear hb TB9
      go_wp2_with fail
      refine (KJ.out _ (HT.out.below TB10.out)).mono ?_
      rintro e w11 ⟨he, hb⟩
      subst he
      have TB11 := Lib.hid (TB10.out.trans (hb.mono TB10.out.size))
      clear hb TB10
      go_wp2_with fail
      refine (KK.out _ (HT.out.below TB11.out)).mono ?_
      rintro e w12 ⟨he, hb⟩
      subst he
      have TB12 := Lib.hid (TB11.out.trans (hb.mono TB11.out.size))
      clear hb TB11
      go_wp2_with fail
      refine (KX.out _ (HT.out.below TB12.out)).mono ?_
      rintro e w13 ⟨he, hb⟩
      subst he
      have TB13 := Lib.hid (TB12.out.trans (hb.mono TB12.out.size))
      clear hb TB12
      go_wp2_with fail
      go_ret
      exact ⟨rfl, TB13.out⟩
    · have d8 := bit0 _ _ _ ha
      rw [ha] at j2
      simp only [if_true, if_false, Bool.false_eq_true] at j2
      rw [j2] at KQ
      have q8 : (prt x == prt x) = true := by simp
      clear hj ha j2 j3
      go_enter Tryd.func4, Tryd.ntmps4
      go_wp2_with fail
      refine (first21 _ (HT.out.below TB0.out)).mono ?_
      rintro e w1 ⟨he, hb⟩
      subst he
      have TB1 := Lib.hid (TB0.out.trans (hb.mono TB0.out.size))
      clear hb TB0
      go_wp2_with fail
      refine (N0.out _).mono ?_
      rintro e w' ⟨he, rfl⟩
      subst he
      go_wp2_with fail
      refine (N1.out _).mono ?_
      rintro e w' ⟨he, rfl⟩
      subst he
      go_wp2_with fail
      refine (N2.out _).mono ?_
      rintro e w' ⟨he, rfl⟩
      subst he
      go_wp2_with fail
      refine (N3.out _).mono ?_
      rintro e w' ⟨he, rfl⟩
      subst he
      go_wp2_with fail
      refine (KE.out _ (HT.out.below TB1.out)).mono ?_
      rintro e w2 ⟨he, hb⟩
      subst he
      have TB2 := Lib.hid (TB1.out.trans (hb.mono TB1.out.size))
      clear hb TB1
      go_wp2_with fail
      refine (KP.out _ (HT.out.below TB2.out)).mono ?_
      rintro e w3 ⟨he, hb⟩
      subst he
      have TB3 := Lib.hid (TB2.out.trans (hb.mono TB2.out.size))
      clear hb TB2
      go_wp2_with fail
      refine (KQ.out _ (HT.out.below TB3.out)).mono ?_
      rintro e w4 ⟨he, hb⟩
      subst he
      have TB4 := Lib.hid (TB3.out.trans (hb.mono TB3.out.size))
      clear hb TB3
      go_wp2_with fail
      refine (KA.out _ (HT.out.below TB4.out)).mono ?_
      rintro e w5 ⟨he, hb⟩
      subst he
      have TB5 := Lib.hid (TB4.out.trans (hb.mono TB4.out.size))
      clear hb TB4
      go_wp2_with fail
      refine (KB.out _ (HT.out.below TB5.out)).mono ?_
      rintro e w6 ⟨he, hb⟩
      subst he
      have TB6 := Lib.hid (TB5.out.trans (hb.mono TB5.out.size))
      clear hb TB5
      go_wp2_with fail
      refine (KX.out _ (HT.out.below TB6.out)).mono ?_
      rintro e w7 ⟨he, hb⟩
      subst he
      have TB7 := Lib.hid (TB6.out.trans (hb.mono TB6.out.size))
      clear hb TB6
      go_wp2_with fail
      refine (KM.out _ (HT.out.below TB7.out)).mono ?_
      rintro e w8 ⟨he, hb⟩
      subst he
      have TB8 := Lib.hid (TB7.out.trans (hb.mono TB7.out.size))
      clear hb TB7
      go_wp2_with fail
      refine (KX.out _ (HT.out.below TB8.out)).mono ?_
      rintro e w9 ⟨he, hb⟩
      subst he
      have TB9 := Lib.hid (TB8.out.trans (hb.mono TB8.out.size))
      clear hb TB8
      go_wp2_with fail
      refine (KY.out _ (HT.out.below TB9.out)).mono ?_
      rintro e w10 ⟨he, hb⟩
      subst he
      have TB10 := Lib.hid (TB9.out.trans (hb.mono TB9.out.size))
      clear hb TB9
      go_wp2_with fail
      refine (KJ.out _ (HT.out.below TB10.out)).mono ?_
      rintro e w11 ⟨he, hb⟩
      subst he
      have TB11 := Lib.hid (TB10.out.trans (hb.mono TB10.out.size))
      clear hb TB10
      go_wp2_with fail
      refine (KK.out _ (HT.out.below TB11.out)).mono ?_
      rintro e w12 ⟨he, hb⟩
      subst he
      have TB12 := Lib.hid (TB11.out.trans (hb.mono TB11.out.size))
      clear hb TB11
      go_wp2_with fail
      refine (KX.out _ (HT.out.below TB12.out)).mono ?_
      rintro e w13 ⟨he, hb⟩
      subst he
      have TB13 := Lib.hid (TB12.out.trans (hb.mono TB12.out.size))
      clear hb TB12
      go_wp2_with fail
      go_ret
      exact ⟨rfl, TB13.out⟩
end Go.Proofs.YtmnnlimiacdeoaaDoor
