/- GraphEnds and GraphJoins hold: each call returns true. Conditions: the arguments are numbers of 64 bits; the table of ends lies in memory as the program's text lays it. -/
import Derived.Test.YtmnnlimiacdeoaaDoorGraphF
namespace Go.Proofs.YtmnnlimiacdeoaaDoor
open Go.RowKit
theorem alone7 : ∀ c : Fin 7, ∀ n : Fin 7, rch (bitOf c.val) n.val = (if n.val = eA c.val ∨ n.val = eB c.val then both c.val else bitOf n.val) := by decide +kernel
theorem alone (c n : Nat) (hc : c < 7) (hn : n < 7) : rch (bitOf c) n = (if n = eA c ∨ n = eB c then both c else bitOf n) := alone7 ⟨c, hc⟩ ⟨n, hn⟩
theorem empty7 : ∀ n : Fin 7, rch 0 n.val = bitOf n.val := by decide +kernel
theorem empty (n : Nat) (hn : n < 7) : rch 0 n = bitOf n := empty7 ⟨n, hn⟩
theorem one7 : ∀ c : Fin 7, prt (bitOf c.val) = 6 ∧ jnd (bitOf c.val) = false ∧ eA c.val < 7 ∧ eB c.val < 7 ∧ eA c.val ≠ eB c.val ∧ bitOf (eA c.val) ||| bitOf (eB c.val) = both c.val := by decide +kernel
theorem one (c : Nat) (hc : c < 7) : prt (bitOf c) = 6 ∧ jnd (bitOf c) = false ∧ eA c < 7 ∧ eB c < 7 ∧ eA c ≠ eB c ∧ bitOf (eA c) ||| bitOf (eB c) = both c := one7 ⟨c, hc⟩
theorem nat_eq (a b : Nat) : ((a : Int) == (b : Int)) = decide (a = b) := by
  by_cases h : a = b
  · subst h; simp
  · rw [decide_eq_false h, beq_eq_false_iff_ne]; omega
set_option maxRecDepth 100000 in
set_option maxHeartbeats 8000000 in
theorem walkGraphEnds (c r : Int) (_w0 : (Lit.int .i64 c).wf = true) (_w1 : (Lit.int .i64 r).wf = true) (w : World) (hT : Tab w) :
    Calls Tryd.prog 5 #[.int .i64 c, .int .i64 r] w fun e w' => e = .returned (.bool true) ∧ Below w.heap.size w w' := by
  have HT := Lib.hid hT
  clear hT _w0 _w1
  have TB0 := Lib.hid (Below.refl w.heap.size w)
  have hc1 := Int.emod_nonneg c (show (7 : Int) ≠ 0 by omega)
  have hc2 := Int.emod_lt_of_pos c (show (0 : Int) < 7 by omega)
  have N0 := Lib.hid fun (w : World) => numberB c 7 (by omega) (by omega) w
  have hr1 := Int.emod_nonneg r (show (1000 : Int) ≠ 0 by omega)
  have hr2 := Int.emod_lt_of_pos r (show (0 : Int) < 1000 by omega)
  have N1 := Lib.hid fun (w : World) => numberB r 1000 (by omega) (by omega) w
  generalize c % 7 = c0 at *
  generalize r % 1000 = r0 at *
  obtain ⟨k, rfl⟩ := Int.eq_ofNat_of_zero_le hc1
  have hk : k < 7 := by omega
  obtain ⟨g1, g2, g3, g4, g5, g6⟩ := one k hk
  have KE := Lib.hid fun (w : World) (hT : Tab w) => endsC k hk w hT
  have KX := Lib.hid fun (w : World) (_ : Tab w) => endsBad (7 + r0) (Or.inr (by omega)) w
  have AL := Lib.hid fun n (hn : n < 7) => alone k n hk hn
  have es := shl7 k hk
  have KP := Lib.hid fun (w : World) (hT : Tab w) => partsM (bitOf k) w hT
  rw [g1] at KP
  have KQ := Lib.hid fun (w : World) (hT : Tab w) => partsV 127 w hT
  rw [show prt (BitVec.ofInt 7 127) = 1 by decide +kernel] at KQ
  have KJ := Lib.hid fun (w : World) (hT : Tab w) => joinedM (bitOf k) w hT
  rw [g2] at KJ
  have KK := Lib.hid fun (w : World) (hT : Tab w) => joinedV 127 w hT
  rw [show jnd (BitVec.ofInt 7 127) = true by decide +kernel] at KK
  have KZ := Lib.hid fun (w : World) (_ : Tab w) => reachBad 127 7 (Or.inr (by omega)) w
  have ea := shl7 (eA k) g3
  have eb := shl7 (eB k) g4
  have eo := m7_or (bitOf (eA k)) (bitOf (eB k))
  rw [g6] at eo
  generalize eA k = a at *
  generalize eB k = b at *
  have ne : ((a : Int) == (b : Int)) = false := by rw [nat_eq]; exact decide_eq_false g5
  clear g1 g2 g5 g6 hc1 hc2
  go_enter Tryd.func5, Tryd.ntmps5
  go_wp2_with fail
  refine (first21 _ (HT.out.below TB0.out)).mono ?_
  rintro e w1 ⟨he, hb⟩
  subst he
  have TB1 := Lib.hid (TB0.out.trans (hb.mono TB0.out.size))
  clear hb TB0
  go_wp2_with fail
  refine (N0.out _).mono ?_
  rintro e w' ⟨he, rfl⟩
  subst he
  go_wp2_with fail
  refine (KE.out _ (HT.out.below TB1.out)).mono ?_
  rintro e w2 ⟨he, hb⟩
  subst he
  have TB2 := Lib.hid (TB1.out.trans (hb.mono TB1.out.size))
  clear hb TB1
  go_wp2_with fail
  simp only [es, decide_eq_false (show ¬ ((a : Int) < 0) by omega), decide_eq_false (show ¬ ((b : Int) < 0) by omega), decide_eq_false (show ¬ (6 < (a : Int)) by omega), decide_eq_false (show ¬ (6 < (b : Int)) by omega), Bool.or_false]
  go_loopw [9] (fun v wr => ∃ n : Nat, n ≤ 7 ∧ v = .int .i64 n ∧ Below w.heap.size w wr) (fun v _ => 7 - (intOf v).toNat)
  case atStart => exact ⟨0, by omega, rfl, TB2.out⟩
  case round =>
    obtain ⟨n, hn, rfl, hb⟩ := hrel
    clear TB2
    have TB0 := Lib.hid hb
    clear hb
    by_cases h : n = 7
    · subst h
      clear hn
      go_wp2_with fail
      refine (N1.out _).mono ?_
      rintro e w' ⟨he, rfl⟩
      subst he
      go_wp2_with fail
      refine (KX.out _ (HT.out.below TB0.out)).mono ?_
      rintro e w1 ⟨he, hb⟩
      subst he
      have TB1 := Lib.hid (TB0.out.trans (hb.mono TB0.out.size))
      clear hb TB0
      go_wp2_with fail
      refine (KP.out _ (HT.out.below TB1.out)).mono ?_
      rintro e w2 ⟨he, hb⟩
      subst he
      have TB2 := Lib.hid (TB1.out.trans (hb.mono TB1.out.size))
      clear hb TB1
      go_wp2_with fail
      refine (KQ.out _ (HT.out.below TB2.out)).mono ?_
      rintro e w3 ⟨he, hb⟩
      subst he
      have TB3 := Lib.hid (TB2.out.trans (hb.mono TB2.out.size))
      clear hb TB2
      go_wp2_with fail
      refine (KK.out _ (HT.out.below TB3.out)).mono ?_
      rintro e w4 ⟨he, hb⟩
      subst he
      have TB4 := Lib.hid (TB3.out.trans (hb.mono TB3.out.size))
      clear hb TB3
      go_wp2_with fail
      refine (KJ.out _ (HT.out.below TB4.out)).mono ?_
      rintro e w5 ⟨he, hb⟩
      subst he
      have TB5 := Lib.hid (TB4.out.trans (hb.mono TB4.out.size))
      clear hb TB4
      go_wp2_with fail
      refine (KZ.out _ (HT.out.below TB5.out)).mono ?_
      rintro e w6 ⟨he, hb⟩
      subst he
      have TB6 := Lib.hid (TB5.out.trans (hb.mono TB5.out.size))
      clear hb TB5
      go_wp2_with fail
      go_ret
      exact ⟨rfl, TB6.out⟩
    · have hn7 : n < 7 := by omega
      have en := shl7 n hn7
      have KR := Lib.hid fun (w : World) (hT : Tab w) => reachM (bitOf k) n hn7 w hT
      have KO := Lib.hid fun (w : World) (hT : Tab w) => reachC 0 0 rfl n hn7 w hT
      rw [empty n hn7] at KO
      rw [AL.out n hn7] at KR
      have q1 : (m7 (bitOf n) != m7 (bitOf n)) = false := by simp
      have q2 : (m7 (both k) != m7 (both k)) = false := by simp
      by_cases h1 : n = a ∨ n = b
      · rw [if_pos h1] at KR
        by_cases h2 : n = a
        · have t1 : ((n : Int) == (a : Int)) = true := by rw [nat_eq]; exact decide_eq_true h2
          clear h1 h2
          go_wp2_with fail
          refine (KR.out _ (HT.out.below TB0.out)).mono ?_
          rintro e w1 ⟨he, hb⟩
          subst he
          have TB1 := Lib.hid (TB0.out.trans (hb.mono TB0.out.size))
          clear hb TB0
          go_wp2_with fail
          refine (KO.out _ (HT.out.below TB1.out)).mono ?_
          rintro e w2 ⟨he, hb⟩
          subst he
          have TB2 := Lib.hid (TB1.out.trans (hb.mono TB1.out.size))
          clear hb TB1
          go_wp2_with fail
          go_roundw
          case rel => exact ⟨n + 1, by omega, by go_num, TB2.out⟩
          case measure => simp [intOf]; omega
        · have t1 : ((n : Int) == (a : Int)) = false := by rw [nat_eq]; exact decide_eq_false h2
          have t2 : ((n : Int) == (b : Int)) = true := by rw [nat_eq]; exact decide_eq_true (h1.resolve_left h2)
          clear h1 h2
          go_wp2_with fail
          refine (KR.out _ (HT.out.below TB0.out)).mono ?_
          rintro e w1 ⟨he, hb⟩
          subst he
          have TB1 := Lib.hid (TB0.out.trans (hb.mono TB0.out.size))
          clear hb TB0
          go_wp2_with fail
          refine (KO.out _ (HT.out.below TB1.out)).mono ?_
          rintro e w2 ⟨he, hb⟩
          subst he
          have TB2 := Lib.hid (TB1.out.trans (hb.mono TB1.out.size))
          clear hb TB1
          go_wp2_with fail
          go_roundw
          case rel => exact ⟨n + 1, by omega, by go_num, TB2.out⟩
          case measure => simp [intOf]; omega
      · rw [if_neg h1] at KR
        have t1 : ((n : Int) == (a : Int)) = false := by rw [nat_eq]; exact decide_eq_false fun h => h1 (Or.inl h)
        have t2 : ((n : Int) == (b : Int)) = false := by rw [nat_eq]; exact decide_eq_false fun h => h1 (Or.inr h)
        clear h1
        go_wp2_with fail
        refine (KR.out _ (HT.out.below TB0.out)).mono ?_
        rintro e w1 ⟨he, hb⟩
        subst he
        have TB1 := Lib.hid (TB0.out.trans (hb.mono TB0.out.size))
        clear hb TB0
        go_wp2_with fail
        refine (KO.out _ (HT.out.below TB1.out)).mono ?_
        rintro e w2 ⟨he, hb⟩
        subst he
        have TB2 := Lib.hid (TB1.out.trans (hb.mono TB1.out.size))
        clear hb TB1
        go_wp2_with fail
        go_roundw
        case rel => exact ⟨n + 1, by omega, by go_num, TB2.out⟩
        case measure => simp [intOf]; omega
end Go.Proofs.YtmnnlimiacdeoaaDoor
