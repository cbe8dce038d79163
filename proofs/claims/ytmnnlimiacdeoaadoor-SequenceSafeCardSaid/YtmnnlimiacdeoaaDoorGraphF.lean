/- The laws of chapter 21 that ask for no other answer hold: each call returns true. Conditions: the arguments are numbers of 64 bits; the table of ends lies in memory as the program's text lays it. -/
import Derived.Test.YtmnnlimiacdeoaaDoorGraphL
namespace Go.Proofs.YtmnnlimiacdeoaaDoor
open Go.RowKit
theorem reachM (x : BitVec 7) (n : Nat) (hn : n < 7) (w : World) (hT : Tab w) :
    Calls Tryd.prog 13 #[.int .i64 (m7 x), .int .i64 n] w fun e w' => e = .returned (.int .i64 (m7 (rch x n))) ∧ Below w.heap.size w w' := reachC _ x (m7_back x) n hn w hT
theorem feedsM (x : BitVec 7) (n : Nat) (h4 : 4 ≤ n) (hn : n < 7) (w : World) (hT : Tab w) :
    Calls Tryd.prog 17 #[.int .i64 (m7 x), .int .i64 n] w fun e w' => e = .returned (.int .i64 (fds x n)) ∧ Below w.heap.size w w' := feedsC _ x (m7_back x) n h4 hn w hT
theorem partsM (x : BitVec 7) (w : World) (hT : Tab w) :
    Calls Tryd.prog 19 #[.int .i64 (m7 x)] w fun e w' => e = .returned (.int .i64 (prt x)) ∧ Below w.heap.size w w' := partsC _ x (m7_back x) w hT
theorem joinedM (x : BitVec 7) (w : World) (hT : Tab w) :
    Calls Tryd.prog 15 #[.int .i64 (m7 x)] w fun e w' => e = .returned (.bool (jnd x)) ∧ Below w.heap.size w w' := joinedC _ x (m7_back x) w hT
theorem number7 (n : Int) (w : World) :
    Calls Tryd.prog 21 #[.int .i64 n, .int .i64 128] w fun e w' => e = .returned (.int .i64 (m7 (BitVec.ofInt 7 n))) ∧ w = w' := by
  have key : m7 (BitVec.ofInt 7 n) = n % 128 := by
    unfold m7; rw [BitVec.toNat_ofInt]; omega
  rw [key]
  exact numberB n 128 (by omega) (by omega) w
theorem bit1 (x : BitVec 7) (i : Nat) (b : Bool) (h : x.getLsbD i = b) : (bits .and .i64 (m7 x / 2 ^ i) 1 == 1) = b := by
  rw [bitAt, h]; cases b <;> rfl
theorem bit0 (x : BitVec 7) (i : Nat) (b : Bool) (h : x.getLsbD i = b) : (bits .and .i64 (m7 x / 2 ^ i) 1 == 0) = !b := by
  rw [bitAt, h]; cases b <;> rfl
theorem feedsFacts7 : ∀ x : Fin 128, ∀ q : Fin 3, (fds (BitVec.ofFin x : BitVec 7) (4 + q.val) = -1 ∧ popF (rch (BitVec.ofFin x : BitVec 7) (4 + q.val)) 4 ≠ 1) ∨
    ∃ t : Fin 4, fds (BitVec.ofFin x : BitVec 7) (4 + q.val) = (t.val : Int) ∧ popF (rch (BitVec.ofFin x : BitVec 7) (4 + q.val)) 4 = 1 ∧ (rch (BitVec.ofFin x : BitVec 7) t.val).getLsbD (4 + q.val) = true := by decide +kernel
theorem feedsFacts (x : BitVec 7) (b : Nat) (h4 : 4 ≤ b) (h7 : b < 7) : (fds x b = -1 ∧ popF (rch x b) 4 ≠ 1) ∨
    ∃ t : Nat, t < 4 ∧ fds x b = (t : Int) ∧ popF (rch x b) 4 = 1 ∧ (rch x t).getLsbD b = true := by
  obtain ⟨q, rfl⟩ : ∃ q, b = 4 + q := ⟨b - 4, by omega⟩
  rcases feedsFacts7 x.toFin ⟨q, by omega⟩ with h | ⟨t, h1, h2, h3⟩
  · exact Or.inl h
  · exact Or.inr ⟨t.val, t.isLt, h1, h2, h3⟩
set_option maxRecDepth 100000 in
set_option maxHeartbeats 8000000 in
theorem walkGraphFeeds (a c : Int) (_w0 : (Lit.int .i64 a).wf = true) (_w1 : (Lit.int .i64 c).wf = true) (w : World) (hT : Tab w) :
    Calls Tryd.prog 6 #[.int .i64 a, .int .i64 c] w fun e w' => e = .returned (.bool true) ∧ Below w.heap.size w w' := by
  have HT := Lib.hid hT
  clear hT _w0 _w1
  have TB0 := Lib.hid (Below.refl w.heap.size w)
  have N0 := Lib.hid fun (w : World) => number7 a w
  generalize BitVec.ofInt 7 a = x at *
  have hq1 := Int.emod_nonneg c (show (3 : Int) ≠ 0 by omega)
  have hq2 := Int.emod_lt_of_pos c (show (0 : Int) < 3 by omega)
  have N1 := Lib.hid fun (w : World) => numberB c 3 (by omega) (by omega) w
  generalize c % 3 = q0 at *
  obtain ⟨q, rfl⟩ := Int.eq_ofNat_of_zero_le hq1
  obtain ⟨b, hb⟩ : ∃ b : Nat, 4 + (q : Int) = b := ⟨4 + q, by omega⟩
  have h4 : 4 ≤ b := by omega
  have h7 : b < 7 := by omega
  have hq3 : q < 3 := by omega
  have HBQ := Lib.hid hb
  clear hb hq1 hq2
  have KF := Lib.hid fun w hT => feedsM x b h4 h7 w hT
  have KR := Lib.hid fun w hT => reachM x b h7 w hT
  have KG := Lib.hid fun w => feedsR (m7 x) x (m7_back x) b h4 h7 w
  have LE := Lib.hid (popF_le (rch x b))
  rcases feedsFacts x b h4 h7 with ⟨f1, f2⟩ | ⟨t, t4, f1, f2, f3⟩
  · rw [f1] at KF
    rw [f1] at KG
    clear f1
    go_enter Tryd.func6, Tryd.ntmps6
    go_wp2_with fail
    refine (first21 _ (HT.out.below TB0.out)).mono ?_
    rintro e w1 ⟨he, hb⟩
    subst he
    have TB1 := Lib.hid (TB0.out.trans (hb.mono TB0.out.size))
    clear hb TB0
    go_wp2_with fail
    refine (N0.out _).mono ?_
    rintro e w' ⟨he, rfl⟩
    subst he
    go_wp2_with fail
    refine (N1.out _).mono ?_
    rintro e w' ⟨he, rfl⟩
    subst he
    go_wp2_with fail
    rw [HBQ.out]
    refine (KF.out _ (HT.out.below TB1.out)).mono ?_
    rintro e w2 ⟨he, hb⟩
    subst he
    have TB2 := Lib.hid (TB1.out.trans (hb.mono TB1.out.size))
    clear hb TB1
    go_wp2_with fail
    go_loopw [7, 8] (fun p c wr => ∃ i : Nat, i ≤ 4 ∧ c = .int .i64 i ∧ p = .int .i64 (popF (rch x b) i) ∧ Below w.heap.size w wr) (fun _ c _ => 4 - (intOf c).toNat)
    case atStart => exact ⟨0, by omega, rfl, rfl, TB2.out⟩
    case round =>
      obtain ⟨i, hi, rfl, rfl, hb⟩ := hrel
      clear TB2
      have TB0 := Lib.hid hb
      clear hb
      by_cases hi4 : i = 4
      · subst hi4
        have e1 : ((popF (rch x b) 4 : Int) != 1) = true := by rw [bne_iff_ne]; omega
        clear f2
        go_wp2_with fail
        go_ret
        exact ⟨rfl, TB0.out⟩
      · have hl := LE.out i
        have HP := Lib.hid (show popF (rch x b) (i + 1) = popF (rch x b) i + (if (rch x b).getLsbD i then 1 else 0) from rfl)
        cases hc : (rch x b).getLsbD i
        · have e1 := bit1 _ _ _ hc
          rw [hc] at HP
          clear hc
          go_wp2_with fail
          refine (KR.out _ (HT.out.below TB0.out)).mono ?_
          rintro e w1 ⟨rfl, hb⟩
          have TB1 := Lib.hid (TB0.out.trans (hb.mono TB0.out.size))
          clear hb TB0
          go_wp2_with fail
          go_roundw
          case rel => exact ⟨i + 1, by omega, by go_num, by rw [HP.out]; rfl, TB1.out⟩
          case measure => simp [intOf]; omega
        · have e1 := bit1 _ _ _ hc
          rw [hc] at HP
          clear hc
          go_wp2_with fail
          refine (KR.out _ (HT.out.below TB0.out)).mono ?_
          rintro e w1 ⟨rfl, hb⟩
          have TB1 := Lib.hid (TB0.out.trans (hb.mono TB0.out.size))
          clear hb TB0
          go_wp2_with fail
          go_roundw
          case rel => exact ⟨i + 1, by omega, by go_num, by rw [HP.out]; go_num, TB1.out⟩
          case measure => simp [intOf]; omega
  · have KL := Lib.hid fun (w : World) (_ : Tab w) => feedsLow (m7 x) 0 (by omega) w
    have KH := Lib.hid fun (w : World) (hT : Tab w) => feedsHigh (m7 x) 7 (by omega) w hT
    rw [f1] at KF
    rw [f1] at KG
    clear f1
    go_enter Tryd.func6, Tryd.ntmps6
    go_wp2_with fail
    refine (first21 _ (HT.out.below TB0.out)).mono ?_
    rintro e w1 ⟨he, hb⟩
    subst he
    have TB1 := Lib.hid (TB0.out.trans (hb.mono TB0.out.size))
    clear hb TB0
    go_wp2_with fail
    refine (N0.out _).mono ?_
    rintro e w' ⟨he, rfl⟩
    subst he
    go_wp2_with fail
    refine (N1.out _).mono ?_
    rintro e w' ⟨he, rfl⟩
    subst he
    go_wp2_with fail
    rw [HBQ.out]
    refine (KF.out _ (HT.out.below TB1.out)).mono ?_
    rintro e w2 ⟨he, hb⟩
    subst he
    have TB2 := Lib.hid (TB1.out.trans (hb.mono TB1.out.size))
    clear hb TB1
    go_wp2_with fail
    go_loopw [7, 8] (fun p c wr => ∃ i : Nat, i ≤ 4 ∧ c = .int .i64 i ∧ p = .int .i64 (popF (rch x b) i) ∧ Below w.heap.size w wr) (fun _ c _ => 4 - (intOf c).toNat)
    case atStart => exact ⟨0, by omega, rfl, rfl, TB2.out⟩
    case round =>
      obtain ⟨i, hi, rfl, rfl, hb⟩ := hrel
      clear TB2
      have TB0 := Lib.hid hb
      clear hb
      by_cases hi4 : i = 4
      · subst hi4
        have e1 : ((popF (rch x b) 4 : Int) == 1) = true := by rw [f2]; rfl
        have e2 := bit1 _ _ _ f3
        have e3 : ((t : Int) == t) = true := by simp
        clear f2 f3
        go_wp2_with fail
        refine (reachM x t (by omega) _ (HT.out.below TB0.out)).mono ?_
        rintro e w1 ⟨he, hb⟩
        subst he
        have TB1 := Lib.hid (TB0.out.trans (hb.mono TB0.out.size))
        clear hb TB0
        go_wp2_with fail
        refine (KL.out _ (HT.out.below TB1.out)).mono ?_
        rintro e w2 ⟨he, hb⟩
        subst he
        have TB2 := Lib.hid (TB1.out.trans (hb.mono TB1.out.size))
        clear hb TB1
        go_wp2_with fail
        refine (KH.out _ (HT.out.below TB2.out)).mono ?_
        rintro e w3 ⟨he, hb⟩
        subst he
        have TB3 := Lib.hid (TB2.out.trans (hb.mono TB2.out.size))
        clear hb TB2
        go_wp2_with fail
        refine (KG.out _).mono ?_
        rintro e w' ⟨he, rfl⟩
        subst he
        go_wp2_with fail
        go_ret
        exact ⟨rfl, TB3.out⟩
      · have hl := LE.out i
        have HP := Lib.hid (show popF (rch x b) (i + 1) = popF (rch x b) i + (if (rch x b).getLsbD i then 1 else 0) from rfl)
        cases hc : (rch x b).getLsbD i
        · have e1 := bit1 _ _ _ hc
          rw [hc] at HP
          clear hc
          go_wp2_with fail
          refine (KR.out _ (HT.out.below TB0.out)).mono ?_
          rintro e w1 ⟨rfl, hb⟩
          have TB1 := Lib.hid (TB0.out.trans (hb.mono TB0.out.size))
          clear hb TB0
          go_wp2_with fail
          go_roundw
          case rel => exact ⟨i + 1, by omega, by go_num, by rw [HP.out]; rfl, TB1.out⟩
          case measure => simp [intOf]; omega
        · have e1 := bit1 _ _ _ hc
          rw [hc] at HP
          clear hc
          go_wp2_with fail
          refine (KR.out _ (HT.out.below TB0.out)).mono ?_
          rintro e w1 ⟨rfl, hb⟩
          have TB1 := Lib.hid (TB0.out.trans (hb.mono TB0.out.size))
          clear hb TB0
          go_wp2_with fail
          go_roundw
          case rel => exact ⟨i + 1, by omega, by go_num, by rw [HP.out]; go_num, TB1.out⟩
          case measure => simp [intOf]; omega
end Go.Proofs.YtmnnlimiacdeoaaDoor
