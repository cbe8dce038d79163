/- What the document's own answers on the graph are: the same plain definitions. No condition. -/
import Derived.Test.YtbeemfkndpandaaDoorGraphE
namespace Go.Proofs.YtbeemfkndpandaaDoor
open Go.RowKit
theorem shr_bit (a : Int) (k : Nat) (hk : k < 7) : (bits .and .i64 (a / ((2 ^ k : Nat) : Int)) 1 == 1) = (BitVec.ofInt 7 a).getLsbD k := by
  have h : bits .and .i64 (a / ((2 ^ k : Nat) : Int)) 1 = if (BitVec.ofInt 64 (a / ((2 ^ k : Nat) : Int))).getLsbD 0 then 1 else 0 := big_and _ 0 (by omega)
  rw [h]
  have e : (BitVec.ofInt 64 (a / ((2 ^ k : Nat) : Int))).getLsbD 0 = (BitVec.ofInt 7 a).getLsbD k := by
    show Nat.testBit _ 0 = Nat.testBit _ k
    rw [Nat.testBit_eq_decide_div_mod_eq, Nat.testBit_eq_decide_div_mod_eq, BitVec.toNat_ofInt, BitVec.toNat_ofInt]
    match k, hk with
    | 0, _ | 1, _ | 2, _ | 3, _ | 4, _ | 5, _ | 6, _ => simp only [Nat.reducePow, decide_eq_decide]; omega
  rw [e]
  cases (BitVec.ofInt 7 a).getLsbD k <;> rfl
theorem m7_back (x : BitVec 7) : BitVec.ofInt 7 (m7 x) = x := by
  apply BitVec.eq_of_toNat_eq
  rw [BitVec.toNat_ofInt]
  unfold m7
  have := x.isLt
  omega
theorem shr_facts (a : Int) (m : BitVec 7) (hm : BitVec.ofInt 7 a = m) :
    (bits .and .i64 a 1 == 1) = m.getLsbD 0 ∧ (bits .and .i64 (a / 2) 1 == 1) = m.getLsbD 1 ∧ (bits .and .i64 (a / 4) 1 == 1) = m.getLsbD 2 ∧ (bits .and .i64 (a / 8) 1 == 1) = m.getLsbD 3 ∧
      (bits .and .i64 (a / 16) 1 == 1) = m.getLsbD 4 ∧ (bits .and .i64 (a / 32) 1 == 1) = m.getLsbD 5 ∧ (bits .and .i64 (a / 64) 1 == 1) = m.getLsbD 6 := by
  subst hm
  refine ⟨?_, shr_bit a 1 (by omega), shr_bit a 2 (by omega), shr_bit a 3 (by omega), shr_bit a 4 (by omega), shr_bit a 5 (by omega), shr_bit a 6 (by omega)⟩
  have := shr_bit a 0 (by omega)
  rwa [show ((2 ^ 0 : Nat) : Int) = 1 from rfl, Int.ediv_one] at this
theorem touch7 : ∀ r : Fin 128, ∀ k : Fin 7, ((BitVec.ofFin r : BitVec 7) &&& both k != 0) = (((BitVec.ofFin r : BitVec 7)).getLsbD (eA k) || ((BitVec.ofFin r : BitVec 7)).getLsbD (eB k)) := by decide +kernel
theorem touch (r : BitVec 7) (k : Nat) (hk : k < 7) : (r &&& both k != 0) = (r.getLsbD (eA k) || r.getLsbD (eB k)) := touch7 r.toFin ⟨k, hk⟩
theorem join7 : ∀ r : Fin 128, ∀ k : Fin 7, (BitVec.ofFin r : BitVec 7) ||| bitOf (eA k) ||| bitOf (eB k) = (BitVec.ofFin r : BitVec 7) ||| both k := by decide +kernel
theorem join (r : BitVec 7) (k : Nat) (hk : k < 7) : r ||| bitOf (eA k) ||| bitOf (eB k) = r ||| both k := join7 r.toFin ⟨k, hk⟩
theorem orBit0 (r : BitVec 7) : bits .or .i64 (m7 r) 1 = m7 (r ||| bitOf 0) := by
  have := m7_or r (bitOf 0)
  rwa [show m7 (bitOf 0) = 1 by decide] at this
theorem orBit1 (r : BitVec 7) : bits .or .i64 (m7 r) 2 = m7 (r ||| bitOf 1) := by
  have := m7_or r (bitOf 1)
  rwa [show m7 (bitOf 1) = 2 by decide] at this
theorem orBit2 (r : BitVec 7) : bits .or .i64 (m7 r) 4 = m7 (r ||| bitOf 2) := by
  have := m7_or r (bitOf 2)
  rwa [show m7 (bitOf 2) = 4 by decide] at this
theorem orBit3 (r : BitVec 7) : bits .or .i64 (m7 r) 8 = m7 (r ||| bitOf 3) := by
  have := m7_or r (bitOf 3)
  rwa [show m7 (bitOf 3) = 8 by decide] at this
theorem orBit4 (r : BitVec 7) : bits .or .i64 (m7 r) 16 = m7 (r ||| bitOf 4) := by
  have := m7_or r (bitOf 4)
  rwa [show m7 (bitOf 4) = 16 by decide] at this
theorem orBit5 (r : BitVec 7) : bits .or .i64 (m7 r) 32 = m7 (r ||| bitOf 5) := by
  have := m7_or r (bitOf 5)
  rwa [show m7 (bitOf 5) = 32 by decide] at this
theorem orBit6 (r : BitVec 7) : bits .or .i64 (m7 r) 64 = m7 (r ||| bitOf 6) := by
  have := m7_or r (bitOf 6)
  rwa [show m7 (bitOf 6) = 64 by decide] at this
theorem endsR0 (w : World) :
    Calls Tryd.prog 62 #[.int .i64 0] w fun e w' => e = .returned (.tuple #[.int .i64 0, .int .i64 4]) ∧ w = w' := by
  go_enter Tryd.func62, Tryd.ntmps62
  go_wp2
  go_returns
  exact ⟨rfl, rfl⟩
theorem endsR1 (w : World) :
    Calls Tryd.prog 62 #[.int .i64 1] w fun e w' => e = .returned (.tuple #[.int .i64 1, .int .i64 4]) ∧ w = w' := by
  go_enter Tryd.func62, Tryd.ntmps62
  go_wp2
  go_returns
  exact ⟨rfl, rfl⟩
theorem endsR2 (w : World) :
    Calls Tryd.prog 62 #[.int .i64 2] w fun e w' => e = .returned (.tuple #[.int .i64 2, .int .i64 5]) ∧ w = w' := by
  go_enter Tryd.func62, Tryd.ntmps62
  go_wp2
  go_returns
  exact ⟨rfl, rfl⟩
theorem endsR3 (w : World) :
    Calls Tryd.prog 62 #[.int .i64 3] w fun e w' => e = .returned (.tuple #[.int .i64 3, .int .i64 5]) ∧ w = w' := by
  go_enter Tryd.func62, Tryd.ntmps62
  go_wp2
  go_returns
  exact ⟨rfl, rfl⟩
theorem endsR4 (w : World) :
    Calls Tryd.prog 62 #[.int .i64 4] w fun e w' => e = .returned (.tuple #[.int .i64 4, .int .i64 5]) ∧ w = w' := by
  go_enter Tryd.func62, Tryd.ntmps62
  go_wp2
  go_returns
  exact ⟨rfl, rfl⟩
theorem endsR5 (w : World) :
    Calls Tryd.prog 62 #[.int .i64 5] w fun e w' => e = .returned (.tuple #[.int .i64 4, .int .i64 6]) ∧ w = w' := by
  go_enter Tryd.func62, Tryd.ntmps62
  go_wp2
  go_returns
  exact ⟨rfl, rfl⟩
theorem endsR6 (w : World) :
    Calls Tryd.prog 62 #[.int .i64 6] w fun e w' => e = .returned (.tuple #[.int .i64 5, .int .i64 6]) ∧ w = w' := by
  go_enter Tryd.func62, Tryd.ntmps62
  go_wp2
  go_returns
  exact ⟨rfl, rfl⟩
theorem endsR (c : Nat) (hc : c < 7) (w : World) :
    Calls Tryd.prog 62 #[.int .i64 c] w fun e w' => e = .returned (.tuple #[.int .i64 (eA c), .int .i64 (eB c)]) ∧ w = w' := by
  match c, hc with
  | 0, _ => exact endsR0 w
  | 1, _ => exact endsR1 w
  | 2, _ => exact endsR2 w
  | 3, _ => exact endsR3 w
  | 4, _ => exact endsR4 w
  | 5, _ => exact endsR5 w
  | 6, _ => exact endsR6 w
theorem endsRBad (c : Int) (hc : c < 0 ∨ 7 ≤ c) (w : World) :
    Calls Tryd.prog 62 #[.int .i64 c] w fun e w' => e = .returned (.tuple #[.int .i64 (-1), .int .i64 (-1)]) ∧ w = w' := by
  have e0 : (c == 0) = false := by rw [beq_eq_false_iff_ne]; omega
  have e1 : (c == 1) = false := by rw [beq_eq_false_iff_ne]; omega
  have e2 : (c == 2) = false := by rw [beq_eq_false_iff_ne]; omega
  have e3 : (c == 3) = false := by rw [beq_eq_false_iff_ne]; omega
  have e4 : (c == 4) = false := by rw [beq_eq_false_iff_ne]; omega
  have e5 : (c == 5) = false := by rw [beq_eq_false_iff_ne]; omega
  have e6 : (c == 6) = false := by rw [beq_eq_false_iff_ne]; omega
  clear hc
  go_enter Tryd.func62, Tryd.ntmps62
  go_wp2
  go_returns
  exact ⟨rfl, rfl⟩
theorem reachRBad (a n : Int) (hn : n < 0 ∨ 7 ≤ n) (w : World) :
    Calls Tryd.prog 53 #[.int .i64 a, .int .i64 n] w fun e w' => e = .returned (.int .i64 0) ∧ w = w' := by
  rcases hn with h | h
  all_goals
    go_enter Tryd.func53, Tryd.ntmps53
    go_wp2
    go_ret
    exact ⟨rfl, rfl⟩
set_option maxRecDepth 100000 in
set_option maxHeartbeats 8000000 in
theorem reachR (a : Int) (m : BitVec 7) (hm : BitVec.ofInt 7 a = m) (n : Nat) (hn : n < 7) (w : World) :
    Calls Tryd.prog 53 #[.int .i64 a, .int .i64 n] w fun e w' => e = .returned (.int .i64 (m7 (rch m n))) ∧ w = w' := by
  have e0 := shl7 n hn
  have HM := Lib.hid (shr_facts a m hm)
  clear hm
  go_enter Tryd.func53, Tryd.ntmps53
  go_wp2_with fail
  rw [e0]
  clear e0
  go_loopw [5, 6] (fun v c wr => ∃ i : Nat, i ≤ 7 ∧ c = .int .i64 i ∧ v = .int .i64 (m7 (pass m i (bitOf n))) ∧ w = wr) (fun _ c _ => 7 - (intOf c).toNat)
  case atStart => exact ⟨0, by omega, rfl, rfl, rfl⟩
  case round =>
    obtain ⟨i, hi, rfl, rfl, rfl⟩ := hrel
    by_cases h7 : i = 7
    · subst h7
      clear hi
      go_wp2_with fail
      go_ret
      exact ⟨rfl, rfl⟩
    · go_wp2_with fail
      simp only [show decide ((i : Int) < 7) = true from decide_eq_true (by omega)]
      go_loopw [5, 7] (fun v c wr => ∃ k : Nat, k ≤ 7 ∧ c = .int .i64 k ∧ v = .int .i64 (m7 (fold m k (pass m i (bitOf n)))) ∧ w = wr) (fun _ c _ => 7 - (intOf c).toNat)
      case atStart => exact ⟨0, by omega, rfl, rfl, rfl⟩
      case round =>
        obtain ⟨k, hk, rfl, rfl, rfl⟩ := hrel
        by_cases hk7 : k = 7
        · subst hk7
          clear hk
          go_wp2_with fail
          go_roundw
          case rel => exact ⟨i + 1, by omega, by go_num, rfl, trivial⟩
          case measure => simp [intOf]; omega
        · have hk' : k < 7 := by omega
          have HF := Lib.hid (show fold m (k + 1) (pass m i (bitOf n)) = stp m (fold m k (pass m i (bitOf n))) k from rfl)
          have HS := Lib.hid (shr_facts (m7 (fold m k (pass m i (bitOf n)))) _ (m7_back _))
          have HT := Lib.hid (touch (fold m k (pass m i (bitOf n))) k hk')
          have HJ := Lib.hid (join (fold m k (pass m i (bitOf n))) k hk')
          obtain ⟨r, hr⟩ : ∃ r, r = fold m k (pass m i (bitOf n)) := ⟨_, rfl⟩
          rw [← hr] at HF HS HT HJ ⊢
          clear hr hk'
          match k, hk, hk7 with
          | 0, _, _ =>
            clear hk hk7
            have f1 := HM.out.1
            have f2 := HS.out.1
            have f3 := HS.out.2.2.2.2.1
            have g1 := orBit0 r
            have g2 := orBit4 (r ||| bitOf 0)
            have HT' : Hid ((r &&& both 0 != 0) = (r.getLsbD 0 || r.getLsbD 4)) := HT
            have HJ' : Hid (r ||| bitOf 0 ||| bitOf 4 = r ||| both 0) := HJ
            clear HT HJ
            cases hb : m.getLsbD 0
            · rw [hb] at f1
              have HE := Lib.hid (HF.out.trans (stp_no1 m r 0 hb))
              clear hb
              go_wp2_with fail
              refine (endsR0 _).mono ?_
              rintro e w' ⟨rfl, rfl⟩
              go_wp2
              go_roundw
              case rel => exact ⟨1, by omega, rfl, by rw [HE.out], trivial⟩
              case measure => simp [intOf]
            · rw [hb] at f1
              cases h2 : r.getLsbD 0
              · cases h3 : r.getLsbD 4
                · rw [h2] at f2
                  rw [h3] at f3
                  have HE := Lib.hid (HF.out.trans (stp_no2 m r 0 (by rw [HT'.out, h2, h3]; rfl)))
                  clear hb h2 h3
                  go_wp2_with fail
                  refine (endsR0 _).mono ?_
                  rintro e w' ⟨rfl, rfl⟩
                  go_wp2
                  go_roundw
                  case rel => exact ⟨1, by omega, rfl, by rw [HE.out], trivial⟩
                  case measure => simp [intOf]
                · rw [h2] at f2
                  rw [h3] at f3
                  have HE := Lib.hid (HF.out.trans ((stp_yes m r 0 hb (by rw [HT'.out, h2, h3]; rfl)).trans HJ'.out.symm))
                  clear hb h2 h3
                  go_wp2_with fail
                  refine (endsR0 _).mono ?_
                  rintro e w' ⟨rfl, rfl⟩
                  go_wp2
                  go_roundw
                  case rel => exact ⟨1, by omega, rfl, by rw [HE.out], trivial⟩
                  case measure => simp [intOf]
              · rw [h2] at f2
                have HE := Lib.hid (HF.out.trans ((stp_yes m r 0 hb (by rw [HT'.out, h2]; rfl)).trans HJ'.out.symm))
                clear hb h2 f3
                go_wp2_with fail
                refine (endsR0 _).mono ?_
                rintro e w' ⟨rfl, rfl⟩
                go_wp2
                go_roundw
                case rel => exact ⟨1, by omega, rfl, by rw [HE.out], trivial⟩
                case measure => simp [intOf]
          | 1, _, _ =>
            clear hk hk7
            have f1 := HM.out.2.1
            have f2 := HS.out.2.1
            have f3 := HS.out.2.2.2.2.1
            have g1 := orBit1 r
            have g2 := orBit4 (r ||| bitOf 1)
            have HT' : Hid ((r &&& both 1 != 0) = (r.getLsbD 1 || r.getLsbD 4)) := HT
            have HJ' : Hid (r ||| bitOf 1 ||| bitOf 4 = r ||| both 1) := HJ
            clear HT HJ
            cases hb : m.getLsbD 1
            · rw [hb] at f1
              have HE := Lib.hid (HF.out.trans (stp_no1 m r 1 hb))
              clear hb
              go_wp2_with fail
              refine (endsR1 _).mono ?_
              rintro e w' ⟨rfl, rfl⟩
              go_wp2
              go_roundw
              case rel => exact ⟨2, by omega, rfl, by rw [HE.out], trivial⟩
              case measure => simp [intOf]
            · rw [hb] at f1
              cases h2 : r.getLsbD 1
              · cases h3 : r.getLsbD 4
                · rw [h2] at f2
                  rw [h3] at f3
                  have HE := Lib.hid (HF.out.trans (stp_no2 m r 1 (by rw [HT'.out, h2, h3]; rfl)))
                  clear hb h2 h3
                  go_wp2_with fail
                  refine (endsR1 _).mono ?_
                  rintro e w' ⟨rfl, rfl⟩
                  go_wp2
                  go_roundw
                  case rel => exact ⟨2, by omega, rfl, by rw [HE.out], trivial⟩
                  case measure => simp [intOf]
                · rw [h2] at f2
                  rw [h3] at f3
                  have HE := Lib.hid (HF.out.trans ((stp_yes m r 1 hb (by rw [HT'.out, h2, h3]; rfl)).trans HJ'.out.symm))
                  clear hb h2 h3
                  go_wp2_with fail
                  refine (endsR1 _).mono ?_
                  rintro e w' ⟨rfl, rfl⟩
                  go_wp2
                  go_roundw
                  case rel => exact ⟨2, by omega, rfl, by rw [HE.out], trivial⟩
                  case measure => simp [intOf]
              · rw [h2] at f2
                have HE := Lib.hid (HF.out.trans ((stp_yes m r 1 hb (by rw [HT'.out, h2]; rfl)).trans HJ'.out.symm))
                clear hb h2 f3
                go_wp2_with fail
                refine (endsR1 _).mono ?_
                rintro e w' ⟨rfl, rfl⟩
                go_wp2
                go_roundw
                case rel => exact ⟨2, by omega, rfl, by rw [HE.out], trivial⟩
                case measure => simp [intOf]
          | 2, _, _ =>
            clear hk hk7
            have f1 := HM.out.2.2.1
            have f2 := HS.out.2.2.1
            have f3 := HS.out.2.2.2.2.2.1
            have g1 := orBit2 r
            have g2 := orBit5 (r ||| bitOf 2)
            have HT' : Hid ((r &&& both 2 != 0) = (r.getLsbD 2 || r.getLsbD 5)) := HT
            have HJ' : Hid (r ||| bitOf 2 ||| bitOf 5 = r ||| both 2) := HJ
            clear HT HJ
            cases hb : m.getLsbD 2
            · rw [hb] at f1
              have HE := Lib.hid (HF.out.trans (stp_no1 m r 2 hb))
              clear hb
              go_wp2_with fail
              refine (endsR2 _).mono ?_
              rintro e w' ⟨rfl, rfl⟩
              go_wp2
              go_roundw
              case rel => exact ⟨3, by omega, rfl, by rw [HE.out], trivial⟩
              case measure => simp [intOf]
            · rw [hb] at f1
              cases h2 : r.getLsbD 2
              · cases h3 : r.getLsbD 5
                · rw [h2] at f2
                  rw [h3] at f3
                  have HE := Lib.hid (HF.out.trans (stp_no2 m r 2 (by rw [HT'.out, h2, h3]; rfl)))
                  clear hb h2 h3
                  go_wp2_with fail
                  refine (endsR2 _).mono ?_
                  rintro e w' ⟨rfl, rfl⟩
                  go_wp2
                  go_roundw
                  case rel => exact ⟨3, by omega, rfl, by rw [HE.out], trivial⟩
                  case measure => simp [intOf]
                · rw [h2] at f2
                  rw [h3] at f3
                  have HE := Lib.hid (HF.out.trans ((stp_yes m r 2 hb (by rw [HT'.out, h2, h3]; rfl)).trans HJ'.out.symm))
                  clear hb h2 h3
                  go_wp2_with fail
                  refine (endsR2 _).mono ?_
                  rintro e w' ⟨rfl, rfl⟩
                  go_wp2
                  go_roundw
                  case rel => exact ⟨3, by omega, rfl, by rw [HE.out], trivial⟩
                  case measure => simp [intOf]
              · rw [h2] at f2
                have HE := Lib.hid (HF.out.trans ((stp_yes m r 2 hb (by rw [HT'.out, h2]; rfl)).trans HJ'.out.symm))
                clear hb h2 f3
                go_wp2_with fail
                refine (endsR2 _).mono ?_
                rintro e w' ⟨rfl, rfl⟩
                go_wp2
                go_roundw
                case rel => exact ⟨3, by omega, rfl, by rw [HE.out], trivial⟩
                case measure => simp [intOf]
          | 3, _, _ =>
            clear hk hk7
            have f1 := HM.out.2.2.2.1
            have f2 := HS.out.2.2.2.1
            have f3 := HS.out.2.2.2.2.2.1
            have g1 := orBit3 r
            have g2 := orBit5 (r ||| bitOf 3)
            have HT' : Hid ((r &&& both 3 != 0) = (r.getLsbD 3 || r.getLsbD 5)) := HT
            have HJ' : Hid (r ||| bitOf 3 ||| bitOf 5 = r ||| both 3) := HJ
            clear HT HJ
            cases hb : m.getLsbD 3
            · rw [hb] at f1
              have HE := Lib.hid (HF.out.trans (stp_no1 m r 3 hb))
              clear hb
              go_wp2_with fail
              refine (endsR3 _).mono ?_
              rintro e w' ⟨rfl, rfl⟩
              go_wp2
              go_roundw
              case rel => exact ⟨4, by omega, rfl, by rw [HE.out], trivial⟩
              case measure => simp [intOf]
            · rw [hb] at f1
              cases h2 : r.getLsbD 3
              · cases h3 : r.getLsbD 5
                · rw [h2] at f2
                  rw [h3] at f3
                  have HE := Lib.hid (HF.out.trans (stp_no2 m r 3 (by rw [HT'.out, h2, h3]; rfl)))
                  clear hb h2 h3
                  go_wp2_with fail
                  refine (endsR3 _).mono ?_
                  rintro e w' ⟨rfl, rfl⟩
                  go_wp2
                  go_roundw
                  case rel => exact ⟨4, by omega, rfl, by rw [HE.out], trivial⟩
                  case measure => simp [intOf]
                · rw [h2] at f2
                  rw [h3] at f3
                  have HE := Lib.hid (HF.out.trans ((stp_yes m r 3 hb (by rw [HT'.out, h2, h3]; rfl)).trans HJ'.out.symm))
                  clear hb h2 h3
                  go_wp2_with fail
                  refine (endsR3 _).mono ?_
                  rintro e w' ⟨rfl, rfl⟩
                  go_wp2
                  go_roundw
                  case rel => exact ⟨4, by omega, rfl, by rw [HE.out], trivial⟩
                  case measure => simp [intOf]
              · rw [h2] at f2
                have HE := Lib.hid (HF.out.trans ((stp_yes m r 3 hb (by rw [HT'.out, h2]; rfl)).trans HJ'.out.symm))
                clear hb h2 f3
                go_wp2_with fail
                refine (endsR3 _).mono ?_
                rintro e w' ⟨rfl, rfl⟩
                go_wp2
                go_roundw
                case rel => exact ⟨4, by omega, rfl, by rw [HE.out], trivial⟩
                case measure => simp [intOf]
          | 4, _, _ =>
            clear hk hk7
            have f1 := HM.out.2.2.2.2.1
            have f2 := HS.out.2.2.2.2.1
            have f3 := HS.out.2.2.2.2.2.1
            have g1 := orBit4 r
            have g2 := orBit5 (r ||| bitOf 4)
            have HT' : Hid ((r &&& both 4 != 0) = (r.getLsbD 4 || r.getLsbD 5)) := HT
            have HJ' : Hid (r ||| bitOf 4 ||| bitOf 5 = r ||| both 4) := HJ
            clear HT HJ
            cases hb : m.getLsbD 4
            · rw [hb] at f1
              have HE := Lib.hid (HF.out.trans (stp_no1 m r 4 hb))
              clear hb
              go_wp2_with fail
              refine (endsR4 _).mono ?_
              rintro e w' ⟨rfl, rfl⟩
              go_wp2
              go_roundw
              case rel => exact ⟨5, by omega, rfl, by rw [HE.out], trivial⟩
              case measure => simp [intOf]
            · rw [hb] at f1
              cases h2 : r.getLsbD 4
              · cases h3 : r.getLsbD 5
                · rw [h2] at f2
                  rw [h3] at f3
                  have HE := Lib.hid (HF.out.trans (stp_no2 m r 4 (by rw [HT'.out, h2, h3]; rfl)))
                  clear hb h2 h3
                  go_wp2_with fail
                  refine (endsR4 _).mono ?_
                  rintro e w' ⟨rfl, rfl⟩
                  go_wp2
                  go_roundw
                  case rel => exact ⟨5, by omega, rfl, by rw [HE.out], trivial⟩
                  case measure => simp [intOf]
                · rw [h2] at f2
                  rw [h3] at f3
                  have HE := Lib.hid (HF.out.trans ((stp_yes m r 4 hb (by rw [HT'.out, h2, h3]; rfl)).trans HJ'.out.symm))
                  clear hb h2 h3
                  go_wp2_with fail
                  refine (endsR4 _).mono ?_
                  rintro e w' ⟨rfl, rfl⟩
                  go_wp2
                  go_roundw
                  case rel => exact ⟨5, by omega, rfl, by rw [HE.out], trivial⟩
                  case measure => simp [intOf]
              · rw [h2] at f2
                have HE := Lib.hid (HF.out.trans ((stp_yes m r 4 hb (by rw [HT'.out, h2]; rfl)).trans HJ'.out.symm))
                clear hb h2 f3
                go_wp2_with fail
                refine (endsR4 _).mono ?_
                rintro e w' ⟨rfl, rfl⟩
                go_wp2
                go_roundw
                case rel => exact ⟨5, by omega, rfl, by rw [HE.out], trivial⟩
                case measure => simp [intOf]
          | 5, _, _ =>
            clear hk hk7
            have f1 := HM.out.2.2.2.2.2.1
            have f2 := HS.out.2.2.2.2.1
            have f3 := HS.out.2.2.2.2.2.2
            have g1 := orBit4 r
            have g2 := orBit6 (r ||| bitOf 4)
            have HT' : Hid ((r &&& both 5 != 0) = (r.getLsbD 4 || r.getLsbD 6)) := HT
            have HJ' : Hid (r ||| bitOf 4 ||| bitOf 6 = r ||| both 5) := HJ
            clear HT HJ
            cases hb : m.getLsbD 5
            · rw [hb] at f1
              have HE := Lib.hid (HF.out.trans (stp_no1 m r 5 hb))
              clear hb
              go_wp2_with fail
              refine (endsR5 _).mono ?_
              rintro e w' ⟨rfl, rfl⟩
              go_wp2
              go_roundw
              case rel => exact ⟨6, by omega, rfl, by rw [HE.out], trivial⟩
              case measure => simp [intOf]
            · rw [hb] at f1
              cases h2 : r.getLsbD 4
              · cases h3 : r.getLsbD 6
                · rw [h2] at f2
                  rw [h3] at f3
                  have HE := Lib.hid (HF.out.trans (stp_no2 m r 5 (by rw [HT'.out, h2, h3]; rfl)))
                  clear hb h2 h3
                  go_wp2_with fail
                  refine (endsR5 _).mono ?_
                  rintro e w' ⟨rfl, rfl⟩
                  go_wp2
                  go_roundw
                  case rel => exact ⟨6, by omega, rfl, by rw [HE.out], trivial⟩
                  case measure => simp [intOf]
                · rw [h2] at f2
                  rw [h3] at f3
                  have HE := Lib.hid (HF.out.trans ((stp_yes m r 5 hb (by rw [HT'.out, h2, h3]; rfl)).trans HJ'.out.symm))
                  clear hb h2 h3
                  go_wp2_with fail
                  refine (endsR5 _).mono ?_
                  rintro e w' ⟨rfl, rfl⟩
                  go_wp2
                  go_roundw
                  case rel => exact ⟨6, by omega, rfl, by rw [HE.out], trivial⟩
                  case measure => simp [intOf]
              · rw [h2] at f2
                have HE := Lib.hid (HF.out.trans ((stp_yes m r 5 hb (by rw [HT'.out, h2]; rfl)).trans HJ'.out.symm))
                clear hb h2 f3
                go_wp2_with fail
                refine (endsR5 _).mono ?_
                rintro e w' ⟨rfl, rfl⟩
                go_wp2
                go_roundw
                case rel => exact ⟨6, by omega, rfl, by rw [HE.out], trivial⟩
                case measure => simp [intOf]
          | 6, _, _ =>
            clear hk hk7
            have f1 := HM.out.2.2.2.2.2.2
            have f2 := HS.out.2.2.2.2.2.1
            have f3 := HS.out.2.2.2.2.2.2
            have g1 := orBit5 r
            have g2 := orBit6 (r ||| bitOf 5)
            have HT' : Hid ((r &&& both 6 != 0) = (r.getLsbD 5 || r.getLsbD 6)) := HT
            have HJ' : Hid (r ||| bitOf 5 ||| bitOf 6 = r ||| both 6) := HJ
            clear HT HJ
            cases hb : m.getLsbD 6
            · rw [hb] at f1
              have HE := Lib.hid (HF.out.trans (stp_no1 m r 6 hb))
              clear hb
              go_wp2_with fail
              refine (endsR6 _).mono ?_
              rintro e w' ⟨rfl, rfl⟩
              go_wp2
              go_roundw
              case rel => exact ⟨7, by omega, rfl, by rw [HE.out], trivial⟩
              case measure => simp [intOf]
            · rw [hb] at f1
              cases h2 : r.getLsbD 5
              · cases h3 : r.getLsbD 6
                · rw [h2] at f2
                  rw [h3] at f3
                  have HE := Lib.hid (HF.out.trans (stp_no2 m r 6 (by rw [HT'.out, h2, h3]; rfl)))
                  clear hb h2 h3
                  go_wp2_with fail
                  refine (endsR6 _).mono ?_
                  rintro e w' ⟨rfl, rfl⟩
                  go_wp2
                  go_roundw
                  case rel => exact ⟨7, by omega, rfl, by rw [HE.out], trivial⟩
                  case measure => simp [intOf]
                · rw [h2] at f2
                  rw [h3] at f3
                  have HE := Lib.hid (HF.out.trans ((stp_yes m r 6 hb (by rw [HT'.out, h2, h3]; rfl)).trans HJ'.out.symm))
                  clear hb h2 h3
                  go_wp2_with fail
                  refine (endsR6 _).mono ?_
                  rintro e w' ⟨rfl, rfl⟩
                  go_wp2
                  go_roundw
                  case rel => exact ⟨7, by omega, rfl, by rw [HE.out], trivial⟩
                  case measure => simp [intOf]
              · rw [h2] at f2
                have HE := Lib.hid (HF.out.trans ((stp_yes m r 6 hb (by rw [HT'.out, h2]; rfl)).trans HJ'.out.symm))
                clear hb h2 f3
                go_wp2_with fail
                refine (endsR6 _).mono ?_
                rintro e w' ⟨rfl, rfl⟩
                go_wp2
                go_roundw
                case rel => exact ⟨7, by omega, rfl, by rw [HE.out], trivial⟩
                case measure => simp [intOf]
          | k + 7, hk, _ => omega
end Go.Proofs.YtbeemfkndpandaaDoor
