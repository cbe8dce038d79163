/- The laws of chapter 23 that ask for the graph hold: each call returns true. Conditions: the arguments are numbers of 64 bits; the table of ends lies in memory as the program's text lays it. -/
import Derived.Test.YtmnnlimiacdeoaaDoorGraphF
namespace Go.Proofs.YtmnnlimiacdeoaaDoor
open Go.RowKit
def nxt (t told maybe : BitVec 7) : BitVec 7 := if (told ||| maybe) &&& ~~~t = 0 then t else told &&& t
def sf (told maybe next : BitVec 7) : Bool := (next &&& ~~~told == 0) || !jnd (next ||| maybe)
theorem m7_zero (x : BitVec 7) : (m7 x == 0) = (x == 0) := by rw [m7_none]; rfl
theorem m7_bne (x y : BitVec 7) : (m7 x != m7 y) = (x != y) := m7_ne x y
theorem nextC (t told maybe : BitVec 7) (w : World) :
    Calls Tryd.prog 23 #[.int .i64 (m7 t), .int .i64 (m7 told), .int .i64 (m7 maybe)] w fun e w' => e = .returned (.int .i64 (m7 (nxt t told maybe))) ∧ w = w' := by
  have e1 := m7_or told maybe
  have e2 := m7_andNot (told ||| maybe) t
  have e4 := m7_and told t
  have e3 := m7_some ((told ||| maybe) &&& ~~~t)
  unfold nxt
  by_cases h : (told ||| maybe) &&& ~~~t = 0
  · rw [if_pos h]
    rw [show ((told ||| maybe) &&& ~~~t != 0) = false by rw [h]; rfl] at e3
    clear h
    go_enter Tryd.func23, Tryd.ntmps23
    go_wp2
    go_ret
    exact ⟨rfl, rfl⟩
  · rw [if_neg h]
    rw [show ((told ||| maybe) &&& ~~~t != 0) = true by simpa using h] at e3
    clear h
    go_enter Tryd.func23, Tryd.ntmps23
    go_wp2
    go_ret
    exact ⟨rfl, rfl⟩
theorem nextR (t told maybe : BitVec 7) (w : World) :
    Calls Tryd.prog 24 #[.int .i64 (m7 t), .int .i64 (m7 told), .int .i64 (m7 maybe)] w fun e w' => e = .returned (.int .i64 (m7 (nxt t told maybe))) ∧ w = w' := by
  have e1 := m7_or told maybe
  have e2 := m7_andNot (told ||| maybe) t
  have e4 := m7_and told t
  have e3 := m7_some ((told ||| maybe) &&& ~~~t)
  unfold nxt
  by_cases h : (told ||| maybe) &&& ~~~t = 0
  · rw [if_pos h]
    rw [show ((told ||| maybe) &&& ~~~t != 0) = false by rw [h]; rfl] at e3
    clear h
    go_enter Tryd.func24, Tryd.ntmps24
    go_wp2
    go_ret
    exact ⟨rfl, rfl⟩
  · rw [if_neg h]
    rw [show ((told ||| maybe) &&& ~~~t != 0) = true by simpa using h] at e3
    clear h
    go_enter Tryd.func24, Tryd.ntmps24
    go_wp2
    go_ret
    exact ⟨rfl, rfl⟩
theorem safeC (told maybe next : BitVec 7) (w : World) (hT : Tab w) :
    Calls Tryd.prog 25 #[.int .i64 (m7 told), .int .i64 (m7 maybe), .int .i64 (m7 next)] w fun e w' => e = .returned (.bool (sf told maybe next)) ∧ Below w.heap.size w w' := by
  have e1 := m7_or next maybe
  have e2 := m7_andNot next told
  have e3 := m7_zero (next &&& ~~~told)
  unfold sf
  cases h : (next &&& ~~~told == 0)
  · rw [h] at e3
    clear h
    go_enter Tryd.func25, Tryd.ntmps25
    go_wp2_with fail
    refine (joinedM (next ||| maybe) _ hT).mono ?_
    rintro e w1 ⟨rfl, hb⟩
    have HB := Lib.hid hb
    clear hb
    go_wp2_with fail
    go_ret
    exact ⟨rfl, HB.out⟩
  · rw [h] at e3
    clear h
    go_enter Tryd.func25, Tryd.ntmps25
    go_wp2_with fail
    go_ret
    exact ⟨rfl, Below.refl _ _⟩
theorem safeR (told maybe next : BitVec 7) (w : World) :
    Calls Tryd.prog 26 #[.int .i64 (m7 told), .int .i64 (m7 maybe), .int .i64 (m7 next)] w fun e w' => e = .returned (.bool (sf told maybe next)) ∧ w = w' := by
  have e1 := m7_or next maybe
  have e2 := m7_andNot next told
  have e3 := m7_zero (next &&& ~~~told)
  unfold sf
  cases h : (next &&& ~~~told == 0)
  · rw [h] at e3
    clear h
    go_enter Tryd.func26, Tryd.ntmps26
    go_wp2_with fail
    refine (joinedR (m7 (next ||| maybe)) _ (m7_back _) _).mono ?_
    rintro e w1 ⟨rfl, rfl⟩
    go_wp2_with fail
    go_ret
    exact ⟨rfl, rfl⟩
  · rw [h] at e3
    clear h
    go_enter Tryd.func26, Tryd.ntmps26
    go_wp2_with fail
    go_ret
    exact ⟨rfl, rfl⟩
theorem first23 (w : World) : Calls Tryd.prog 22 #[] w fun e w' => e = .returned (.bool true) ∧ w = w' := by
  go_enter Tryd.func22, Tryd.ntmps22
  go_wp2_with fail
  refine (nextC 3 0 4 _).mono ?_; rintro e w' ⟨he, rfl⟩; rw [show m7 (nxt 3 0 4) = 0 by decide] at he; subst he; go_wp2_with fail
  refine (nextC 3 0 0 _).mono ?_; rintro e w' ⟨he, rfl⟩; rw [show m7 (nxt 3 0 0) = 3 by decide] at he; subst he; go_wp2_with fail
  go_ret
  exact ⟨rfl, rfl⟩
set_option maxRecDepth 100000 in
set_option maxHeartbeats 8000000 in
theorem walkSequenceSays (a b c : Int) (_w0 : (Lit.int .i64 a).wf = true) (_w1 : (Lit.int .i64 b).wf = true) (_w2 : (Lit.int .i64 c).wf = true) (w : World) (hT : Tab w) :
    Calls Tryd.prog 7 #[.int .i64 a, .int .i64 b, .int .i64 c] w fun e w' => e = .returned (.bool true) ∧ Below w.heap.size w w' := by
  have HT := Lib.hid hT
  clear hT _w0 _w1 _w2
  have TB0 := Lib.hid (Below.refl w.heap.size w)
  have N0 := Lib.hid fun (w : World) => number7 a w
  have N1 := Lib.hid fun (w : World) => number7 b w
  have N2 := Lib.hid fun (w : World) => number7 c w
  generalize BitVec.ofInt 7 a = x at *
  generalize BitVec.ofInt 7 b = y at *
  generalize BitVec.ofInt 7 c = z at *
  have e1 : (m7 (nxt x y z) == m7 (nxt x y z)) = true := by simp
  have e2 : (sf x y z == sf x y z) = true := by simp
  have K1 := Lib.hid fun (w : World) (hT : Tab w) => safeC x y z w hT
  have K2 := Lib.hid fun (w : World) => safeR x y z w
  generalize sf x y z = s at *
  go_enter Tryd.func7, Tryd.ntmps7
  go_wp2_with fail
  refine (first23 _).mono ?_
  rintro e w' ⟨he, rfl⟩
  subst he
  go_wp2_with fail
  refine (N0.out _).mono ?_
  rintro e w' ⟨he, rfl⟩
  subst he
  go_wp2_with fail
  refine (N1.out _).mono ?_
  rintro e w' ⟨he, rfl⟩
  subst he
  go_wp2_with fail
  refine (N2.out _).mono ?_
  rintro e w' ⟨he, rfl⟩
  subst he
  go_wp2_with fail
  refine (nextC x y z _).mono ?_
  rintro e w' ⟨he, rfl⟩
  subst he
  go_wp2_with fail
  refine (nextR x y z _).mono ?_
  rintro e w' ⟨he, rfl⟩
  subst he
  go_wp2_with fail
  refine (K1.out _ (HT.out.below TB0.out)).mono ?_
  rintro e w1 ⟨he, hb⟩
  subst he
  have TB1 := Lib.hid (TB0.out.trans (hb.mono TB0.out.size))
  clear hb TB0
  go_wp2_with fail
  refine (K2.out _).mono ?_
  rintro e w' ⟨he, rfl⟩
  subst he
  go_wp2_with fail
  go_ret
  exact ⟨rfl, TB1.out⟩
/-- What is told, and what may be closed, behind i cycles. -/
def tdI (a n : BitVec 7) (i : Nat) : BitVec 7 := if i = 0 then a else n
def mbI (a n : BitVec 7) (i : Nat) : BitVec 7 := if i = 0 then a else a ||| n
theorem or_self7 (a : BitVec 7) : a ||| a = a := by ext i; simp
theorem sub_or (a b : BitVec 7) (h : a &&& ~~~b = 0) : a ||| b = b := by
  ext i hi
  have := congrArg (fun z => z[i]) h
  simp at this ⊢
  exact this
theorem turn_d (a b : BitVec 7) (h : ¬ a &&& ~~~b = 0) (i : Nat) : nxt b (tdI a (a &&& b) i) (mbI a (a &&& b) i) = a &&& b := by
  have e1 : (a &&& b) ||| (a ||| a &&& b) = a := by ext i hi; simp only [BitVec.getElem_or, BitVec.getElem_and]; cases a[i] <;> cases b[i] <;> rfl
  have e2 : a &&& b &&& b = a &&& b := by ext i hi; simp only [BitVec.getElem_and]; cases a[i] <;> cases b[i] <;> rfl
  unfold nxt tdI mbI
  by_cases hi : i = 0
  · simp only [hi, if_true]
    rw [or_self7, if_neg h]
  · simp only [if_neg hi]
    rw [e1, if_neg h, e2]
theorem turn_e (a b : BitVec 7) (h : a &&& ~~~b = 0) (i : Nat) : nxt b (tdI a b i) (mbI a b i) = b := by
  have e1 : b ||| (a ||| b) = b := by rw [sub_or a b h, or_self7]
  have e2 : b &&& ~~~b = 0 := by ext i; simp
  unfold nxt tdI mbI
  by_cases hi : i = 0
  · simp only [hi, if_true]
    rw [or_self7, if_pos h]
  · simp only [if_neg hi]
    rw [e1, if_pos e2]
theorem and_and_not (a b : BitVec 7) : a &&& b &&& ~~~a = 0 := by ext i hi; simp; intro h _; exact h
theorem and_not (a : BitVec 7) : a &&& ~~~a = 0 := by ext i; simp
theorem safe_d (a b : BitVec 7) (i : Nat) : sf (tdI a (a &&& b) i) (mbI a (a &&& b) i) (a &&& b) = true := by
  unfold sf tdI
  by_cases hi : i = 0
  · simp only [hi, if_true]
    rw [and_and_not]; rfl
  · simp only [if_neg hi]
    rw [and_not]; rfl
theorem safe_e (a b : BitVec 7) (h : a &&& ~~~b = 0) (hj : jnd b = false) (i : Nat) : sf (tdI a b i) (mbI a b i) b = true := by
  unfold sf tdI mbI
  by_cases hi : i = 0
  · simp only [hi, if_true]
    rw [show b ||| a = b by rw [← BitVec.or_comm]; exact sub_or a b h, hj]; simp
  · simp only [if_neg hi]
    rw [and_not]; rfl
theorem last_n (b n : BitVec 7) (h : n &&& ~~~b = 0) : nxt b n n = b := by
  unfold nxt; rw [or_self7, if_pos h]
theorem last_safe (b n : BitVec 7) (h : n &&& ~~~b = 0) (hj : jnd b = false) : sf n n b = true := by
  unfold sf
  rw [show b ||| n = b by rw [← BitVec.or_comm]; exact sub_or n b h, hj]; simp
theorem td_next (a n : BitVec 7) (i : Nat) : tdI a n (i + 1) = n := by unfold tdI; rw [if_neg (by omega)]
theorem mb_next (a n : BitVec 7) (i : Nat) : mbI a n i ||| n = mbI a n (i + 1) := by
  unfold mbI
  by_cases hi : i = 0
  · simp [hi]
  · rw [if_neg hi, if_neg (by omega)]
    ext i hi; simp only [BitVec.getElem_or]; cases a[i] <;> cases n[i] <;> rfl
set_option maxRecDepth 100000 in
set_option maxHeartbeats 8000000 in
theorem walkSequenceTurns (a0 b0 c : Int) (_w0 : (Lit.int .i64 a0).wf = true) (_w1 : (Lit.int .i64 b0).wf = true) (_w2 : (Lit.int .i64 c).wf = true) (w : World) (hT : Tab w) :
    Calls Tryd.prog 9 #[.int .i64 a0, .int .i64 b0, .int .i64 c] w fun e w' => e = .returned (.bool true) ∧ Below w.heap.size w w' := by
  have HT := Lib.hid hT
  clear hT _w0 _w1 _w2
  have TB0 := Lib.hid (Below.refl w.heap.size w)
  have N0 := Lib.hid fun (w : World) => number7 a0 w
  have N1 := Lib.hid fun (w : World) => number7 b0 w
  have hc1 := Int.emod_nonneg c (show (9 : Int) ≠ 0 by omega)
  have hc2 := Int.emod_lt_of_pos c (show (0 : Int) < 9 by omega)
  have N2 := Lib.hid fun (w : World) => numberB c 9 (by omega) (by omega) w
  generalize BitVec.ofInt 7 a0 = a at *
  generalize BitVec.ofInt 7 b0 = b at *
  generalize c % 9 = c0 at *
  obtain ⟨L, rfl⟩ := Int.eq_ofNat_of_zero_le hc1
  have hL : L < 9 := by omega
  clear hc1 hc2
  have KA := Lib.hid fun (w : World) (hT : Tab w) => joinedM a w hT
  have KB := Lib.hid fun (w : World) (hT : Tab w) => joinedM b w hT
  have ean := m7_andNot a b
  have eab := m7_and a b
  have es := m7_some (a &&& ~~~b)
  have ez := m7_zero (a &&& ~~~b)
  cases ha : jnd a
  · rw [ha] at KA
    clear ha
    cases hb : jnd b
    · rw [hb] at KB
      have HJ := Lib.hid hb
      clear hb
      by_cases hd : a &&& ~~~b = 0
      · have HD := Lib.hid hd
        rw [show (a &&& ~~~b != 0) = false by rw [hd]; rfl] at es
        rw [show (a &&& ~~~b == 0) = true by rw [hd]; rfl] at ez
        have q1 : (m7 b != m7 b) = false := by simp
        have q2 : (m7 b == m7 b) = true := by simp
        clear hd
        go_enter Tryd.func9, Tryd.ntmps9
        go_wp2_with fail
        refine (first23 _).mono ?_
        rintro e w' ⟨he, rfl⟩
        subst he
        go_wp2_with fail
        refine (N0.out _).mono ?_
        rintro e w' ⟨he, rfl⟩
        subst he
        go_wp2_with fail
        refine (N1.out _).mono ?_
        rintro e w' ⟨he, rfl⟩
        subst he
        go_wp2_with fail
        refine (KA.out _ (HT.out.below TB0.out)).mono ?_
        rintro e w1 ⟨he, hb⟩
        subst he
        have TB1 := Lib.hid (TB0.out.trans (hb.mono TB0.out.size))
        clear hb TB0
        go_wp2_with fail
        refine (KB.out _ (HT.out.below TB1.out)).mono ?_
        rintro e w2 ⟨he, hb⟩
        subst he
        have TB2 := Lib.hid (TB1.out.trans (hb.mono TB1.out.size))
        clear hb TB1
        go_wp2_with fail
        refine (N2.out _).mono ?_
        rintro e w' ⟨he, rfl⟩
        subst he
        go_wp2_with fail
        go_loopw [8, 9, 10] (fun t m v wr => ∃ i : Nat, i ≤ L ∧ v = .int .i64 i ∧ t = .int .i64 (m7 (tdI a b i)) ∧ m = .int .i64 (m7 (mbI a b i)) ∧ Below w.heap.size w wr) (fun _ _ v _ => L - (intOf v).toNat)
        case atStart => exact ⟨0, by omega, rfl, rfl, rfl, TB2.out⟩
        case round =>
          obtain ⟨i, hi, rfl, rfl, rfl, hb⟩ := hrel
          clear TB2
          have TB0 := Lib.hid hb
          clear hb
          by_cases hl : i < L
          · have X1 := Lib.hid (turn_e a b HD.out i)
            have X2 := Lib.hid (safe_e a b HD.out HJ.out i)
            have X3 := Lib.hid (td_next a b i)
            have X4 := Lib.hid (mb_next a b i)
            generalize tdI a b i = td at *
            generalize mbI a b i = mb at *
            have e9 := m7_or mb b
            go_wp2_with fail
            refine (nextC b td mb _).mono ?_
            rintro e w' ⟨he, rfl⟩
            rw [X1.out] at he
            subst he
            go_wp2_with fail
            refine (safeC td mb b _ (HT.out.below TB0.out)).mono ?_
            rintro e w1 ⟨he, hb⟩
            rw [X2.out] at he
            subst he
            have TB1 := Lib.hid (TB0.out.trans (hb.mono TB0.out.size))
            clear hb TB0
            go_wp2_with fail
            go_roundw
            case rel => exact ⟨i + 1, by omega, by go_num, by rw [X3.out], by rw [← X4.out], TB1.out⟩
            case measure => simp [intOf]; omega
          · obtain rfl : i = L := by omega
            clear hl hi
            by_cases h0 : i = 0
            · subst h0
              have Y1 := Lib.hid (show nxt b a a = b from turn_e a b HD.out 0)
              have Y2 := Lib.hid (last_safe b a HD.out HJ.out)
              rw [show tdI a b 0 = a from rfl]
              go_wp2_with fail
              refine (nextC b a a _).mono ?_
              rintro e w' ⟨he, rfl⟩
              rw [Y1.out] at he
              subst he
              go_wp2_with fail
              refine (safeC a a b _ (HT.out.below TB0.out)).mono ?_
              rintro e w1 ⟨he, hb⟩
              rw [Y2.out] at he
              subst he
              have TB1 := Lib.hid (TB0.out.trans (hb.mono TB0.out.size))
              clear hb TB0
              go_wp2_with fail
              go_ret
              exact ⟨rfl, TB1.out⟩
            · have t0 : ((i : Int) == 0) = false := by rw [beq_eq_false_iff_ne]; omega
              have Y0 : tdI a b i = b := by unfold tdI; rw [if_neg h0]
              rw [Y0]
              have hz : b &&& ~~~b = 0 := and_not b
              have Y1 := Lib.hid (last_n b b hz)
              have Y2 := Lib.hid (last_safe b b hz HJ.out)
              clear Y0 hz h0
              go_wp2_with fail
              refine (nextC b b b _).mono ?_
              rintro e w' ⟨he, rfl⟩
              rw [Y1.out] at he
              subst he
              go_wp2_with fail
              refine (safeC b b b _ (HT.out.below TB0.out)).mono ?_
              rintro e w1 ⟨he, hb⟩
              rw [Y2.out] at he
              subst he
              have TB1 := Lib.hid (TB0.out.trans (hb.mono TB0.out.size))
              clear hb TB0
              go_wp2_with fail
              go_ret
              exact ⟨rfl, TB1.out⟩
      · have HD := Lib.hid hd
        rw [show (a &&& ~~~b != 0) = true by simpa using hd] at es
        rw [show (a &&& ~~~b == 0) = false by simpa using hd] at ez
        have q1 : (m7 (a &&& b) != m7 (a &&& b)) = false := by simp
        have q2 : (m7 (a &&& b) == m7 (a &&& b)) = true := by simp
        have q3 : (m7 b == m7 b) = true := by simp
        clear hd
        go_enter Tryd.func9, Tryd.ntmps9
        go_wp2_with fail
        refine (first23 _).mono ?_
        rintro e w' ⟨he, rfl⟩
        subst he
        go_wp2_with fail
        refine (N0.out _).mono ?_
        rintro e w' ⟨he, rfl⟩
        subst he
        go_wp2_with fail
        refine (N1.out _).mono ?_
        rintro e w' ⟨he, rfl⟩
        subst he
        go_wp2_with fail
        refine (KA.out _ (HT.out.below TB0.out)).mono ?_
        rintro e w1 ⟨he, hb⟩
        subst he
        have TB1 := Lib.hid (TB0.out.trans (hb.mono TB0.out.size))
        clear hb TB0
        go_wp2_with fail
        refine (KB.out _ (HT.out.below TB1.out)).mono ?_
        rintro e w2 ⟨he, hb⟩
        subst he
        have TB2 := Lib.hid (TB1.out.trans (hb.mono TB1.out.size))
        clear hb TB1
        go_wp2_with fail
        refine (N2.out _).mono ?_
        rintro e w' ⟨he, rfl⟩
        subst he
        go_wp2_with fail
        go_loopw [8, 9, 10] (fun t m v wr => ∃ i : Nat, i ≤ L ∧ v = .int .i64 i ∧ t = .int .i64 (m7 (tdI a (a &&& b) i)) ∧ m = .int .i64 (m7 (mbI a (a &&& b) i)) ∧ Below w.heap.size w wr) (fun _ _ v _ => L - (intOf v).toNat)
        case atStart => exact ⟨0, by omega, rfl, rfl, rfl, TB2.out⟩
        case round =>
          obtain ⟨i, hi, rfl, rfl, rfl, hb⟩ := hrel
          clear TB2
          have TB0 := Lib.hid hb
          clear hb
          by_cases hl : i < L
          · have X1 := Lib.hid (turn_d a b HD.out i)
            have X2 := Lib.hid (safe_d a b i)
            have X3 := Lib.hid (td_next a (a &&& b) i)
            have X4 := Lib.hid (mb_next a (a &&& b) i)
            generalize tdI a (a &&& b) i = td at *
            generalize mbI a (a &&& b) i = mb at *
            have e9 := m7_or mb (a &&& b)
            go_wp2_with fail
            refine (nextC b td mb _).mono ?_
            rintro e w' ⟨he, rfl⟩
            rw [X1.out] at he
            subst he
            go_wp2_with fail
            refine (safeC td mb (a &&& b) _ (HT.out.below TB0.out)).mono ?_
            rintro e w1 ⟨he, hb⟩
            rw [X2.out] at he
            subst he
            have TB1 := Lib.hid (TB0.out.trans (hb.mono TB0.out.size))
            clear hb TB0
            go_wp2_with fail
            go_roundw
            case rel => exact ⟨i + 1, by omega, by go_num, by rw [X3.out], by rw [← X4.out], TB1.out⟩
            case measure => simp [intOf]; omega
          · obtain rfl : i = L := by omega
            clear hl hi
            by_cases h0 : i = 0
            · subst h0
              have Y1 := Lib.hid (show nxt b a a = (a &&& b) from turn_d a b HD.out 0)
              rw [show tdI a (a &&& b) 0 = a from rfl]
              go_wp2_with fail
              refine (nextC b a a _).mono ?_
              rintro e w' ⟨he, rfl⟩
              rw [Y1.out] at he
              subst he
              go_wp2_with fail
              go_ret
              exact ⟨rfl, TB0.out⟩
            · have t0 : ((i : Int) == 0) = false := by rw [beq_eq_false_iff_ne]; omega
              have Y0 : tdI a (a &&& b) i = (a &&& b) := by unfold tdI; rw [if_neg h0]
              rw [Y0]
              have hz : (a &&& b) &&& ~~~b = 0 := by ext i hi; simp
              have Y1 := Lib.hid (last_n b (a &&& b) hz)
              have Y2 := Lib.hid (last_safe b (a &&& b) hz HJ.out)
              clear Y0 hz h0
              go_wp2_with fail
              refine (nextC b (a &&& b) (a &&& b) _).mono ?_
              rintro e w' ⟨he, rfl⟩
              rw [Y1.out] at he
              subst he
              go_wp2_with fail
              refine (safeC (a &&& b) (a &&& b) b _ (HT.out.below TB0.out)).mono ?_
              rintro e w1 ⟨he, hb⟩
              rw [Y2.out] at he
              subst he
              have TB1 := Lib.hid (TB0.out.trans (hb.mono TB0.out.size))
              clear hb TB0
              go_wp2_with fail
              go_ret
              exact ⟨rfl, TB1.out⟩
    · rw [hb] at KB
      clear hb
      go_enter Tryd.func9, Tryd.ntmps9
      go_wp2_with fail
      refine (first23 _).mono ?_
      rintro e w' ⟨he, rfl⟩
      subst he
      go_wp2_with fail
      refine (N0.out _).mono ?_
      rintro e w' ⟨he, rfl⟩
      subst he
      go_wp2_with fail
      refine (N1.out _).mono ?_
      rintro e w' ⟨he, rfl⟩
      subst he
      go_wp2_with fail
      refine (KA.out _ (HT.out.below TB0.out)).mono ?_
      rintro e w1 ⟨he, hb⟩
      subst he
      have TB1 := Lib.hid (TB0.out.trans (hb.mono TB0.out.size))
      clear hb TB0
      go_wp2_with fail
      refine (KB.out _ (HT.out.below TB1.out)).mono ?_
      rintro e w2 ⟨he, hb⟩
      subst he
      have TB2 := Lib.hid (TB1.out.trans (hb.mono TB1.out.size))
      clear hb TB1
      go_wp2_with fail
      go_ret
      exact ⟨rfl, TB2.out⟩
  · rw [ha] at KA
    clear ha
    go_enter Tryd.func9, Tryd.ntmps9
    go_wp2_with fail
    refine (first23 _).mono ?_
    rintro e w' ⟨he, rfl⟩
    subst he
    go_wp2_with fail
    refine (N0.out _).mono ?_
    rintro e w' ⟨he, rfl⟩
    subst he
    go_wp2_with fail
    refine (N1.out _).mono ?_
    rintro e w' ⟨he, rfl⟩
    subst he
    go_wp2_with fail
    refine (KA.out _ (HT.out.below TB0.out)).mono ?_
    rintro e w1 ⟨he, hb⟩
    subst he
    have TB1 := Lib.hid (TB0.out.trans (hb.mono TB0.out.size))
    clear hb TB0
    go_wp2_with fail
    go_ret
    exact ⟨rfl, TB1.out⟩
end Go.Proofs.YtmnnlimiacdeoaaDoor
