/- SpanIn returns true whatever its arguments. Conditions: the arguments are numbers of 64 bits. -/
import Derived.Test.YtfbcceafgmamjabSpInNS
import Derived.Test.YtfbcceafgmamjabSpInNK
import Derived.Test.YtfbcceafgmamjabSpInPS
import Derived.Test.YtfbcceafgmamjabSpInPK
namespace Go.Proofs.Ytfbcceafgmamjab
open Go.RowKit
theorem sat_le (n m : Int) (h : n ≤ m) (hm : I64 m) : sat n ≤ m := by unfold sat; unfold I64 at hm; omega
theorem le_sat (n m : Int) (h : m ≤ n) (hm : I64 m) : m ≤ sat n := by unfold sat; unfold I64 at hm; omega
theorem in_wide (a b k : Int) (ha : I64 a) (hb : I64 b) : inB a b (sat (a - max k 0)) (sat (b + max k 0)) = true := by
  have h1 := sat_le (a - max k 0) a (by omega) ha
  have h2 := le_sat (b + max k 0) b (by omega) hb
  simp only [inB, Bool.and_eq_true, decide_eq_true_eq]; exact ⟨h1, h2⟩
theorem in_trans (a b c d e f : Int) (h1 : inB a b c d = true) (h2 : inB c d e f = true) : inB a b e f = true := by
  simp only [inB, Bool.and_eq_true, decide_eq_true_eq] at *; omega
theorem wide_none (a b : Int) (ha : I64 a) (hb : I64 b) : sat (a - max (-1) 0) = a ∧ sat (b + max (-1) 0) = b := by
  unfold sat; unfold I64 at *; omega
theorem clamp_has (a b lo hi x : Int) (h : hasB a b x = true) (h1 : lo ≤ x) (h2 : x ≤ hi) : hasB (clampI a lo hi) (clampI b lo hi) x = true := by
  simp only [hasB, Bool.and_eq_true, decide_eq_true_eq] at *
  unfold clampI
  refine ⟨?_, ?_⟩ <;> (repeat' split) <;> omega
theorem clamp_facts (a b lo hi : Int) (h : a ≤ b) (hl : lo ≤ hi) : clampI a lo hi ≤ clampI b lo hi ∧ lo ≤ clampI a lo hi ∧ clampI b lo hi ≤ hi := by
  unfold clampI; omega
set_option maxHeartbeats 1000000 in
theorem walkSpanIn (a b bb lo hi x : Int) (w0 : (Lit.int .i64 a).wf = true) (w1 : (Lit.int .i64 b).wf = true) (w2 : (Lit.int .i64 bb).wf = true) (_w3 : (Lit.int .i64 lo).wf = true) (_w4 : (Lit.int .i64 hi).wf = true) (_w5 : (Lit.int .i64 x).wf = true) (w : World) :
    Calls Try.prog 5 #[.int .i64 a, .int .i64 b, .int .i64 bb, .int .i64 lo, .int .i64 hi, .int .i64 x] w fun e w' => e = .returned (.bool true) ∧ Below w.heap.size w w' := by
  have ha := i64_of w0
  have hb := i64_of w1
  have hbb := i64_of w2
  have K0 := Lib.hid fun (w : World) => spanOf a b w
  have hp : min a b ≤ max a b := by omega
  have hpl0 : I64 (min a b) := by unfold I64 at *; omega
  have hph0 : I64 (max a b) := by unfold I64 at *; omega
  obtain ⟨pl, hpl⟩ : ∃ n, n = min a b := ⟨_, rfl⟩
  obtain ⟨ph, hph⟩ : ∃ n, n = max a b := ⟨_, rfl⟩
  rw [← hpl] at hp hpl0
  rw [← hph] at hp hph0
  rw [← hpl, ← hph] at K0
  clear hpl hph
  have KS := Lib.hid fun (a b : Int) (w : World) => sameEq a b w
  have m1 : I64 (-1) := by unfold I64; omega
  have KN := Lib.hid fun (w : World) => aggAs (wide_none pl ph hpl0 hph0).1 (wide_none pl ph hpl0 hph0).2 (spanWiden pl ph (-1) hpl0 hph0 m1 w)
  have q1 : -9223372036854775808 ≤ bb := hbb.1
  have q2 : bb ≤ 9223372036854775807 := hbb.2
  by_cases hn : bb < 0
  · have hk0 : I64 (-(bb + 1)) := by unfold I64; omega
    have KW := Lib.hid fun (w : World) => spanWiden pl ph (-(bb + 1)) hpl0 hph0 hk0 w
    have KV := Lib.hid fun (w : World) => spanWiden _ _ (-(bb + 1)) (sat_in (pl - max (-(bb + 1)) 0)) (sat_in (ph + max (-(bb + 1)) 0)) hk0 w
    have i1 := in_wide pl ph (-(bb + 1)) hpl0 hph0
    have i2 := in_wide _ _ (-(bb + 1)) (sat_in (pl - max (-(bb + 1)) 0)) (sat_in (ph + max (-(bb + 1)) 0))
    have KI1 := Lib.hid fun (w : World) => boolAs i1 (spanIn _ _ _ _ w)
    have KI2 := Lib.hid fun (w : World) => boolAs i2 (spanIn _ _ _ _ w)
    have KI3 := Lib.hid fun (w : World) => boolAs (in_trans _ _ _ _ _ _ i1 i2) (spanIn _ _ _ _ w)
    by_cases hs : hi < lo
    · obtain ⟨f1, f2, f3⟩ := clamp_facts pl ph hi lo hp (by omega)
      have KC := Lib.hid fun (w : World) => spanClamp pl ph hi lo w
      by_cases x1 : hi ≤ x
      · by_cases x2 : x ≤ lo
        · by_cases hu : hasB pl ph x = true
          · exact spanInNSA a b bb lo hi x pl ph _ _ _ _ _ _ q1 q2 hn hs f1 f2 f3 K0 KW KV KC KI1 KI2 KI3 KN KS x1 x2 (Lib.hid fun w => boolAs hu (spanHas pl ph x w)) (Lib.hid fun w => boolAs (clamp_has pl ph hi lo x hu x1 x2) (spanHas _ _ x w)) w
          · exact spanInNSB a b bb lo hi x pl ph _ _ _ _ _ _ q1 q2 hn hs f1 f2 f3 K0 KW KV KC KI1 KI2 KI3 KN KS x1 x2 (Lib.hid fun w => boolAs (v := false) (by simpa using hu) (spanHas pl ph x w)) w
        · exact spanInNSC a b bb lo hi x pl ph _ _ _ _ _ _ q1 q2 hn hs f1 f2 f3 K0 KW KV KC KI1 KI2 KI3 KN KS x1 (by simp; omega) w
      · exact spanInNSD a b bb lo hi x pl ph _ _ _ _ _ _ q1 q2 hn hs f1 f2 f3 K0 KW KV KC KI1 KI2 KI3 KN KS (by simp; omega) w
    · have hs : lo ≤ hi := by omega
      obtain ⟨f1, f2, f3⟩ := clamp_facts pl ph lo hi hp (by omega)
      have KC := Lib.hid fun (w : World) => spanClamp pl ph lo hi w
      by_cases x1 : lo ≤ x
      · by_cases x2 : x ≤ hi
        · by_cases hu : hasB pl ph x = true
          · exact spanInNKA a b bb lo hi x pl ph _ _ _ _ _ _ q1 q2 hn hs f1 f2 f3 K0 KW KV KC KI1 KI2 KI3 KN KS x1 x2 (Lib.hid fun w => boolAs hu (spanHas pl ph x w)) (Lib.hid fun w => boolAs (clamp_has pl ph lo hi x hu x1 x2) (spanHas _ _ x w)) w
          · exact spanInNKB a b bb lo hi x pl ph _ _ _ _ _ _ q1 q2 hn hs f1 f2 f3 K0 KW KV KC KI1 KI2 KI3 KN KS x1 x2 (Lib.hid fun w => boolAs (v := false) (by simpa using hu) (spanHas pl ph x w)) w
        · exact spanInNKC a b bb lo hi x pl ph _ _ _ _ _ _ q1 q2 hn hs f1 f2 f3 K0 KW KV KC KI1 KI2 KI3 KN KS x1 (by simp; omega) w
      · exact spanInNKD a b bb lo hi x pl ph _ _ _ _ _ _ q1 q2 hn hs f1 f2 f3 K0 KW KV KC KI1 KI2 KI3 KN KS (by simp; omega) w
  · have hn : 0 ≤ bb := by omega
    have hk0 : I64 bb := by unfold I64; omega
    have KW := Lib.hid fun (w : World) => spanWiden pl ph bb hpl0 hph0 hk0 w
    have KV := Lib.hid fun (w : World) => spanWiden _ _ bb (sat_in (pl - max bb 0)) (sat_in (ph + max bb 0)) hk0 w
    have i1 := in_wide pl ph bb hpl0 hph0
    have i2 := in_wide _ _ bb (sat_in (pl - max bb 0)) (sat_in (ph + max bb 0))
    have KI1 := Lib.hid fun (w : World) => boolAs i1 (spanIn _ _ _ _ w)
    have KI2 := Lib.hid fun (w : World) => boolAs i2 (spanIn _ _ _ _ w)
    have KI3 := Lib.hid fun (w : World) => boolAs (in_trans _ _ _ _ _ _ i1 i2) (spanIn _ _ _ _ w)
    by_cases hs : hi < lo
    · obtain ⟨f1, f2, f3⟩ := clamp_facts pl ph hi lo hp (by omega)
      have KC := Lib.hid fun (w : World) => spanClamp pl ph hi lo w
      by_cases x1 : hi ≤ x
      · by_cases x2 : x ≤ lo
        · by_cases hu : hasB pl ph x = true
          · exact spanInPSA a b bb lo hi x pl ph _ _ _ _ _ _ q1 q2 hn hs f1 f2 f3 K0 KW KV KC KI1 KI2 KI3 KN KS x1 x2 (Lib.hid fun w => boolAs hu (spanHas pl ph x w)) (Lib.hid fun w => boolAs (clamp_has pl ph hi lo x hu x1 x2) (spanHas _ _ x w)) w
          · exact spanInPSB a b bb lo hi x pl ph _ _ _ _ _ _ q1 q2 hn hs f1 f2 f3 K0 KW KV KC KI1 KI2 KI3 KN KS x1 x2 (Lib.hid fun w => boolAs (v := false) (by simpa using hu) (spanHas pl ph x w)) w
        · exact spanInPSC a b bb lo hi x pl ph _ _ _ _ _ _ q1 q2 hn hs f1 f2 f3 K0 KW KV KC KI1 KI2 KI3 KN KS x1 (by simp; omega) w
      · exact spanInPSD a b bb lo hi x pl ph _ _ _ _ _ _ q1 q2 hn hs f1 f2 f3 K0 KW KV KC KI1 KI2 KI3 KN KS (by simp; omega) w
    · have hs : lo ≤ hi := by omega
      obtain ⟨f1, f2, f3⟩ := clamp_facts pl ph lo hi hp (by omega)
      have KC := Lib.hid fun (w : World) => spanClamp pl ph lo hi w
      by_cases x1 : lo ≤ x
      · by_cases x2 : x ≤ hi
        · by_cases hu : hasB pl ph x = true
          · exact spanInPKA a b bb lo hi x pl ph _ _ _ _ _ _ q1 q2 hn hs f1 f2 f3 K0 KW KV KC KI1 KI2 KI3 KN KS x1 x2 (Lib.hid fun w => boolAs hu (spanHas pl ph x w)) (Lib.hid fun w => boolAs (clamp_has pl ph lo hi x hu x1 x2) (spanHas _ _ x w)) w
          · exact spanInPKB a b bb lo hi x pl ph _ _ _ _ _ _ q1 q2 hn hs f1 f2 f3 K0 KW KV KC KI1 KI2 KI3 KN KS x1 x2 (Lib.hid fun w => boolAs (v := false) (by simpa using hu) (spanHas pl ph x w)) w
        · exact spanInPKC a b bb lo hi x pl ph _ _ _ _ _ _ q1 q2 hn hs f1 f2 f3 K0 KW KV KC KI1 KI2 KI3 KN KS x1 (by simp; omega) w
      · exact spanInPKD a b bb lo hi x pl ph _ _ _ _ _ _ q1 q2 hn hs f1 f2 f3 K0 KW KV KC KI1 KI2 KI3 KN KS (by simp; omega) w
end Go.Proofs.Ytfbcceafgmamjab
