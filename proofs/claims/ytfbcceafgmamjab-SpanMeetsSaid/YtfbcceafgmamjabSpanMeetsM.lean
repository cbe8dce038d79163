/- SpanMeets returns true whatever its arguments. Conditions: the arguments are numbers of 64 bits. -/
import Derived.Test.YtfbcceafgmamjabMeetYTT
import Derived.Test.YtfbcceafgmamjabMeetYTF
import Derived.Test.YtfbcceafgmamjabMeetYF
import Derived.Test.YtfbcceafgmamjabMeetNTF
import Derived.Test.YtfbcceafgmamjabMeetNF
namespace Go.Proofs.Ytfbcceafgmamjab
open Go.RowKit
theorem meetAs {P : Program} {f : FuncId} {args : Array Value} {w : World} {a b c d : Int} {s : Bool} {R : World → Prop} (h1 : a = c) (h2 : b = d) (hc : Calls P f args w fun e w' => e = .returned (.tuple #[.agg #[.int .i64 a, .int .i64 b], .bool s]) ∧ R w') : Calls P f args w fun e w' => e = .returned (.tuple #[.agg #[.int .i64 c, .int .i64 d], .bool s]) ∧ R w' := by
  subst h1 h2; exact hc
theorem has_meet (pl ph ql qh x : Int) : hasB (max pl ql) (min ph qh) x = (hasB pl ph x && hasB ql qh x) := by
  rw [Bool.eq_iff_iff]; simp only [hasB, Bool.and_eq_true, decide_eq_true_eq]; omega
theorem in_hull1 (pl ph ql qh : Int) : inB pl ph (min pl ql) (max ph qh) = true := by
  simp only [inB, Bool.and_eq_true, decide_eq_true_eq]; omega
theorem in_hull2 (pl ph ql qh : Int) : inB ql qh (min pl ql) (max ph qh) = true := by
  simp only [inB, Bool.and_eq_true, decide_eq_true_eq]; omega
set_option maxHeartbeats 1000000 in
theorem walkSpanMeets (a b c d x : Int) (_w0 : (Lit.int .i64 a).wf = true) (_w1 : (Lit.int .i64 b).wf = true) (_w2 : (Lit.int .i64 c).wf = true) (_w3 : (Lit.int .i64 d).wf = true) (_w4 : (Lit.int .i64 x).wf = true) (w : World) :
    Calls Try.prog 4 #[.int .i64 a, .int .i64 b, .int .i64 c, .int .i64 d, .int .i64 x] w fun e w' => e = .returned (.bool true) ∧ Below w.heap.size w w' := by
  have K0 := Lib.hid fun (w : World) => spanOf a b w
  have K1 := Lib.hid fun (w : World) => spanOf c d w
  obtain ⟨pl, hpl⟩ : ∃ n, n = min a b := ⟨_, rfl⟩
  obtain ⟨ph, hph⟩ : ∃ n, n = max a b := ⟨_, rfl⟩
  obtain ⟨ql, hql⟩ : ∃ n, n = min c d := ⟨_, rfl⟩
  obtain ⟨qh, hqh⟩ : ∃ n, n = max c d := ⟨_, rfl⟩
  rw [← hpl, ← hph] at K0
  rw [← hql, ← hqh] at K1
  clear hpl hph hql hqh
  have KS := Lib.hid fun (a b : Int) (w : World) => sameEq a b w
  have KI1 := Lib.hid fun (w : World) => boolAs (in_hull1 pl ph ql qh) (spanIn pl ph (min pl ql) (max ph qh) w)
  have KI2 := Lib.hid fun (w : World) => boolAs (in_hull2 pl ph ql qh) (spanIn ql qh (min pl ql) (max ph qh) w)
  have KH1 := Lib.hid fun (w : World) => spanHull pl ph ql qh w
  have KH2 := Lib.hid fun (w : World) => aggAs (Int.min_comm ql pl) (Int.max_comm qh ph) (spanHull ql qh pl ph w)
  have hx := has_meet pl ph ql qh x
  have e1 : (min pl ql == pl) = true ∨ (min pl ql == pl) = false ∧ (min pl ql == ql) = true := by simp only [beq_iff_eq, beq_eq_false_iff_ne]; omega
  have e2 : (max ph qh == ph) = true ∨ (max ph qh == ph) = false ∧ (max ph qh == qh) = true := by simp only [beq_iff_eq, beq_eq_false_iff_ne]; omega
  by_cases hm : max pl ql ≤ min ph qh
  · have KM1 := Lib.hid fun (w : World) => spanMeetYes pl ph ql qh hm w
    have KM2 := Lib.hid fun (w : World) => meetAs (Int.max_comm ql pl) (Int.min_comm qh ph) (spanMeetYes ql qh pl ph (by omega) w)
    by_cases hu : hasB pl ph x = true
    · have KP := Lib.hid fun (w : World) => boolAs hu (spanHas pl ph x w)
      by_cases hv : hasB ql qh x = true
      · have KQ := Lib.hid fun (w : World) => boolAs hv (spanHas ql qh x w)
        have KX := Lib.hid fun (w : World) => boolAs (v := true) (hx.trans (by rw [hu, hv]; rfl)) (spanHas (max pl ql) (min ph qh) x w)
        rcases e1 with e1 | ⟨e1, e3⟩ <;> rcases e2 with e2 | ⟨e2, e4⟩
        · exact meetsYTTa a b c d x pl ph ql qh (max pl ql) (min ph qh) (min pl ql) (max ph qh) K0 K1 KM1 KM2 KP KQ KX KH1 KH2 KS KI1 KI2 e1 e2 w
        · exact meetsYTTb a b c d x pl ph ql qh (max pl ql) (min ph qh) (min pl ql) (max ph qh) K0 K1 KM1 KM2 KP KQ KX KH1 KH2 KS KI1 KI2 e1 e2 e4 w
        · exact meetsYTTc a b c d x pl ph ql qh (max pl ql) (min ph qh) (min pl ql) (max ph qh) K0 K1 KM1 KM2 KP KQ KX KH1 KH2 KS KI1 KI2 e1 e2 e3 w
        · exact meetsYTTd a b c d x pl ph ql qh (max pl ql) (min ph qh) (min pl ql) (max ph qh) K0 K1 KM1 KM2 KP KQ KX KH1 KH2 KS KI1 KI2 e1 e2 e3 e4 w
      · have KQ := Lib.hid fun (w : World) => boolAs (v := false) (by simpa using hv) (spanHas ql qh x w)
        have KX := Lib.hid fun (w : World) => boolAs (v := false) (hx.trans (by rw [Bool.not_eq_true] at hv; rw [hu, hv]; rfl)) (spanHas (max pl ql) (min ph qh) x w)
        rcases e1 with e1 | ⟨e1, e3⟩ <;> rcases e2 with e2 | ⟨e2, e4⟩
        · exact meetsYTFa a b c d x pl ph ql qh (max pl ql) (min ph qh) (min pl ql) (max ph qh) K0 K1 KM1 KM2 KP KQ KX KH1 KH2 KS KI1 KI2 e1 e2 w
        · exact meetsYTFb a b c d x pl ph ql qh (max pl ql) (min ph qh) (min pl ql) (max ph qh) K0 K1 KM1 KM2 KP KQ KX KH1 KH2 KS KI1 KI2 e1 e2 e4 w
        · exact meetsYTFc a b c d x pl ph ql qh (max pl ql) (min ph qh) (min pl ql) (max ph qh) K0 K1 KM1 KM2 KP KQ KX KH1 KH2 KS KI1 KI2 e1 e2 e3 w
        · exact meetsYTFd a b c d x pl ph ql qh (max pl ql) (min ph qh) (min pl ql) (max ph qh) K0 K1 KM1 KM2 KP KQ KX KH1 KH2 KS KI1 KI2 e1 e2 e3 e4 w
    · have KP := Lib.hid fun (w : World) => boolAs (v := false) (by simpa using hu) (spanHas pl ph x w)
      have KX := Lib.hid fun (w : World) => boolAs (v := false) (hx.trans (by rw [Bool.not_eq_true] at hu; rw [hu]; rfl)) (spanHas (max pl ql) (min ph qh) x w)
      rcases e1 with e1 | ⟨e1, e3⟩ <;> rcases e2 with e2 | ⟨e2, e4⟩
      · exact meetsYFa a b c d x pl ph ql qh (max pl ql) (min ph qh) (min pl ql) (max ph qh) K0 K1 KM1 KM2 KP KX KH1 KH2 KS KI1 KI2 e1 e2 w
      · exact meetsYFb a b c d x pl ph ql qh (max pl ql) (min ph qh) (min pl ql) (max ph qh) K0 K1 KM1 KM2 KP KX KH1 KH2 KS KI1 KI2 e1 e2 e4 w
      · exact meetsYFc a b c d x pl ph ql qh (max pl ql) (min ph qh) (min pl ql) (max ph qh) K0 K1 KM1 KM2 KP KX KH1 KH2 KS KI1 KI2 e1 e2 e3 w
      · exact meetsYFd a b c d x pl ph ql qh (max pl ql) (min ph qh) (min pl ql) (max ph qh) K0 K1 KM1 KM2 KP KX KH1 KH2 KS KI1 KI2 e1 e2 e3 e4 w
  · have KM1 := Lib.hid fun (w : World) => spanMeetNo pl ph ql qh (by omega) w
    have KM2 := Lib.hid fun (w : World) => spanMeetNo ql qh pl ph (by omega) w
    by_cases hu : hasB pl ph x = true
    · have KP := Lib.hid fun (w : World) => boolAs hu (spanHas pl ph x w)
      have hv : hasB ql qh x = false := by
        simp only [hasB, Bool.and_eq_true, decide_eq_true_eq, Bool.and_eq_false_iff, decide_eq_false_iff_not] at *; omega
      have KQ := Lib.hid fun (w : World) => boolAs hv (spanHas ql qh x w)
      rcases e1 with e1 | ⟨e1, e3⟩ <;> rcases e2 with e2 | ⟨e2, e4⟩
      · exact meetsNTFa a b c d x pl ph ql qh  (min pl ql) (max ph qh) K0 K1 KM1 KM2 KP KQ KH1 KH2 KS KI1 KI2 e1 e2 w
      · exact meetsNTFb a b c d x pl ph ql qh  (min pl ql) (max ph qh) K0 K1 KM1 KM2 KP KQ KH1 KH2 KS KI1 KI2 e1 e2 e4 w
      · exact meetsNTFc a b c d x pl ph ql qh  (min pl ql) (max ph qh) K0 K1 KM1 KM2 KP KQ KH1 KH2 KS KI1 KI2 e1 e2 e3 w
      · exact meetsNTFd a b c d x pl ph ql qh  (min pl ql) (max ph qh) K0 K1 KM1 KM2 KP KQ KH1 KH2 KS KI1 KI2 e1 e2 e3 e4 w
    · have KP := Lib.hid fun (w : World) => boolAs (v := false) (by simpa using hu) (spanHas pl ph x w)
      rcases e1 with e1 | ⟨e1, e3⟩ <;> rcases e2 with e2 | ⟨e2, e4⟩
      · exact meetsNFa a b c d x pl ph ql qh  (min pl ql) (max ph qh) K0 K1 KM1 KM2 KP KH1 KH2 KS KI1 KI2 e1 e2 w
      · exact meetsNFb a b c d x pl ph ql qh  (min pl ql) (max ph qh) K0 K1 KM1 KM2 KP KH1 KH2 KS KI1 KI2 e1 e2 e4 w
      · exact meetsNFc a b c d x pl ph ql qh  (min pl ql) (max ph qh) K0 K1 KM1 KM2 KP KH1 KH2 KS KI1 KI2 e1 e2 e3 w
      · exact meetsNFd a b c d x pl ph ql qh  (min pl ql) (max ph qh) K0 K1 KM1 KM2 KP KH1 KH2 KS KI1 KI2 e1 e2 e3 e4 w
end Go.Proofs.Ytfbcceafgmamjab
