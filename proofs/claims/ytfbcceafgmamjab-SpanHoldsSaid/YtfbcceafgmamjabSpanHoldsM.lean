/- SpanHolds returns true whatever its arguments. Conditions: the arguments are numbers of 64 bits. -/
import Derived.Test.YtfbcceafgmamjabHoldsY
import Derived.Test.YtfbcceafgmamjabHoldsN
import Derived.Test.YtfbcceafgmamjabHoldsO
namespace Go.Proofs.Ytfbcceafgmamjab
open Go.RowKit
theorem satSmall (n : Int) (h1 : -4611686018427387904 ≤ n) (h2 : n ≤ 4611686018427387904) : sat n = n := by unfold sat; omega
theorem hasOf (lo hi x : Int) (h1 : lo ≤ x) (h2 : x ≤ hi) : hasB lo hi x = true := by simp [hasB, h1, h2]
theorem inOf (a b c d : Int) (h1 : c ≤ a) (h2 : b ≤ d) : inB a b c d = true := by simp [inB, h1, h2]
theorem mulBd (x k : Int) (h1 : -1073741824 ≤ x) (h2 : x ≤ 1073741824) (h3 : -1073741824 ≤ k) (h4 : k ≤ 1073741824) : -1152921504606846976 ≤ x * k ∧ x * k ≤ 1152921504606846976 := by
  have h : (x * k).natAbs ≤ 1152921504606846976 := by
    rw [Int.natAbs_mul]
    have := Nat.mul_le_mul (show x.natAbs ≤ 1073741824 by omega) (show k.natAbs ≤ 1073741824 by omega)
    omega
  omega
theorem scaleHas (pl ph x k : Int) (h1 : pl ≤ x) (h2 : x ≤ ph) : min (pl * k) (ph * k) ≤ x * k ∧ x * k ≤ max (pl * k) (ph * k) := by
  by_cases hk : 0 ≤ k
  · have a := Int.mul_le_mul_of_nonneg_right h1 hk
    have b := Int.mul_le_mul_of_nonneg_right h2 hk
    omega
  · have a := Int.mul_le_mul_of_nonpos_right h1 (show k ≤ 0 by omega)
    have b := Int.mul_le_mul_of_nonpos_right h2 (show k ≤ 0 by omega)
    omega
theorem shrinkHas (pl ph x m : Int) (hm : 1 ≤ m) (h1 : pl ≤ x) (h2 : x ≤ ph) : downI pl m ≤ x.tdiv m ∧ x.tdiv m ≤ upI ph m := by
  have f := quo_facts x m hm
  have d1 := Int.ediv_le_ediv (show 0 < m by omega) h1
  have d2 := Int.ediv_le_ediv (show 0 < m by omega) (show -ph ≤ -x by omega)
  have e1 := Int.mul_ediv_add_emod x m
  have e2 := Int.mul_ediv_add_emod (-x) m
  have up : x / m ≤ -(-x / m) := by
    have l1 := Int.emod_nonneg x (show m ≠ 0 by omega)
    have l2 := Int.emod_nonneg (-x) (show m ≠ 0 by omega)
    refine Int.le_of_mul_le_mul_left (a := m) ?_ (by omega)
    rw [Int.mul_neg]; omega
  unfold downI upI
  rw [if_neg (by omega), if_neg (by omega)]
  omega
set_option maxHeartbeats 4000000 in
theorem walkSpanHolds (a b c d x y k : Int) (_w0 : (Lit.int .i64 a).wf = true) (_w1 : (Lit.int .i64 b).wf = true) (_w2 : (Lit.int .i64 c).wf = true) (_w3 : (Lit.int .i64 d).wf = true) (_w4 : (Lit.int .i64 x).wf = true) (_w5 : (Lit.int .i64 y).wf = true) (_w6 : (Lit.int .i64 k).wf = true) (w : World) :
    Calls Try.prog 3 #[.int .i64 a, .int .i64 b, .int .i64 c, .int .i64 d, .int .i64 x, .int .i64 y, .int .i64 k] w fun e w' => e = .returned (.bool true) ∧ Below w.heap.size w w' := by
  have A := tmod_in a 1073741824 (by omega)
  have Bb := tmod_in b 1073741824 (by omega)
  have C := tmod_in c 1073741824 (by omega)
  have D := tmod_in d 1073741824 (by omega)
  have Kb := tmod_in k 1073741824 (by omega)
  have K0 := Lib.hid fun (w : World) => spanOf (a.tmod 1073741824) (b.tmod 1073741824) w
  have K1 := Lib.hid fun (w : World) => spanOf (c.tmod 1073741824) (d.tmod 1073741824) w
  obtain ⟨pl, hpl⟩ : ∃ n, n = min (a.tmod 1073741824) (b.tmod 1073741824) := ⟨_, rfl⟩
  obtain ⟨ph, hph⟩ : ∃ n, n = max (a.tmod 1073741824) (b.tmod 1073741824) := ⟨_, rfl⟩
  obtain ⟨ql, hql⟩ : ∃ n, n = min (c.tmod 1073741824) (d.tmod 1073741824) := ⟨_, rfl⟩
  obtain ⟨qh, hqh⟩ : ∃ n, n = max (c.tmod 1073741824) (d.tmod 1073741824) := ⟨_, rfl⟩
  rw [← hpl, ← hph] at K0
  rw [← hql, ← hqh] at K1
  have p1 : -1073741824 ≤ pl := by omega
  have p2 : ph ≤ 1073741824 := by omega
  have p3 : pl ≤ ph := by omega
  have q1 : -1073741824 ≤ ql := by omega
  have q2 : qh ≤ 1073741824 := by omega
  have q3 : ql ≤ qh := by omega
  clear hpl hph hql hqh A Bb C D
  have xi := insI_in pl ph x p3
  have yi := insI_in ql qh y q3
  have KXi := Lib.hid fun (w : World) => insideC pl ph x p1 p3 p2 w
  have KYi := Lib.hid fun (w : World) => insideC ql qh y q1 q3 q2 w
  generalize insI pl ph x = X at *
  generalize insI ql qh y = Y at *
  obtain ⟨K, hK⟩ : ∃ n, n = k.tmod 1073741824 := ⟨_, rfl⟩
  rw [← hK] at Kb
  have ib : ∀ n : Int, -4611686018427387904 ≤ n → n ≤ 4611686018427387904 → I64 n := fun n h1 h2 => by unfold I64; omega
  have b1 := mulBd pl K p1 (by omega) (by omega) (by omega)
  have b2 := mulBd ph K (by omega) p2 (by omega) (by omega)
  have bm := mulBd X K (by omega) (by omega) (by omega) (by omega)
  have sc := scaleHas pl ph X K xi.1 xi.2
  have Ipl := ib pl (by omega) (by omega)
  have Iph := ib ph (by omega) (by omega)
  have Iql := ib ql (by omega) (by omega)
  have Iqh := ib qh (by omega) (by omega)
  have IK := ib K (by omega) (by omega)
  have IY := ib Y (by omega) (by omega)
  have KA := Lib.hid fun (w : World) => aggAs (satSmall (pl + ql) (by omega) (by omega)) (satSmall (ph + qh) (by omega) (by omega)) (spanAdd pl ph ql qh Ipl Iph Iql Iqh w)
  have KB := Lib.hid fun (w : World) => aggAs (satSmall (pl - qh) (by omega) (by omega)) (satSmall (ph - ql) (by omega) (by omega)) (spanSub pl ph ql qh Ipl Iph Iql Iqh w)
  have KC := Lib.hid fun (w : World) => aggAs (show min (sat (pl * K)) (sat (ph * K)) = min (pl * K) (ph * K) by rw [satSmall (pl * K) (by omega) (by omega), satSmall (ph * K) (by omega) (by omega)]) (show max (sat (pl * K)) (sat (ph * K)) = max (pl * K) (ph * K) by rw [satSmall (pl * K) (by omega) (by omega), satSmall (ph * K) (by omega) (by omega)]) (spanScale pl ph K Ipl Iph IK w)
  have KH := Lib.hid fun (w : World) => spanHull pl ph ql qh w
  have h1 := Lib.hid fun (w : World) => boolAs (hasOf pl ph X xi.1 xi.2) (spanHas pl ph X w)
  have h2 := Lib.hid fun (w : World) => boolAs (hasOf ql qh Y yi.1 yi.2) (spanHas ql qh Y w)
  have h3 := Lib.hid fun (w : World) => boolAs (hasOf (pl + ql) (ph + qh) (X + Y) (by omega) (by omega)) (spanHas _ _ _ w)
  have h4 := Lib.hid fun (w : World) => boolAs (hasOf (pl - qh) (ph - ql) (X - Y) (by omega) (by omega)) (spanHas _ _ _ w)
  have h5 := Lib.hid fun (w : World) => boolAs (hasOf (min (pl * K) (ph * K)) (max (pl * K) (ph * K)) (X * K) sc.1 sc.2) (spanHas _ _ _ w)
  have h6 := Lib.hid fun (w : World) => boolAs (hasOf (min pl ql) (max ph qh) X (by omega) (by omega)) (spanHas _ _ _ w)
  have h7 := Lib.hid fun (w : World) => boolAs (hasOf (min pl ql) (max ph qh) Y (by omega) (by omega)) (spanHas _ _ _ w)
  have KW := Lib.hid fun (w : World) => aggAs (satSmall (pl - max K 0) (by omega) (by omega)) (satSmall (ph + max K 0) (by omega) (by omega)) (spanWiden pl ph K Ipl Iph IK w)
  have i3 := Lib.hid fun (w : World) => boolAs (inOf pl ph (pl - max K 0) (ph + max K 0) (by omega) (by omega)) (spanIn _ _ _ _ w)
  have KT := Lib.hid fun (w : World) => atC Y w
  have KD := Lib.hid fun (w : World) => aggAs (satSmall (pl + Y) (by omega) (by omega)) (satSmall (ph + Y) (by omega) (by omega)) (spanAdd pl ph Y Y Ipl Iph IY IY w)
  have KE := Lib.hid fun (w : World) => aggAs (show sat (pl + Y - Y) = pl by rw [satSmall _ (by omega) (by omega)]; omega) (show sat (ph + Y - Y) = ph by rw [satSmall _ (by omega) (by omega)]; omega) (spanSub (pl + Y) (ph + Y) Y Y (ib _ (by omega) (by omega)) (ib _ (by omega) (by omega)) IY IY w)
  have KS := Lib.hid fun (a b : Int) (w : World) => sameEq a b w
  have bX1 : -1073741824 ≤ X := by omega
  have bX2 : X ≤ 1073741824 := by omega
  have bY1 : -1073741824 ≤ Y := by omega
  have bY2 : Y ≤ 1073741824 := by omega
  obtain ⟨bM1, bM2⟩ := bm
  by_cases kc : 1 ≤ K
  · have sh := shrinkHas pl ph X K (by omega) xi.1 xi.2
    have KR := Lib.hid fun (w : World) => spanShrink pl ph K Ipl Iph w
    have h8 := Lib.hid fun (w : World) => boolAs (hasOf (downI pl K) (upI ph K) (X.tdiv K) sh.1 sh.2) (spanHas _ _ _ w)
    subst hK
    by_cases m1 : pl ≤ qh
    · by_cases m2 : ql ≤ ph
      · have KM := Lib.hid fun (w : World) => spanMeetYes pl ph ql qh (by omega) w
        have i1 := Lib.hid fun (w : World) => boolAs (inOf (max pl ql) (min ph qh) pl ph (by omega) (by omega)) (spanIn _ _ _ _ w)
        have i2 := Lib.hid fun (w : World) => boolAs (inOf (max pl ql) (min ph qh) ql qh (by omega) (by omega)) (spanIn _ _ _ _ w)
        exact holdsYP a b c d x y k pl ph ql qh X Y _ _ _ _ _ _ _ _ (max pl ql) (min ph qh) _ _ _ _ _ _ bX1 bX2 bY1 bY2 bM1 bM2 (by omega) m1 m2 K0 K1 KXi KYi KA KB KC KH h1 h2 h3 h4 h5 h6 h7 KM i1 i2 KR h8 KW i3 KT KD KE KS w
      · have KM := Lib.hid fun (w : World) => spanMeetNo pl ph ql qh (by omega) w
        exact holdsOP a b c d x y k pl ph ql qh X Y _ _ _ _ _ _ _ _ _ _ _ _ _ _ bX1 bX2 bY1 bY2 bM1 bM2 (by omega) m1 (by simp; omega) K0 K1 KXi KYi KA KB KC KH h1 h2 h3 h4 h5 h6 h7 KM KR h8 KW i3 KT KD KE KS w
    · have KM := Lib.hid fun (w : World) => spanMeetNo pl ph ql qh (by omega) w
      exact holdsNP a b c d x y k pl ph ql qh X Y _ _ _ _ _ _ _ _ _ _ _ _ _ _ bX1 bX2 bY1 bY2 bM1 bM2 (by omega) (by simp; omega) K0 K1 KXi KYi KA KB KC KH h1 h2 h3 h4 h5 h6 h7 KM KR h8 KW i3 KT KD KE KS w
  · have sh := shrinkHas pl ph X 1 (by omega) xi.1 xi.2
    rw [Int.tdiv_one] at sh
    have KR := Lib.hid fun (w : World) => spanShrink pl ph 1 Ipl Iph w
    have h8 := Lib.hid fun (w : World) => boolAs (hasOf (downI pl 1) (upI ph 1) (X) sh.1 sh.2) (spanHas _ _ _ w)
    subst hK
    by_cases m1 : pl ≤ qh
    · by_cases m2 : ql ≤ ph
      · have KM := Lib.hid fun (w : World) => spanMeetYes pl ph ql qh (by omega) w
        have i1 := Lib.hid fun (w : World) => boolAs (inOf (max pl ql) (min ph qh) pl ph (by omega) (by omega)) (spanIn _ _ _ _ w)
        have i2 := Lib.hid fun (w : World) => boolAs (inOf (max pl ql) (min ph qh) ql qh (by omega) (by omega)) (spanIn _ _ _ _ w)
        exact holdsYQ a b c d x y k pl ph ql qh X Y _ _ _ _ _ _ _ _ (max pl ql) (min ph qh) _ _ _ _ _ _ bX1 bX2 bY1 bY2 bM1 bM2 (by omega) m1 m2 K0 K1 KXi KYi KA KB KC KH h1 h2 h3 h4 h5 h6 h7 KM i1 i2 KR h8 KW i3 KT KD KE KS w
      · have KM := Lib.hid fun (w : World) => spanMeetNo pl ph ql qh (by omega) w
        exact holdsOQ a b c d x y k pl ph ql qh X Y _ _ _ _ _ _ _ _ _ _ _ _ _ _ bX1 bX2 bY1 bY2 bM1 bM2 (by omega) m1 (by simp; omega) K0 K1 KXi KYi KA KB KC KH h1 h2 h3 h4 h5 h6 h7 KM KR h8 KW i3 KT KD KE KS w
    · have KM := Lib.hid fun (w : World) => spanMeetNo pl ph ql qh (by omega) w
      exact holdsNQ a b c d x y k pl ph ql qh X Y _ _ _ _ _ _ _ _ _ _ _ _ _ _ bX1 bX2 bY1 bY2 bM1 bM2 (by omega) (by simp; omega) K0 K1 KXi KYi KA KB KC KH h1 h2 h3 h4 h5 h6 h7 KM KR h8 KW i3 KT KD KE KS w
end Go.Proofs.Ytfbcceafgmamjab
