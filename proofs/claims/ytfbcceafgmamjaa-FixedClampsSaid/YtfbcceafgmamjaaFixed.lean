/- The laws of chapter 1 hold: each call of a law returns true. Conditions: the arguments are numbers of 64 bits. -/
import Derived.Test.YtfbcceafgmamjaaNum
import Derived.Lib.Hide
namespace Go.Proofs.Ytfbcceafgmamjaa
open Go.RowKit
theorem first1 (w : World) : Calls Try.prog 9 #[] w fun e w' => e = .returned (.bool true) ∧ w = w' := by
  go_enter Try.func9, Try.ntmps9
  go_wp2
  go_ret
  exact ⟨rfl, rfl⟩
theorem walkFixedSays (a b c d : Int) (w0 : (Lit.int .i64 a).wf = true) (w1 : (Lit.int .i64 b).wf = true) (_ : (Lit.int .i64 c).wf = true) (_ : (Lit.int .i64 d).wf = true) (w : World) :
    Calls Try.prog 3 #[.int .i64 a, .int .i64 b, .int .i64 c, .int .i64 d] w fun e w' => e = .returned (.bool true) ∧ Grown w w' := by
  have ha := i64_of w0
  have hb := i64_of w1
  go_enter Try.func3, Try.ntmps3
  go_wp2_with (first | (go_at_call 9; refine (first1 _).mono ?_; rintro e w' ⟨rfl, rfl⟩) | (go_at_call 10; refine (fixedAdd _ _ (by assumption) (by assumption) _).mono ?_; rintro e w' ⟨rfl, rfl⟩) | (go_at_call 11; refine (refAdd _ _ (by assumption) (by assumption) _).mono ?_; rintro e w' ⟨rfl, rfl⟩) | (go_at_call 12; refine (fixedSub _ _ (by assumption) (by assumption) _).mono ?_; rintro e w' ⟨rfl, rfl⟩) | (go_at_call 13; refine (refSub _ _ (by assumption) (by assumption) _).mono ?_; rintro e w' ⟨rfl, rfl⟩) | (go_at_call 14; refine (fixedMul _ _ (by assumption) (by assumption) _).mono ?_; rintro e w' ⟨rfl, rfl⟩) | (go_at_call 15; refine (refMul _ _ (by assumption) (by assumption) _).mono ?_; rintro e w' ⟨rfl, rfl⟩) | (go_at_call 16; refine (fixedAbs _ (by assumption) _).mono ?_; rintro e w' ⟨rfl, rfl⟩) | (go_at_call 17; refine (refAbs _ (by assumption) _).mono ?_; rintro e w' ⟨rfl, rfl⟩) | (go_at_call 18; refine (fixedDown _ _ (by assumption) _).mono ?_; rintro e w' ⟨rfl, rfl⟩) | (go_at_call 19; refine (refDown _ _ (by assumption) _).mono ?_; rintro e w' ⟨rfl, rfl⟩) | (go_at_call 20; refine (fixedUp _ _ (by assumption) _).mono ?_; rintro e w' ⟨rfl, rfl⟩) | (go_at_call 21; refine (refUp _ _ (by assumption) _).mono ?_; rintro e w' ⟨rfl, rfl⟩) | (go_at_call 22; refine (fixedClamp _ _ _ _).mono ?_; rintro e w' ⟨rfl, rfl⟩) | (go_at_call 23; refine (refClamp _ _ _ _).mono ?_; rintro e w' ⟨rfl, rfl⟩))
  go_ret
  exact ⟨rfl, Grown.refl _⟩
theorem down_le (n b : Int) (hb : 1 ≤ b) (h1 : -2305843009213693952 ≤ n) (h2 : n ≤ 2305843009213693951) : -2305843009213693952 ≤ downI n b ∧ downI n b ≤ 2305843009213693951 := by
  have d : downI n b = n / b := by unfold downI; rw [if_neg (by omega)]
  rw [d]
  by_cases h : 0 ≤ n
  · have g1 := Int.ediv_nonneg h (show 0 ≤ b by omega)
    have g2 := Int.ediv_le_self b h
    omega
  · have g1 : n / b < 0 := Int.ediv_neg_of_neg_of_pos (by omega) (by omega)
    have g2 : n ≤ n / b := by
      refine (Int.le_ediv_iff_mul_le (by omega)).2 ?_
      have := Int.mul_le_mul_of_nonpos_left (show n ≤ 0 by omega) hb
      rw [Int.mul_one] at this; exact this
    omega
set_option maxHeartbeats 4000000 in
theorem walkFixedDivides (a b : Int) (w0 : (Lit.int .i64 a).wf = true) (w1 : (Lit.int .i64 b).wf = true) (w : World) :
    Calls Try.prog 4 #[.int .i64 a, .int .i64 b] w fun e w' => e = .returned (.bool true) ∧ Grown w w' := by
  have ha := i64_of w0
  have hb := i64_of w1
  have hn : I64 (a / 4) := by unfold I64 at *; omega
  by_cases p : b < 1
  · have e1 : downI (a / 4) b = 0 := by unfold downI; rw [if_pos p]
    have e2 : upI (a / 4) b = 0 := by unfold upI; rw [if_pos p]
    have E1 := Lib.hid e1
    have E2 := Lib.hid e2
    clear e1 e2
    go_enter Try.func4, Try.ntmps4
    go_wp2_with fail
    refine (first1 _).mono ?_; rintro e w' ⟨rfl, rfl⟩; go_wp2_with fail
    refine (fixedDown _ _ (by assumption) _).mono ?_; rintro e w' ⟨he, rfl⟩; rw [E1.out] at he; subst he; go_wp2_with fail
    refine (fixedUp _ _ (by assumption) _).mono ?_; rintro e w' ⟨he, rfl⟩; rw [E2.out] at he; subst he; go_wp2_with fail
    go_ret
    exact ⟨rfl, Grown.refl _⟩
  by_cases p2 : 2305843009213693952 < b
  · go_enter Try.func4, Try.ntmps4
    go_wp2_with fail
    refine (first1 _).mono ?_; rintro e w' ⟨rfl, rfl⟩; go_wp2_with fail
    go_ret
    exact ⟨rfl, Grown.refl _⟩
  have df := down_facts (a / 4) b (by omega)
  have dl := down_le (a / 4) b (by omega) (by unfold I64 at ha; omega) (by unfold I64 at ha; omega)
  have nl : -2305843009213693952 ≤ a / 4 ∧ a / 4 ≤ 2305843009213693951 := by unfold I64 at ha; omega
  obtain ⟨q, hq⟩ : ∃ q, q = downI (a / 4) b := ⟨_, rfl⟩
  obtain ⟨u, hu⟩ : ∃ u, u = upI (a / 4) b := ⟨_, rfl⟩
  rw [← hq, ← hu] at df
  rw [← hq] at dl
  have Hq := Lib.hid hq
  have Hu := Lib.hid hu
  clear hq hu
  obtain ⟨f1, f2, f3, f4, f5, f6⟩ := df
  obtain ⟨dl1, dl2⟩ := dl
  obtain ⟨nl1, nl2⟩ := nl
  by_cases ev : (a / 4).tmod b = 0
  · have f5' := f5 ev
    subst f5'
    have ev' : ((a / 4).tmod b == 0) = true := by simp [ev]
    clear ev f5 f6
    go_enter Try.func4, Try.ntmps4
    go_wp2_with fail
    refine (first1 _).mono ?_; rintro e w' ⟨rfl, rfl⟩; go_wp2_with fail
    refine (fixedDown _ _ (by assumption) _).mono ?_; rintro e w' ⟨he, rfl⟩; rw [← Hq.out] at he; subst he; go_wp2_with fail
    refine (fixedUp _ _ (by assumption) _).mono ?_; rintro e w' ⟨he, rfl⟩; rw [← Hu.out] at he; subst he; go_wp2_with fail
    go_ret
    exact ⟨rfl, Grown.refl _⟩
  · have f6' := f6 ev
    subst f6'
    have ev' : ((a / 4).tmod b == 0) = false := by simp [ev]
    clear ev f5 f6
    go_enter Try.func4, Try.ntmps4
    go_wp2_with fail
    refine (first1 _).mono ?_; rintro e w' ⟨rfl, rfl⟩; go_wp2_with fail
    refine (fixedDown _ _ (by assumption) _).mono ?_; rintro e w' ⟨he, rfl⟩; rw [← Hq.out] at he; subst he; go_wp2_with fail
    refine (fixedUp _ _ (by assumption) _).mono ?_; rintro e w' ⟨he, rfl⟩; rw [← Hu.out] at he; subst he; go_wp2_with fail
    go_ret
    exact ⟨ret_bool (by simp; omega), Grown.refl _⟩
theorem clamp_hi (x lo hi : Int) (h : hi < x) (h' : lo ≤ hi) : clampI x lo hi = hi := by unfold clampI; omega
theorem clamp_lo (x lo hi : Int) (h : x < lo) (h' : lo ≤ hi) : clampI x lo hi = lo := by unfold clampI; omega
theorem clamp_in (x lo hi : Int) (h : lo ≤ x) (h' : x ≤ hi) : clampI x lo hi = x := by unfold clampI; omega
theorem clamp_cross (x lo hi : Int) (h : hi < lo) : clampI x lo hi = lo := by unfold clampI; omega
set_option maxHeartbeats 4000000 in
theorem walkFixedClamps (x lo hi : Int) (w0 : (Lit.int .i64 x).wf = true) (w1 : (Lit.int .i64 lo).wf = true) (w2 : (Lit.int .i64 hi).wf = true) (w : World) :
    Calls Try.prog 6 #[.int .i64 x, .int .i64 lo, .int .i64 hi] w fun e w' => e = .returned (.bool true) ∧ Grown w w' := by
  by_cases p : hi < lo
  · go_enter Try.func6, Try.ntmps6
    go_wp2_with fail
    refine (first1 _).mono ?_; rintro e w' ⟨rfl, rfl⟩; go_wp2_with fail
    refine (fixedClamp _ _ _ _).mono ?_; rintro e w' ⟨he, rfl⟩; rw [clamp_cross _ _ _ (by omega)] at he; subst he; go_wp2_with fail
    go_ret
    exact ⟨rfl, Grown.refl _⟩
  by_cases p1 : x < lo
  · go_enter Try.func6, Try.ntmps6
    go_wp2_with fail
    refine (first1 _).mono ?_; rintro e w' ⟨rfl, rfl⟩; go_wp2_with fail
    refine (fixedClamp _ _ _ _).mono ?_; rintro e w' ⟨he, rfl⟩; rw [clamp_lo _ _ _ (by omega) (by omega)] at he; subst he; go_wp2_with fail
    refine (fixedClamp _ _ _ _).mono ?_; rintro e w' ⟨he, rfl⟩; rw [clamp_in _ _ _ (by omega) (by omega)] at he; subst he; go_wp2_with fail
    go_ret
    exact ⟨rfl, Grown.refl _⟩
  by_cases p2 : hi < x
  · go_enter Try.func6, Try.ntmps6
    go_wp2_with fail
    refine (first1 _).mono ?_; rintro e w' ⟨rfl, rfl⟩; go_wp2_with fail
    refine (fixedClamp _ _ _ _).mono ?_; rintro e w' ⟨he, rfl⟩; rw [clamp_hi _ _ _ (by omega) (by omega)] at he; subst he; go_wp2_with fail
    refine (fixedClamp _ _ _ _).mono ?_; rintro e w' ⟨he, rfl⟩; rw [clamp_in _ _ _ (by omega) (by omega)] at he; subst he; go_wp2_with fail
    all_goals (go_ret; exact ⟨rfl, Grown.refl _⟩)
  · go_enter Try.func6, Try.ntmps6
    go_wp2_with fail
    refine (first1 _).mono ?_; rintro e w' ⟨rfl, rfl⟩; go_wp2_with fail
    refine (fixedClamp _ _ _ _).mono ?_; rintro e w' ⟨he, rfl⟩; rw [clamp_in _ _ _ (by omega) (by omega)] at he; subst he; go_wp2_with fail
    refine (fixedClamp _ _ _ _).mono ?_; rintro e w' ⟨he, rfl⟩; rw [clamp_in _ _ _ (by omega) (by omega)] at he; subst he; go_wp2_with fail
    go_ret
    exact ⟨rfl, Grown.refl _⟩
theorem sat_id (a : Int) (h : I64 a) : sat a = a := by unfold sat; unfold I64 at h; omega
set_option maxHeartbeats 4000000 in
theorem walkFixedBounds (a b : Int) (w0 : (Lit.int .i64 a).wf = true) (w1 : (Lit.int .i64 b).wf = true) (w : World) :
    Calls Try.prog 5 #[.int .i64 a, .int .i64 b] w fun e w' => e = .returned (.bool true) ∧ Grown w w' := by
  have ha := i64_of w0
  have hb := i64_of w1
  have i1 : I64 1 := by unfold I64; omega
  have i0 : I64 0 := by unfold I64; omega
  have c1 : 0 ≤ a → 0 ≤ b → a ≤ sat (a + b) ∧ b ≤ sat (a + b) := by simp only [sat, I64] at *; omega
  have c2 : a ≤ 0 → b ≤ 0 → sat (a + b) ≤ a ∧ sat (a + b) ≤ b := by simp only [sat, I64] at *; omega
  have tri : ∀ x : Int, x < 0 ∨ (0 ≤ x ∧ x ≤ 0) ∨ 0 < x := by omega
  have k1 : I64 9223372036854775807 := by unfold I64; omega
  have k2 : I64 (-9223372036854775808) := by unfold I64; omega
  have k3 : I64 (-1) := by unfold I64; omega
  have k4 : I64 2 := by unfold I64; omega
  have k5 : I64 (-2) := by unfold I64; omega
  have k6 := sat_in (absI a)
  have k7 : 0 ≤ sat (absI a) := by unfold sat absI; omega
  go_enter Try.func5, Try.ntmps5
  go_wp2_with (first | (go_at_call 9; refine (first1 _).mono ?_; rintro e w' ⟨rfl, rfl⟩))
  refine (fixedAdd _ _ ha hb _).mono ?_; rintro e w' ⟨rfl, rfl⟩; go_wp2_with fail
  refine (fixedMul _ _ ha hb _).mono ?_; rintro e w' ⟨rfl, rfl⟩; go_wp2_with fail
  refine (fixedAdd _ _ hb ha _).mono ?_; rintro e w' ⟨he, rfl⟩; rw [Int.add_comm b a] at he; subst he; go_wp2_with fail
  refine (fixedMul _ _ hb ha _).mono ?_; rintro e w' ⟨he, rfl⟩; rw [Int.mul_comm b a] at he; subst he; go_wp2_with fail
  refine (fixedSub _ _ ha ha _).mono ?_; rintro e w' ⟨he, rfl⟩; rw [Int.sub_self, sat_id 0 i0] at he; subst he; go_wp2_with fail
  refine (fixedMul _ _ ha i1 _).mono ?_; rintro e w' ⟨he, rfl⟩; rw [Int.mul_one, sat_id a ha] at he; subst he; go_wp2_with fail
  refine (fixedAdd _ _ ha i0 _).mono ?_; rintro e w' ⟨he, rfl⟩; rw [Int.add_zero, sat_id a ha] at he; subst he
  rcases tri a with p | ⟨p, p'⟩ | p <;> rcases tri b with q | ⟨q, q'⟩ | q
  all_goals
    try have d1 := (c1 (by omega) (by omega)).1
    try have d2 := (c1 (by omega) (by omega)).2
    try have d3 := (c2 (by omega) (by omega)).1
    try have d4 := (c2 (by omega) (by omega)).2
    clear c1 c2 tri
    go_wp2_with fail
    refine (fixedAbs _ ha _).mono ?_; rintro e w' ⟨rfl, rfl⟩; go_wp2_with fail
    refine (fixedAdd _ _ k1 k6 _).mono ?_; rintro e w' ⟨he, rfl⟩; rw [show sat (9223372036854775807 + sat (absI a)) = 9223372036854775807 from by generalize sat (absI a) = z at *; unfold sat; omega] at he; subst he; go_wp2_with fail
    refine (fixedAbs _ ha _).mono ?_; rintro e w' ⟨rfl, rfl⟩; go_wp2_with fail
    refine (fixedSub _ _ k2 k6 _).mono ?_; rintro e w' ⟨he, rfl⟩; rw [show sat (-9223372036854775808 - sat (absI a)) = -9223372036854775808 from by generalize sat (absI a) = z at *; unfold sat; omega] at he; subst he; go_wp2_with fail
    refine (fixedAbs _ k2 _).mono ?_; rintro e w' ⟨he, rfl⟩; rw [show sat (absI (-9223372036854775808)) = 9223372036854775807 from by unfold sat absI; omega] at he; subst he; go_wp2_with fail
    refine (fixedMul _ _ k2 k3 _).mono ?_; rintro e w' ⟨he, rfl⟩; rw [show sat (-9223372036854775808 * -1) = 9223372036854775807 from by unfold sat; omega] at he; subst he; go_wp2_with fail
    refine (fixedAbs _ ha _).mono ?_; rintro e w' ⟨rfl, rfl⟩; go_wp2_with fail
    refine (fixedMul _ _ k1 k4 _).mono ?_; rintro e w' ⟨he, rfl⟩; rw [show sat (9223372036854775807 * 2) = 9223372036854775807 from by unfold sat; omega] at he; subst he; go_wp2_with fail
    refine (fixedMul _ _ k1 k5 _).mono ?_; rintro e w' ⟨he, rfl⟩; rw [show sat (9223372036854775807 * -2) = -9223372036854775808 from by unfold sat; omega] at he; subst he; go_wp2_with fail
    go_ret
    exact ⟨rfl, Grown.refl _⟩
theorem sat_mono {x y : Int} (h : x ≤ y) : sat x ≤ sat y := by unfold sat; omega
theorem down_mono {a b : Int} (c : Int) (h : a ≤ b) : downI a c ≤ downI b c := by
  unfold downI; split
  · omega
  · exact Int.ediv_le_ediv (by omega) h
theorem up_mono {a b : Int} (c : Int) (h : a ≤ b) : upI a c ≤ upI b c := by
  unfold upI; split
  · omega
  · have := Int.ediv_le_ediv (show 0 < c by omega) (show -b ≤ -a by omega); omega
set_option maxHeartbeats 4000000 in
theorem walkFixedRises (a b c : Int) (w0 : (Lit.int .i64 a).wf = true) (w1 : (Lit.int .i64 b).wf = true) (w2 : (Lit.int .i64 c).wf = true) (w : World) :
    Calls Try.prog 7 #[.int .i64 a, .int .i64 b, .int .i64 c] w fun e w' => e = .returned (.bool true) ∧ Grown w w' := by
  have ha := i64_of w0
  have hb := i64_of w1
  have hc := i64_of w2
  have tri : ∀ x : Int, x < 0 ∨ (0 ≤ x ∧ x ≤ 0) ∨ 0 < x := by omega
  by_cases p : b < a
  · have hle : b ≤ a := by omega
    have m1 := sat_mono (show b + c ≤ a + c by omega)
    have m2 := sat_mono (show b - c ≤ a - c by omega)
    have m3 := down_mono c hle
    have m4 := up_mono c hle
    rcases tri c with q | ⟨q, q'⟩ | q
    · have m5 := sat_mono (Int.mul_le_mul_of_nonpos_right hle (show c ≤ 0 by omega))
      clear tri hle
      go_enter Try.func7, Try.ntmps7
      go_wp2_with fail
      refine (first1 _).mono ?_; rintro e w' ⟨rfl, rfl⟩; go_wp2_with fail
      refine (fixedAdd _ _ (by assumption) (by assumption) _).mono ?_; rintro e w' ⟨rfl, rfl⟩; go_wp2_with fail
      refine (fixedAdd _ _ (by assumption) (by assumption) _).mono ?_; rintro e w' ⟨rfl, rfl⟩; go_wp2_with fail
      refine (fixedSub _ _ (by assumption) (by assumption) _).mono ?_; rintro e w' ⟨rfl, rfl⟩; go_wp2_with fail
      refine (fixedSub _ _ (by assumption) (by assumption) _).mono ?_; rintro e w' ⟨rfl, rfl⟩; go_wp2_with fail
      refine (fixedDown _ _ (by assumption) _).mono ?_; rintro e w' ⟨rfl, rfl⟩; go_wp2_with fail
      refine (fixedDown _ _ (by assumption) _).mono ?_; rintro e w' ⟨rfl, rfl⟩; go_wp2_with fail
      refine (fixedUp _ _ (by assumption) _).mono ?_; rintro e w' ⟨rfl, rfl⟩; go_wp2_with fail
      refine (fixedUp _ _ (by assumption) _).mono ?_; rintro e w' ⟨rfl, rfl⟩; go_wp2_with fail
      refine (fixedMul _ _ (by assumption) (by assumption) _).mono ?_; rintro e w' ⟨rfl, rfl⟩; go_wp2_with fail
      refine (fixedMul _ _ (by assumption) (by assumption) _).mono ?_; rintro e w' ⟨rfl, rfl⟩; go_wp2_with fail
      go_ret
      exact ⟨rfl, Grown.refl _⟩
    · have m5 := sat_mono (Int.mul_le_mul_of_nonpos_right hle (show c ≤ 0 by omega))
      have m6 := sat_mono (Int.mul_le_mul_of_nonneg_right hle (show 0 ≤ c by omega))
      clear tri hle
      go_enter Try.func7, Try.ntmps7
      go_wp2_with fail
      refine (first1 _).mono ?_; rintro e w' ⟨rfl, rfl⟩; go_wp2_with fail
      refine (fixedAdd _ _ (by assumption) (by assumption) _).mono ?_; rintro e w' ⟨rfl, rfl⟩; go_wp2_with fail
      refine (fixedAdd _ _ (by assumption) (by assumption) _).mono ?_; rintro e w' ⟨rfl, rfl⟩; go_wp2_with fail
      refine (fixedSub _ _ (by assumption) (by assumption) _).mono ?_; rintro e w' ⟨rfl, rfl⟩; go_wp2_with fail
      refine (fixedSub _ _ (by assumption) (by assumption) _).mono ?_; rintro e w' ⟨rfl, rfl⟩; go_wp2_with fail
      refine (fixedDown _ _ (by assumption) _).mono ?_; rintro e w' ⟨rfl, rfl⟩; go_wp2_with fail
      refine (fixedDown _ _ (by assumption) _).mono ?_; rintro e w' ⟨rfl, rfl⟩; go_wp2_with fail
      refine (fixedUp _ _ (by assumption) _).mono ?_; rintro e w' ⟨rfl, rfl⟩; go_wp2_with fail
      refine (fixedUp _ _ (by assumption) _).mono ?_; rintro e w' ⟨rfl, rfl⟩; go_wp2_with fail
      refine (fixedMul _ _ (by assumption) (by assumption) _).mono ?_; rintro e w' ⟨rfl, rfl⟩; go_wp2_with fail
      refine (fixedMul _ _ (by assumption) (by assumption) _).mono ?_; rintro e w' ⟨rfl, rfl⟩; go_wp2_with fail
      refine (fixedMul _ _ (by assumption) (by assumption) _).mono ?_; rintro e w' ⟨rfl, rfl⟩; go_wp2_with fail
      refine (fixedMul _ _ (by assumption) (by assumption) _).mono ?_; rintro e w' ⟨rfl, rfl⟩; go_wp2_with fail
      go_ret
      exact ⟨rfl, Grown.refl _⟩
    · have m6 := sat_mono (Int.mul_le_mul_of_nonneg_right hle (show 0 ≤ c by omega))
      clear tri hle
      go_enter Try.func7, Try.ntmps7
      go_wp2_with fail
      refine (first1 _).mono ?_; rintro e w' ⟨rfl, rfl⟩; go_wp2_with fail
      refine (fixedAdd _ _ (by assumption) (by assumption) _).mono ?_; rintro e w' ⟨rfl, rfl⟩; go_wp2_with fail
      refine (fixedAdd _ _ (by assumption) (by assumption) _).mono ?_; rintro e w' ⟨rfl, rfl⟩; go_wp2_with fail
      refine (fixedSub _ _ (by assumption) (by assumption) _).mono ?_; rintro e w' ⟨rfl, rfl⟩; go_wp2_with fail
      refine (fixedSub _ _ (by assumption) (by assumption) _).mono ?_; rintro e w' ⟨rfl, rfl⟩; go_wp2_with fail
      refine (fixedDown _ _ (by assumption) _).mono ?_; rintro e w' ⟨rfl, rfl⟩; go_wp2_with fail
      refine (fixedDown _ _ (by assumption) _).mono ?_; rintro e w' ⟨rfl, rfl⟩; go_wp2_with fail
      refine (fixedUp _ _ (by assumption) _).mono ?_; rintro e w' ⟨rfl, rfl⟩; go_wp2_with fail
      refine (fixedUp _ _ (by assumption) _).mono ?_; rintro e w' ⟨rfl, rfl⟩; go_wp2_with fail
      refine (fixedMul _ _ (by assumption) (by assumption) _).mono ?_; rintro e w' ⟨rfl, rfl⟩; go_wp2_with fail
      refine (fixedMul _ _ (by assumption) (by assumption) _).mono ?_; rintro e w' ⟨rfl, rfl⟩; go_wp2_with fail
      go_ret
      exact ⟨rfl, Grown.refl _⟩
  · have hle : a ≤ b := by omega
    have m1 := sat_mono (show a + c ≤ b + c by omega)
    have m2 := sat_mono (show a - c ≤ b - c by omega)
    have m3 := down_mono c hle
    have m4 := up_mono c hle
    rcases tri c with q | ⟨q, q'⟩ | q
    · have m5 := sat_mono (Int.mul_le_mul_of_nonpos_right hle (show c ≤ 0 by omega))
      clear tri hle
      go_enter Try.func7, Try.ntmps7
      go_wp2_with fail
      refine (first1 _).mono ?_; rintro e w' ⟨rfl, rfl⟩; go_wp2_with fail
      refine (fixedAdd _ _ (by assumption) (by assumption) _).mono ?_; rintro e w' ⟨rfl, rfl⟩; go_wp2_with fail
      refine (fixedAdd _ _ (by assumption) (by assumption) _).mono ?_; rintro e w' ⟨rfl, rfl⟩; go_wp2_with fail
      refine (fixedSub _ _ (by assumption) (by assumption) _).mono ?_; rintro e w' ⟨rfl, rfl⟩; go_wp2_with fail
      refine (fixedSub _ _ (by assumption) (by assumption) _).mono ?_; rintro e w' ⟨rfl, rfl⟩; go_wp2_with fail
      refine (fixedDown _ _ (by assumption) _).mono ?_; rintro e w' ⟨rfl, rfl⟩; go_wp2_with fail
      refine (fixedDown _ _ (by assumption) _).mono ?_; rintro e w' ⟨rfl, rfl⟩; go_wp2_with fail
      refine (fixedUp _ _ (by assumption) _).mono ?_; rintro e w' ⟨rfl, rfl⟩; go_wp2_with fail
      refine (fixedUp _ _ (by assumption) _).mono ?_; rintro e w' ⟨rfl, rfl⟩; go_wp2_with fail
      refine (fixedMul _ _ (by assumption) (by assumption) _).mono ?_; rintro e w' ⟨rfl, rfl⟩; go_wp2_with fail
      refine (fixedMul _ _ (by assumption) (by assumption) _).mono ?_; rintro e w' ⟨rfl, rfl⟩; go_wp2_with fail
      go_ret
      exact ⟨rfl, Grown.refl _⟩
    · have m5 := sat_mono (Int.mul_le_mul_of_nonpos_right hle (show c ≤ 0 by omega))
      have m6 := sat_mono (Int.mul_le_mul_of_nonneg_right hle (show 0 ≤ c by omega))
      clear tri hle
      go_enter Try.func7, Try.ntmps7
      go_wp2_with fail
      refine (first1 _).mono ?_; rintro e w' ⟨rfl, rfl⟩; go_wp2_with fail
      refine (fixedAdd _ _ (by assumption) (by assumption) _).mono ?_; rintro e w' ⟨rfl, rfl⟩; go_wp2_with fail
      refine (fixedAdd _ _ (by assumption) (by assumption) _).mono ?_; rintro e w' ⟨rfl, rfl⟩; go_wp2_with fail
      refine (fixedSub _ _ (by assumption) (by assumption) _).mono ?_; rintro e w' ⟨rfl, rfl⟩; go_wp2_with fail
      refine (fixedSub _ _ (by assumption) (by assumption) _).mono ?_; rintro e w' ⟨rfl, rfl⟩; go_wp2_with fail
      refine (fixedDown _ _ (by assumption) _).mono ?_; rintro e w' ⟨rfl, rfl⟩; go_wp2_with fail
      refine (fixedDown _ _ (by assumption) _).mono ?_; rintro e w' ⟨rfl, rfl⟩; go_wp2_with fail
      refine (fixedUp _ _ (by assumption) _).mono ?_; rintro e w' ⟨rfl, rfl⟩; go_wp2_with fail
      refine (fixedUp _ _ (by assumption) _).mono ?_; rintro e w' ⟨rfl, rfl⟩; go_wp2_with fail
      refine (fixedMul _ _ (by assumption) (by assumption) _).mono ?_; rintro e w' ⟨rfl, rfl⟩; go_wp2_with fail
      refine (fixedMul _ _ (by assumption) (by assumption) _).mono ?_; rintro e w' ⟨rfl, rfl⟩; go_wp2_with fail
      refine (fixedMul _ _ (by assumption) (by assumption) _).mono ?_; rintro e w' ⟨rfl, rfl⟩; go_wp2_with fail
      refine (fixedMul _ _ (by assumption) (by assumption) _).mono ?_; rintro e w' ⟨rfl, rfl⟩; go_wp2_with fail
      go_ret
      exact ⟨rfl, Grown.refl _⟩
    · have m6 := sat_mono (Int.mul_le_mul_of_nonneg_right hle (show 0 ≤ c by omega))
      clear tri hle
      go_enter Try.func7, Try.ntmps7
      go_wp2_with fail
      refine (first1 _).mono ?_; rintro e w' ⟨rfl, rfl⟩; go_wp2_with fail
      refine (fixedAdd _ _ (by assumption) (by assumption) _).mono ?_; rintro e w' ⟨rfl, rfl⟩; go_wp2_with fail
      refine (fixedAdd _ _ (by assumption) (by assumption) _).mono ?_; rintro e w' ⟨rfl, rfl⟩; go_wp2_with fail
      refine (fixedSub _ _ (by assumption) (by assumption) _).mono ?_; rintro e w' ⟨rfl, rfl⟩; go_wp2_with fail
      refine (fixedSub _ _ (by assumption) (by assumption) _).mono ?_; rintro e w' ⟨rfl, rfl⟩; go_wp2_with fail
      refine (fixedDown _ _ (by assumption) _).mono ?_; rintro e w' ⟨rfl, rfl⟩; go_wp2_with fail
      refine (fixedDown _ _ (by assumption) _).mono ?_; rintro e w' ⟨rfl, rfl⟩; go_wp2_with fail
      refine (fixedUp _ _ (by assumption) _).mono ?_; rintro e w' ⟨rfl, rfl⟩; go_wp2_with fail
      refine (fixedUp _ _ (by assumption) _).mono ?_; rintro e w' ⟨rfl, rfl⟩; go_wp2_with fail
      refine (fixedMul _ _ (by assumption) (by assumption) _).mono ?_; rintro e w' ⟨rfl, rfl⟩; go_wp2_with fail
      refine (fixedMul _ _ (by assumption) (by assumption) _).mono ?_; rintro e w' ⟨rfl, rfl⟩; go_wp2_with fail
      go_ret
      exact ⟨rfl, Grown.refl _⟩
end Go.Proofs.Ytfbcceafgmamjaa
