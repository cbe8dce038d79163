/- FreshNewer and FreshRows hold: each call returns true. Conditions: the arguments are numbers of their kinds. -/
import Derived.Test.YtfijkcnmcbljnaaFresh
import Derived.Test.YtfijkcnmcbljnaaNum2
namespace Go.Proofs.Ytfijkcnmcbljnaa
open Go.RowKit
set_option linter.unusedVariables false
def none48 : Nat → Smp := fun _ => ⟨false, 0, 0, 0⟩
theorem putI (B : Nat) (st : Int) (f : Nat → Smp) (ch : Int) (h1 : 1 ≤ ch) (h2 : ch < 48) (s v : Int) (w : World) (h : Bk w B st f) :
    Calls Try.prog 13 #[.pointer (some ⟨B, 0, none⟩), .int .i64 ch, .int .u8 s, .int .i64 v] w fun e w' => e = .returned (.bool (putB f ch.toNat s)) ∧ Bk w' B st (putF f ch.toNat s v) ∧ Only B w w' := by
  have := putC B st f ch.toNat (by omega) (by omega) s v w h
  rwa [Int.toNat_of_nonneg (by omega)] at this
theorem getI (B : Nat) (st : Int) (f : Nat → Smp) (ch : Int) (h1 : 1 ≤ ch) (h2 : ch < 48) (w : World) (h : Bk w B st f) :
    Calls Try.prog 14 #[.pointer (some ⟨B, 0, none⟩), .int .i64 ch] w fun e w' => e = .returned (.tuple #[.int .i64 (f ch.toNat).v, .bool ((f ch.toNat).there && decide ((f ch.toNat).age ≤ st))]) ∧ Below w.heap.size w w' := by
  have := getC B st f ch.toNat (by omega) (by omega) w h
  rwa [Int.toNat_of_nonneg (by omega)] at this
theorem newerCases (a b : Int) (ha : 0 ≤ a ∧ a ≤ 255) (hb : 0 ≤ b ∧ b ≤ 255) :
    (newer a b = true ∧ newer b a = false ∧ (a != b) = true ∧ ((a - b) % 256 != 128) = true) ∨ (newer a b = false ∧ newer b a = true ∧ (a != b) = true ∧ ((a - b) % 256 != 128) = true) ∨
    (newer a b = false ∧ newer b a = false ∧ a = b) ∨ (newer a b = false ∧ newer b a = false ∧ (a != b) = true ∧ ((a - b) % 256 != 128) = false) := by
  have e1 : (newer a b = true) ↔ (1 ≤ (a - b) % 256 ∧ (a - b) % 256 ≤ 127) := by simp [newer]
  have e2 : (newer b a = true) ↔ (1 ≤ (b - a) % 256 ∧ (b - a) % 256 ≤ 127) := by simp [newer]
  have e3 : ((a != b) = true) ↔ a ≠ b := by simp
  have e4 : (((a - b) % 256 != 128) = true) ↔ (a - b) % 256 ≠ 128 := by simp
  cases h1 : newer a b <;> cases h2 : newer b a <;> cases h3 : (a != b) <;> cases h4 : ((a - b) % 256 != 128)
  all_goals
    simp only [h1, h2, h3, h4, true_iff, false_iff, Bool.false_eq_true] at e1 e2 e3 e4
    first
      | (left; exact ⟨rfl, rfl, rfl, rfl⟩)
      | (right; left; exact ⟨rfl, rfl, rfl, rfl⟩)
      | (right; right; right; exact ⟨rfl, rfl, rfl, rfl⟩)
      | (right; right; left; exact ⟨rfl, rfl, by omega⟩)
      | (exfalso; omega)
theorem newerEnd (c : Nat) (a0 a1 a2 a3 : Int) : putB none48 c a1 = true ∧ putB (putF none48 c a1 a2) c a0 = newer a0 a1 ∧ (putF (putF none48 c a1 a2) c a0 a3) c = if newer a0 a1 = true then ⟨true, a0, a3, 0⟩ else ⟨true, a1, a2, 0⟩ := by
  refine ⟨by simp [putB, none48], by simp [putB, putF, upd, none48], ?_⟩
  cases h : newer a0 a1 <;> simp [putB, putF, upd, none48, h]
theorem walkFreshNewer (a0 : Int) (a1 : Int) (a2 : Int) (a3 : Int) (a4 : Int) (w : World) (w0 : (Lit.int .u8 a0).wf = true) (w1 : (Lit.int .u8 a1).wf = true) (w2 : (Lit.int .i64 a2).wf = true) (w3 : (Lit.int .i64 a3).wf = true) (w4 : (Lit.int .i64 a4).wf = true) :
    Calls Try.prog 3 #[.int .u8 a0, .int .u8 a1, .int .i64 a2, .int .i64 a3, .int .i64 a4] w fun e w' => e = .returned (.bool true) ∧ Below w.heap.size w w' := by
  have u0 := bounds_u8 w0
  have u1 := bounds_u8 w1
  clear w0 w1 w2 w3 w4
  have N0 := Lib.hid fun (w : World) => numberC a4 47 (by omega) (by omega) w
  have hn1 := Int.emod_nonneg a4 (show (47 : Int) ≠ 0 by omega)
  have hn2 := Int.emod_lt_of_pos a4 (show (0 : Int) < 47 by omega)
  generalize a4 % 47 = n at *
  obtain ⟨p1, p2, p3⟩ := newerEnd (n + 1).toNat a0 a1 a2 a3
  have N1 := fun (w : World) => newerC a0 a1 w
  have N2 := fun (w : World) => newerC a1 a0 w
  have P1 := fun (w : World) B h => putI B 3 none48 (n + 1) (by omega) (by omega) a1 a2 w h
  have P2 := fun (w : World) B h => putI B 3 (putF none48 (n + 1).toNat a1 a2) (n + 1) (by omega) (by omega) a0 a3 w h
  have P3 := fun (w : World) B h => getI B 3 (putF (putF none48 (n + 1).toNat a1 a2) (n + 1).toNat a0 a3) (n + 1) (by omega) (by omega) w h
  rw [p1] at P1
  rw [p2] at P2
  rw [p3] at P3
  clear p1 p2 p3
  generalize putF (putF none48 (n + 1).toNat a1 a2) (n + 1).toNat a0 a3 = f2 at *
  generalize putF none48 (n + 1).toNat a1 a2 = f1 at *
  rcases newerCases a0 a1 u0 u1 with ⟨h1, h2, h3, h4⟩ | ⟨h1, h2, h3, h4⟩ | ⟨h1, h2, rfl⟩ | ⟨h1, h2, h3, h4⟩
  all_goals
    simp only [h1, h2, if_true, if_false, Bool.false_eq_true, Bool.true_and] at N1 N2 P2 P3
    have q1 := Lib.hid N1
    have q2 := Lib.hid N2
    have q3 := Lib.hid P1
    have q4 := Lib.hid P2
    have q5 := Lib.hid P3
    have z1 : (a2 == a2) = true := by simp
    have z2 : (a3 == a3) = true := by simp
    have z3 : (a0 != a0) = false := by simp
    clear N1 N2 P1 P2 P3 h1 h2
    go_enter Try.func3, Try.ntmps3
    go_wp2_with fail
    refine (first10 _).mono ?_
    rintro e w1 ⟨rfl, hb⟩
    have HB0 := Lib.hid hb
    clear hb
    go_wp2_with fail
    refine (N0.out _).mono ?_
    rintro e w' ⟨rfl, rfl⟩
    go_wp2_with fail
    refine (newC 3 _).mono ?_
    rintro e w2 ⟨rfl, hk, hb⟩
    have HK := Lib.hid (show Bk w2 w1.heap.size 3 none48 from hk)
    have HB := Lib.hid (HB0.out.trans (hb.mono HB0.out.size))
    have hB := HB0.out.size
    clear hk hb HB0
    generalize w1.heap.size = B at *
    go_wp2_with fail
    refine (q1.out _).mono ?_
    rintro e w' ⟨rfl, rfl⟩
    go_wp2_with fail
    refine (q2.out _).mono ?_
    rintro e w' ⟨rfl, rfl⟩
    go_wp2_with fail
    refine (q3.out _ B HK.out).mono ?_
    rintro e w3 ⟨rfl, hk, ho⟩
    have HK3 := Lib.hid hk
    have HB3 := Lib.hid (HB.out.trans (ho.below hB HB.out.size))
    clear hk ho HK HB
    go_wp2_with fail
    refine (q4.out _ B HK3.out).mono ?_
    rintro e w4 ⟨rfl, hk, ho⟩
    have HK4 := Lib.hid hk
    have HB4 := Lib.hid (HB3.out.trans (ho.below hB HB3.out.size))
    clear hk ho HK3 HB3
    go_wp2_with fail
    refine (q5.out _ B HK4.out).mono ?_
    rintro e w5 ⟨rfl, hb⟩
    have HB5 := Lib.hid (HB4.out.trans (hb.mono HB4.out.size))
    clear hb HK4 HB4
    go_wp2_with fail
    go_ret
    exact ⟨by first | rfl | simp, HB5.out⟩
end Go.Proofs.Ytfijkcnmcbljnaa
