/- FreshRows holds: each call returns true. Conditions: the arguments are numbers of their kinds. -/
import Derived.Test.YtfijkcnmcbljnaaFreshL
import Derived.Deep.DeepCutAuto
namespace Go.Proofs.Ytfijkcnmcbljnaa
open Go.RowKit
set_option linter.unusedVariables false
theorem newerAdd (s p : Int) (hp : 1 ≤ p ∧ p ≤ 127) : newer ((s + p) % 256) s = true := by
  simp [newer]; omega
theorem newerSub (s p : Int) (hp : 1 ≤ p ∧ p ≤ 127) : newer ((s - p) % 256) s = false := by
  simp [newer]; omega
theorem newerSelf (s : Int) : newer s s = false := by simp [newer]
set_option maxHeartbeats 4000000 in
theorem walkFreshRows (a0 : Int) (a1 : Int) (a2 : Int) (a3 : Int) (w : World) (w0 : (Lit.int .i64 a0).wf = true) (w1 : (Lit.int .u8 a1).wf = true) (w2 : (Lit.int .i64 a2).wf = true) (w3 : (Lit.int .i64 a3).wf = true) :
    Calls Try.prog 5 #[.int .i64 a0, .int .u8 a1, .int .i64 a2, .int .i64 a3] w fun e w' => e = .returned (.bool true) ∧ Below w.heap.size w w' := by
  have u1 := bounds_u8 w1
  clear w0 w1 w2 w3
  have N0 := Lib.hid fun (w : World) => numberC a0 600 (by omega) (by omega) w
  have N2 := Lib.hid fun (w : World) => numberC a2 47 (by omega) (by omega) w
  have N3 := Lib.hid fun (w : World) => numberC a3 127 (by omega) (by omega) w
  have hn1 := Int.emod_nonneg a2 (show (47 : Int) ≠ 0 by omega)
  have hn2 := Int.emod_lt_of_pos a2 (show (0 : Int) < 47 by omega)
  have hp1 := Int.emod_nonneg a3 (show (127 : Int) ≠ 0 by omega)
  have hp2 := Int.emod_lt_of_pos a3 (show (0 : Int) < 127 by omega)
  obtain ⟨m, hm, hm2⟩ : ∃ m : Nat, a0 % 600 = m ∧ m < 600 := ⟨(a0 % 600).toNat, by omega, by omega⟩
  rw [hm] at N0
  clear hm
  generalize a2 % 47 = n at *
  generalize a3 % 127 = p at *
  have P0 := fun (w : World) B h => putI B 5 none48 (n + 1) (by omega) (by omega) a1 (-1) w h
  rw [show putB none48 (n + 1).toNat a1 = true by simp [putB, none48]] at P0
  have hf0 : putF none48 (n + 1).toNat a1 (-1) (n + 1).toNat = ⟨true, a1, -1, 0⟩ := by simp [putF, putB, upd, none48]
  generalize putF none48 (n + 1).toNat a1 (-1) = f0 at *
  have Q0 := Lib.hid P0
  have HF := Lib.hid hf0
  clear P0 hf0
  go_enter Try.func5, Try.ntmps5
  go_wp2_with fail
  refine (first10 _).mono ?_
  rintro e w1 ⟨rfl, hb⟩
  have HB0 := Lib.hid hb
  clear hb
  go_wp2_with fail
  refine (N0.out _).mono ?_
  rintro e w' ⟨rfl, rfl⟩
  go_wp2_with fail
  refine (N2.out _).mono ?_
  rintro e w' ⟨rfl, rfl⟩
  go_wp2_with fail
  refine (N3.out _).mono ?_
  rintro e w' ⟨rfl, rfl⟩
  go_wp2_with fail
  refine (newC 5 _).mono ?_
  rintro e w2 ⟨rfl, hk, hb⟩
  have HK := Lib.hid (show Bk w2 w1.heap.size 5 none48 from hk)
  have HB := Lib.hid (HB0.out.trans (hb.mono HB0.out.size))
  have hB := HB0.out.size
  clear hk hb HB0
  generalize w1.heap.size = B at *
  go_wp2_with fail
  refine (Q0.out _ B HK.out).mono ?_
  rintro e w3 ⟨rfl, hk, ho⟩
  have HK3 := Lib.hid hk
  have HB3 := Lib.hid (HB.out.trans (ho.below hB HB.out.size))
  clear hk ho HK HB Q0
  go_wp2_with fail
  go_loopw [1, 11] (fun t v wr => ∃ (i : Nat) (s x : Int) (f : Nat → Smp), i ≤ m ∧ v = .int .i64 i ∧ t = .int .u8 s ∧ 0 ≤ s ∧ s ≤ 255 ∧ f (n + 1).toNat = ⟨true, s, x, 0⟩ ∧ Bk wr B 5 f ∧ Below w.heap.size w wr) (fun _ v _ => m - (intOf v).toNat)
  case atStart => exact ⟨0, a1, -1, f0, by omega, rfl, rfl, u1.1, u1.2, HF.out, HK3.out, HB3.out⟩
  case round =>
    obtain ⟨i, s, x, f, hi, rfl, rfl, hs1, hs2, hf, hk, hb⟩ := hrel
    have FF := Lib.hid hf
    have FK := Lib.hid hk
    have FB := Lib.hid hb
    clear hf hk hb HK3 HB3 HF
    by_cases hl : i < m
    · go_upto_region 13 with fail
      go_cut [1] (fun s1 wx => ∃ t : Int, s1 = .int .u8 t ∧ 0 ≤ t ∧ t ≤ 255 ∧ newer t s = true ∧ wx = wr)
      case first =>
        go_wp2_with fail
        go_meet
        exact ⟨(s + (p + 1)) % 256, by first | rfl | (congr 1; omega), by omega, by omega, newerAdd s (p + 1) (by omega), rfl⟩
      case rest =>
      obtain ⟨t, rfl, ht1, ht2, ht3, rfl⟩ := hcut
      have ht4 := newerSub t (p + 1) (by omega)
      have P1 := fun (w : World) h => putI B 5 f (n + 1) (by omega) (by omega) t i w h
      have e1 : putB f (n + 1).toNat t = true := by simp [putB, FF.out, ht3]
      have hf1 : putF f (n + 1).toNat t i (n + 1).toNat = ⟨true, t, i, 0⟩ := by simp [putF, e1, upd]
      rw [e1] at P1
      generalize putF f (n + 1).toNat t i = f1 at *
      have P2 := fun (w : World) h => putI B 5 f1 (n + 1) (by omega) (by omega) t 9999 w h
      have e2 : putB f1 (n + 1).toNat t = false := by simp [putB, hf1, newerSelf]
      rw [show putF f1 (n + 1).toNat t 9999 = f1 by simp [putF, e2], e2] at P2
      have P3 := fun (w : World) h => putI B 5 f1 (n + 1) (by omega) (by omega) ((t - (p + 1)) % 256) 9999 w h
      have e3 : putB f1 (n + 1).toNat ((t - (p + 1)) % 256) = false := by simp [putB, hf1, ht4]
      rw [show putF f1 (n + 1).toNat ((t - (p + 1)) % 256) 9999 = f1 by simp [putF, e3], e3] at P3
      have P4 := fun (w : World) h => getI B 5 f1 (n + 1) (by omega) (by omega) w h
      rw [hf1] at P4
      simp only [Bool.true_and] at P4
      rw [show decide ((0 : Int) ≤ 5) = true from rfl] at P4
      have Q1 := Lib.hid P1
      have Q2 := Lib.hid P2
      have Q3 := Lib.hid P3
      have Q4 := Lib.hid P4
      have HF1 := Lib.hid hf1
      have qq : ((i : Int) != i) = false := by simp
      clear P1 P2 P3 P4 e1 e2 e3 hf1 ht3 ht4
      go_wp2_with fail
      refine (Q1.out _ FK.out).mono ?_
      rintro e w4 ⟨rfl, hk, ho⟩
      have HK4 := Lib.hid hk
      have HB4 := Lib.hid (FB.out.trans (ho.below hB FB.out.size))
      clear hk ho FK FB
      go_wp2_with fail
      refine (Q2.out _ HK4.out).mono ?_
      rintro e w5 ⟨rfl, hk, ho⟩
      have HK5 := Lib.hid hk
      have HB5 := Lib.hid (HB4.out.trans (ho.below hB HB4.out.size))
      clear hk ho HK4 HB4
      go_wp2_with fail
      refine (Q3.out _ HK5.out).mono ?_
      rintro e w6 ⟨rfl, hk, ho⟩
      have HK6 := Lib.hid hk
      have HB6 := Lib.hid (HB5.out.trans (ho.below hB HB5.out.size))
      clear hk ho HK5 HB5
      go_wp2_with fail
      refine (Q4.out _ HK6.out).mono ?_
      rintro e w7 ⟨rfl, hb⟩
      have HK7 := Lib.hid (HK6.out.below hb HK6.out.lt)
      have HB7 := Lib.hid (HB6.out.trans (hb.mono HB6.out.size))
      clear hb HK6 HB6
      go_wp2_with fail
      go_roundw
      case rel => exact ⟨i + 1, t, i, f1, by omega, by go_num, rfl, ht1, ht2, HF1.out, HK7.out, HB7.out⟩
      case measure => simp [intOf]; omega
    · go_wp2_with fail
      go_ret
      exact ⟨rfl, FB.out⟩
end Go.Proofs.Ytfijkcnmcbljnaa
