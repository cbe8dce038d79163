/- FreshAges holds: each call returns true. Conditions: the arguments are numbers of their kinds. -/
import Derived.Test.YtfijkcnmcbljnaaFreshT
namespace Go.Proofs.Ytfijkcnmcbljnaa
open Go.RowKit
set_option linter.unusedVariables false
theorem ageN (B : Nat) (st : Int) (f : Nat → Smp) (ch : Int) (h1 : 1 ≤ ch) (h2 : ch < 48) (hz : (f ch.toNat).there = false) (w : World) (h : Bk w B st f) :
    Calls Try.prog 15 #[.pointer (some ⟨B, 0, none⟩), .int .i64 ch] w fun e w' => e = .returned (.int .i64 1000) ∧ Below w.heap.size w w' := by
  obtain ⟨c, rfl⟩ := Int.eq_ofNat_of_zero_le (show 0 ≤ ch by omega)
  have h1' : 1 ≤ c := by omega
  have h2' : c < 48 := by omega
  simp only [Int.toNat_natCast] at hz
  have H := Lib.hid h
  clear h h1 h2
  go_enter Try.func15, Try.ntmps15
  go_wp2_with fail
  refine (chanC c h1' h2' _).mono ?_
  rintro e w1 ⟨rfl, hb⟩
  have H1 := Lib.hid (H.out.below hb H.out.lt)
  obtain ⟨c0, c1, c2, c3, c4, fz⟩ := H1.out.cells c h2'
  rw [hz] at c1
  have HB := Lib.hid hb
  clear hb H
  go_wp2_with fail
  go_ret
  exact ⟨rfl, HB.out⟩
theorem chanX (ch : Int) (h : (rangeI ch).2.2 = false) (w : World) :
    Calls Try.prog 24 #[.int .i64 ch] w fun e w' => e = .returned (.bool false) ∧ Below w.heap.size w w' := by
  have K := rangeC ch w
  rw [h] at K
  go_enter Try.func24, Try.ntmps24
  go_wp2_with fail
  refine K.mono ?_
  rintro e w1 ⟨rfl, hb⟩
  go_wp2_with fail
  go_ret
  exact ⟨rfl, hb.alloc hb.size _⟩
theorem putX (B : Nat) (ch s v : Int) (h : (rangeI ch).2.2 = false) (w : World) :
    Calls Try.prog 13 #[.pointer (some ⟨B, 0, none⟩), .int .i64 ch, .int .u8 s, .int .i64 v] w fun e w' => e = .returned (.bool false) ∧ Below w.heap.size w w' := by
  go_enter Try.func13, Try.ntmps13
  go_wp2_with fail
  refine (chanX ch h _).mono ?_
  rintro e w1 ⟨rfl, hb⟩
  have HB := Lib.hid hb
  clear hb
  go_wp2_with fail
  go_ret
  exact ⟨rfl, HB.out⟩
theorem newerNext (s : Int) : newer ((s + 1) % 256) s = true := by
  simp [newer]; omega
set_option maxHeartbeats 4000000 in
theorem walkFreshAges (a0 : Int) (a1 : Int) (a2 : Int) (a3 : Int) (w : World) (w0 : (Lit.int .i64 a0).wf = true) (w1 : (Lit.int .i64 a1).wf = true) (w2 : (Lit.int .i64 a2).wf = true) (w3 : (Lit.int .u8 a3).wf = true) :
    Calls Try.prog 4 #[.int .i64 a0, .int .i64 a1, .int .i64 a2, .int .u8 a3] w fun e w' => e = .returned (.bool true) ∧ Below w.heap.size w w' := by
  have u3 := bounds_u8 w3
  clear w0 w1 w2 w3
  have N0 := Lib.hid fun (w : World) => numberC a0 30 (by omega) (by omega) w
  have N1 := Lib.hid fun (w : World) => numberC a1 60 (by omega) (by omega) w
  have N2 := Lib.hid fun (w : World) => numberC a2 47 (by omega) (by omega) w
  have hn1 := Int.emod_nonneg a2 (show (47 : Int) ≠ 0 by omega)
  have hn2 := Int.emod_lt_of_pos a2 (show (0 : Int) < 47 by omega)
  have hs1 := Int.emod_nonneg a0 (show (30 : Int) ≠ 0 by omega)
  have hs2 := Int.emod_lt_of_pos a0 (show (0 : Int) < 30 by omega)
  obtain ⟨m, hm, hm2⟩ : ∃ m : Nat, a1 % 60 = m ∧ m < 60 := ⟨(a1 % 60).toNat, by omega, by omega⟩
  rw [hm] at N1
  clear hm
  generalize a2 % 47 = n at *
  generalize a0 % 30 = s at *
  have NW := fun (w : World) => newC s w
  rw [show max (min s 1000) 0 = s by omega] at NW
  have G0 := fun (w : World) B h => getI B s none48 (n + 1) (by omega) (by omega) w h
  simp only [none48, Bool.false_and] at G0
  have A0 := fun (w : World) B h => ageN B s none48 (n + 1) (by omega) (by omega) rfl w h
  have P0 := fun (w : World) B h => putI B s none48 (n + 1) (by omega) (by omega) a3 5 w h
  rw [show putB none48 (n + 1).toNat a3 = true by simp [putB, none48]] at P0
  have hf0 : putF none48 (n + 1).toNat a3 5 (n + 1).toNat = ⟨true, a3, 5, 0⟩ ∧ Ages (putF none48 (n + 1).toNat a3 5) 0 := by
    have e : putB none48 (n + 1).toNat a3 = true := by simp [putB, none48]
    refine ⟨by simp [putF, e, upd], fun i hi => ?_⟩
    simp only [putF, e, if_true, upd, none48]
    split <;> simp
  generalize putF none48 (n + 1).toNat a3 5 = f0 at *
  have QN := Lib.hid NW
  have QG := Lib.hid G0
  have QA := Lib.hid A0
  have Q0 := Lib.hid P0
  have HF := Lib.hid hf0
  clear P0 hf0 NW G0 A0
  go_enter Try.func4, Try.ntmps4
  go_wp2_with fail
  refine (first10 _).mono ?_
  rintro e w1 ⟨rfl, hb⟩
  have HB0 := Lib.hid hb
  clear hb
  go_wp2_with fail
  refine (N0.out _).mono ?_
  rintro e w' ⟨rfl, rfl⟩
  go_wp2_with fail
  refine (N1.out _).mono ?_
  rintro e w' ⟨rfl, rfl⟩
  go_wp2_with fail
  refine (N2.out _).mono ?_
  rintro e w' ⟨rfl, rfl⟩
  go_wp2_with fail
  refine (QN.out _).mono ?_
  rintro e w2 ⟨rfl, hk, hb⟩
  have HK := Lib.hid (show Bk w2 w1.heap.size s none48 from hk)
  have HB := Lib.hid (HB0.out.trans (hb.mono HB0.out.size))
  have hB := HB0.out.size
  clear hk hb HB0
  generalize w1.heap.size = B at *
  go_wp2_with fail
  refine (QG.out _ B HK.out).mono ?_
  rintro e w3 ⟨rfl, hb⟩
  have HK1 := Lib.hid (HK.out.below hb HK.out.lt)
  have HB1 := Lib.hid (HB.out.trans (hb.mono HB.out.size))
  clear hb HK HB
  go_wp2_with fail
  refine (QA.out _ B HK1.out).mono ?_
  rintro e w4 ⟨rfl, hb⟩
  have HK2 := Lib.hid (HK1.out.below hb HK1.out.lt)
  have HB2 := Lib.hid (HB1.out.trans (hb.mono HB1.out.size))
  clear hb HK1 HB1
  go_wp2_with fail
  refine (Q0.out _ B HK2.out).mono ?_
  rintro e w5 ⟨rfl, hk, ho⟩
  have HK3 := Lib.hid hk
  have HB3 := Lib.hid (HB2.out.trans (ho.below hB HB2.out.size))
  clear hk ho HK2 HB2 Q0 QG QA QN
  go_wp2_with fail
  go_loopw [14] (fun v wr => ∃ (i : Nat) (f : Nat → Smp), i ≤ m ∧ v = .int .i64 i ∧ f (n + 1).toNat = ⟨true, a3, 5, i⟩ ∧ Ages f i ∧ Bk wr B s f ∧ Below w.heap.size w wr) (fun v _ => m - (intOf v).toNat)
  case atStart => exact ⟨0, f0, by omega, rfl, HF.out.1, HF.out.2, HK3.out, HB3.out⟩
  case round =>
    obtain ⟨i, f, hi, rfl, hf, ha, hk, hb⟩ := hrel
    have FF := Lib.hid hf
    have FA := Lib.hid ha
    have FK := Lib.hid hk
    have FB := Lib.hid hb
    clear hf ha hk hb HK3 HB3 HF
    by_cases hl : i < m
    · go_wp2_with fail
      refine (tickC B s f (fun k hk => ⟨(FA.out k hk).1, by have := (FA.out k hk).2; omega⟩) _ FK.out).mono ?_
      rintro e w4 ⟨rfl, hk, ho⟩
      have HK4 := Lib.hid hk
      have HB4 := Lib.hid (FB.out.trans (ho.below hB FB.out.size))
      clear hk ho
      go_wp2_with fail
      go_roundw
      case rel =>
        refine ⟨i + 1, tickTo f 48, by omega, by go_num, ?_, FA.out.tick (by omega), HK4.out, HB4.out⟩
        rw [tick_at f (n + 1).toNat i (by omega) (by rw [FF.out]) (by omega), FF.out]
        simp
      case measure => simp [intOf]; omega
    · obtain rfl : i = m := by omega
      have G1 := fun (w : World) h => getI B s f (n + 1) (by omega) (by omega) w h
      have A1 := fun (w : World) h => ageI B s f (n + 1) (by omega) (by omega) (by rw [FF.out]) w h
      rw [FF.out] at G1 A1
      simp only [Bool.true_and] at G1
      have P1 := fun (w : World) h => putI B s f (n + 1) (by omega) (by omega) ((a3 + 1) % 256) 6 w h
      have e1 : putB f (n + 1).toNat ((a3 + 1) % 256) = true := by simp [putB, FF.out, newerNext]
      have g1 : putF f (n + 1).toNat ((a3 + 1) % 256) 6 (n + 1).toNat = ⟨true, (a3 + 1) % 256, 6, 0⟩ := by simp [putF, e1, upd]
      rw [e1] at P1
      generalize putF f (n + 1).toNat ((a3 + 1) % 256) 6 = f1 at *
      have G2 := fun (w : World) h => getI B s f1 (n + 1) (by omega) (by omega) w h
      have A2 := fun (w : World) h => ageI B s f1 (n + 1) (by omega) (by omega) (by rw [g1]) w h
      rw [g1] at G2 A2
      simp only [Bool.true_and] at G2
      rw [show decide ((0 : Int) ≤ s) = true from decide_eq_true hs1] at G2
      have Q1 := Lib.hid P1
      have Q2 := Lib.hid G1
      have Q3 := Lib.hid A1
      have Q4 := Lib.hid G2
      have Q5 := Lib.hid A2
      have Q6 := Lib.hid fun (w : World) => putX B 0 1 1 rfl w
      have Q7 := Lib.hid fun (w : World) => putX B 48 1 1 rfl w
      have z3 : ((i : Int) == i) = true := by simp
      obtain ⟨d, hd⟩ : ∃ d, decide ((i : Int) ≤ s) = d := ⟨_, rfl⟩
      have HD := Lib.hid hd
      have z4 : (d == d) = true := by simp
      rw [hd] at Q2
      clear P1 G1 A1 G2 A2 e1 g1 hd
      cases d
      all_goals
        have hd := HD.out
        simp only [decide_eq_true_eq, decide_eq_false_iff_not, Int.not_le] at hd
        go_wp2_with fail
        refine (Q2.out _ FK.out).mono ?_
        rintro e w4 ⟨rfl, hb⟩
        have HK4 := Lib.hid (FK.out.below hb FK.out.lt)
        have HB4 := Lib.hid (FB.out.trans (hb.mono FB.out.size))
        clear hb FK FB
        go_wp2_with fail
        refine (Q3.out _ HK4.out).mono ?_
        rintro e w5 ⟨rfl, hb⟩
        have HK5 := Lib.hid (HK4.out.below hb HK4.out.lt)
        have HB5 := Lib.hid (HB4.out.trans (hb.mono HB4.out.size))
        clear hb HK4 HB4
        go_wp2_with fail
        refine (Q1.out _ HK5.out).mono ?_
        rintro e w6 ⟨rfl, hk, ho⟩
        have HK6 := Lib.hid hk
        have HB6 := Lib.hid (HB5.out.trans (ho.below hB HB5.out.size))
        clear hk ho HK5 HB5
        go_wp2_with fail
        refine (Q4.out _ HK6.out).mono ?_
        rintro e w7 ⟨rfl, hb⟩
        have HK7 := Lib.hid (HK6.out.below hb HK6.out.lt)
        have HB7 := Lib.hid (HB6.out.trans (hb.mono HB6.out.size))
        clear hb HK6 HB6
        go_wp2_with fail
        refine (Q5.out _ HK7.out).mono ?_
        rintro e w8 ⟨rfl, hb⟩
        have HB8 := Lib.hid (HB7.out.trans (hb.mono HB7.out.size))
        clear hb HK7 HB7
        go_wp2_with fail
        refine (Q6.out _).mono ?_
        rintro e w9 ⟨rfl, hb⟩
        have HB9 := Lib.hid (HB8.out.trans (hb.mono HB8.out.size))
        clear hb HB8
        go_wp2_with fail
        refine (Q7.out _).mono ?_
        rintro e w10 ⟨rfl, hb⟩
        have HB10 := Lib.hid (HB9.out.trans (hb.mono HB9.out.size))
        clear hb HB9
        go_wp2_with fail
        go_ret
        exact ⟨by first | rfl | (simp; done) | (simp; omega), HB10.out⟩
end Go.Proofs.Ytfijkcnmcbljnaa
