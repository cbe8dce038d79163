/- FreshApart and FreshAges hold: each call returns true. Conditions: the arguments are numbers of their kinds. -/
import Derived.Test.YtfijkcnmcbljnaaFreshL
import Derived.Deep.DeepCutAuto
namespace Go.Proofs.Ytfijkcnmcbljnaa
open Go.RowKit
set_option linter.unusedVariables false
def aged (s : Smp) : Smp := { s with age := min (s.age + 1) 1000 }
def tickTo (f : Nat → Smp) (i : Nat) : Nat → Smp := fun k => if k < i then aged (f k) else f k
theorem tickTo_next (f : Nat → Smp) (i : Nat) : upd (tickTo f i) i { tickTo f i i with age := min ((tickTo f i i).age + 1) 1000 } = tickTo f (i + 1) := by
  funext k
  by_cases h : k = i
  · subst h
    have e : tickTo f k k = f k := if_neg (Nat.lt_irrefl k)
    show (if k = k then _ else _) = (if k < k + 1 then aged (f k) else f k)
    rw [if_pos rfl, if_pos (by omega), e]
    rfl
  · show (if k = i then _ else (if k < i then aged (f k) else f k)) = (if k < i + 1 then aged (f k) else f k)
    rw [if_neg h]
    by_cases h2 : k < i
    · rw [if_pos h2, if_pos (by omega)]
    · rw [if_neg h2, if_neg (by omega)]
theorem Bk.drew {w : World} {B : Nat} {st : Int} {f : Nat → Smp} (h : Bk w B st f) : Bk w.drew B st f := ⟨h.row⟩
theorem tickC (B : Nat) (st : Int) (f : Nat → Smp) (hf : ∀ k, k < 48 → 0 ≤ (f k).age ∧ (f k).age ≤ 1000) (w : World) (h : Bk w B st f) :
    Calls Try.prog 16 #[.pointer (some ⟨B, 0, none⟩)] w fun e w' => e = .returned (.tuple #[]) ∧ Bk w' B st (tickTo f 48) ∧ Only B w w' := by
  have H := Lib.hid h
  clear h
  go_enter Try.func16, Try.ntmps16
  go_wp2_with fail
  go_loopw [3] (fun v wr => ∃ i : Nat, i ≤ 48 ∧ v = .int .i64 i ∧ Bk wr B st (tickTo f i) ∧ Only B w wr) (fun v _ => 48 - (intOf v).toNat)
  case atStart => exact ⟨0, by omega, rfl, by rw [show tickTo f 0 = f from funext fun k => if_neg (by omega)]; exact H.out, Only.refl _ _⟩
  case round =>
    obtain ⟨i, hi, rfl, hk, ho⟩ := hrel
    have FK := Lib.hid hk
    have FO := Lib.hid ho
    clear hk ho H
    by_cases hl : i < 48
    · obtain ⟨c0, c1, c2, c3, c4, fz⟩ := FK.out.cells i hl
      have ha := hf i hl
      have e : (tickTo f i i).age = (f i).age := by unfold tickTo; rw [if_neg (by omega)]
      rw [← e] at ha
      have HT := Lib.hid (tickTo_next f i)
      generalize htk : tickTo f i = g at *
      clear e htk hf
      have c4' : wr.drew.cell? ⟨B, 1 + i * 4 + 3, none⟩ = some (.int .i64 (g i).age) := c4
      have hu : ∀ a : Int, a = min ((g i).age + 1) 1000 → Bk (wr.setCell ⟨B, 1 + i * 4 + 3, none⟩ (.int .i64 a)) B st (upd g i { g i with age := min ((g i).age + 1) 1000 }) := fun a e => by
        rw [← e]; exact FK.out.age i hl _
      rw [HT.out] at hu
      have HU := Lib.hid hu
      clear hu
      go_upto_region 3 with fail
      go_region_with (fail)
      all_goals
        go_wp2_with fail
        go_roundw
        case rel => exact ⟨i + 1, by omega, by go_num, Bk.drew (HU.out _ (by first | omega | (split <;> omega))), (FO.out.trans (Only.set B _ _ _)).trans (Only.of_below B (Below.refl _ _).drew)⟩
        case measure => simp [intOf]; omega
    · obtain rfl : i = 48 := by omega
      go_wp2_with fail
      go_end0
      exact ⟨rfl, FK.out, FO.out⟩
theorem ageI (B : Nat) (st : Int) (f : Nat → Smp) (ch : Int) (h1 : 1 ≤ ch) (h2 : ch < 48) (hz : (f ch.toNat).there = true) (w : World) (h : Bk w B st f) :
    Calls Try.prog 15 #[.pointer (some ⟨B, 0, none⟩), .int .i64 ch] w fun e w' => e = .returned (.int .i64 (f ch.toNat).age) ∧ Below w.heap.size w w' := by
  have := ageC B st f ch.toNat (by omega) (by omega) hz w h
  rwa [Int.toNat_of_nonneg (by omega)] at this
/-- Behind k ticks a bank: every age small. -/
def Ages (f : Nat → Smp) (k : Nat) : Prop := ∀ i, i < 48 → 0 ≤ (f i).age ∧ (f i).age ≤ k
theorem Ages.tick {f : Nat → Smp} {k : Nat} (h : Ages f k) (hk : k < 1000) : Ages (tickTo f 48) (k + 1) := fun i hi => by
  have := h i hi
  unfold tickTo aged
  rw [if_pos hi]
  simp only
  omega
theorem tick_at (f : Nat → Smp) (c k : Nat) (hc : c < 48) (h : (f c).age = k) (hk : k < 1000) : tickTo f 48 c = { f c with age := (k : Int) + 1 } := by
  unfold tickTo aged
  rw [if_pos hc, h, show min ((k : Int) + 1) 1000 = k + 1 by omega]
set_option maxHeartbeats 4000000 in
theorem walkFreshApart (a0 : Int) (a1 : Int) (a2 : Int) (a3 : Int) (a4 : Int) (w : World) (w0 : (Lit.int .i64 a0).wf = true) (w1 : (Lit.int .i64 a1).wf = true) (w2 : (Lit.int .i64 a2).wf = true) (w3 : (Lit.int .i64 a3).wf = true) (w4 : (Lit.int .i64 a4).wf = true) :
    Calls Try.prog 6 #[.int .i64 a0, .int .i64 a1, .int .i64 a2, .int .i64 a3, .int .i64 a4] w fun e w' => e = .returned (.bool true) ∧ Below w.heap.size w w' := by
  clear w0 w1 w2 w3 w4
  have N0 := Lib.hid fun (w : World) => numberC a0 47 (by omega) (by omega) w
  have N1 := Lib.hid fun (w : World) => numberC a1 47 (by omega) (by omega) w
  have N4 := Lib.hid fun (w : World) => numberC a4 9 (by omega) (by omega) w
  have hn1 := Int.emod_nonneg a0 (show (47 : Int) ≠ 0 by omega)
  have hn2 := Int.emod_lt_of_pos a0 (show (0 : Int) < 47 by omega)
  have hp1 := Int.emod_nonneg a1 (show (47 : Int) ≠ 0 by omega)
  have hp2 := Int.emod_lt_of_pos a1 (show (0 : Int) < 47 by omega)
  obtain ⟨m, hm, hm2⟩ : ∃ m : Nat, a4 % 9 = m ∧ m < 9 := ⟨(a4 % 9).toNat, by omega, by omega⟩
  rw [hm] at N4
  clear hm
  generalize a0 % 47 = n at *
  generalize a1 % 47 = p at *
  by_cases hnp : n = p
  · subst hnp
    have qq : (n + 1 == n + 1) = true := by simp
    go_enter Try.func6, Try.ntmps6
    go_wp2_with fail
    refine (first10 _).mono ?_
    rintro e w1 ⟨rfl, hb⟩
    have HB0 := Lib.hid hb
    clear hb
    go_wp2_with fail
    refine (N0.out _).mono ?_
    rintro e w' ⟨rfl, rfl⟩
    go_wp2_with fail
    refine (N1.out _).mono ?_
    rintro e w' ⟨rfl, rfl⟩
    go_wp2_with fail
    go_ret
    exact ⟨rfl, HB0.out⟩
  have qq : (n + 1 == p + 1) = false := by rw [beq_eq_false_iff_ne]; omega
  have P0 := fun (w : World) B h => putI B 20 none48 (n + 1) (by omega) (by omega) 200 a2 w h
  rw [show putB none48 (n + 1).toNat 200 = true by simp [putB, none48]] at P0
  have hf0 : putF none48 (n + 1).toNat 200 a2 (n + 1).toNat = ⟨true, 200, a2, 0⟩ ∧ putF none48 (n + 1).toNat 200 a2 (p + 1).toNat = ⟨false, 0, 0, 0⟩ ∧ Ages (putF none48 (n + 1).toNat 200 a2) 0 := by
    have e : putB none48 (n + 1).toNat 200 = true := by simp [putB, none48]
    refine ⟨by simp [putF, e, upd], ?_, fun i hi => ?_⟩
    · simp only [putF, e, if_true, upd, none48]
      rw [if_neg (by omega)]
    · simp only [putF, e, if_true, upd, none48]
      split <;> simp
  generalize putF none48 (n + 1).toNat 200 a2 = f0 at *
  have Q0 := Lib.hid P0
  have HF := Lib.hid hf0
  clear P0 hf0
  go_enter Try.func6, Try.ntmps6
  go_wp2_with fail
  refine (first10 _).mono ?_
  rintro e w1 ⟨rfl, hb⟩
  have HB0 := Lib.hid hb
  clear hb
  go_wp2_with fail
  refine (N0.out _).mono ?_
  rintro e w' ⟨rfl, rfl⟩
  go_wp2_with fail
  refine (N1.out _).mono ?_
  rintro e w' ⟨rfl, rfl⟩
  go_wp2_with fail
  refine (N4.out _).mono ?_
  rintro e w' ⟨rfl, rfl⟩
  go_wp2_with fail
  refine (newC 20 _).mono ?_
  rintro e w2 ⟨rfl, hk, hb⟩
  have HK := Lib.hid (show Bk w2 w1.heap.size 20 none48 from hk)
  have HB := Lib.hid (HB0.out.trans (hb.mono HB0.out.size))
  have hB := HB0.out.size
  clear hk hb HB0
  generalize w1.heap.size = B at *
  go_wp2_with fail
  refine (Q0.out _ B HK.out).mono ?_
  rintro e w3 ⟨rfl, hk, ho⟩
  have HK3 := Lib.hid hk
  have HB3 := Lib.hid (HB.out.trans (ho.below hB HB.out.size))
  clear hk ho HK HB Q0
  go_wp2_with fail
  go_loopw [13] (fun v wr => ∃ (i : Nat) (f : Nat → Smp), i ≤ m ∧ v = .int .i64 i ∧ f (n + 1).toNat = ⟨true, 200, a2, i⟩ ∧ (f (p + 1).toNat).there = false ∧ Ages f i ∧ Bk wr B 20 f ∧ Below w.heap.size w wr) (fun v _ => m - (intOf v).toNat)
  case atStart => exact ⟨0, f0, by omega, rfl, HF.out.1, by rw [HF.out.2.1], HF.out.2.2, HK3.out, HB3.out⟩
  case round =>
    obtain ⟨i, f, hi, rfl, hf, hz, ha, hk, hb⟩ := hrel
    have FF := Lib.hid hf
    have FZ := Lib.hid hz
    have FA := Lib.hid ha
    have FK := Lib.hid hk
    have FB := Lib.hid hb
    clear hf hz ha hk hb HK3 HB3 HF
    by_cases hl : i < m
    · go_wp2_with fail
      refine (tickC B 20 f (fun k hk => ⟨(FA.out k hk).1, by have := (FA.out k hk).2; omega⟩) _ FK.out).mono ?_
      rintro e w4 ⟨rfl, hk, ho⟩
      have HK4 := Lib.hid hk
      have HB4 := Lib.hid (FB.out.trans (ho.below hB FB.out.size))
      clear hk ho
      go_wp2_with fail
      go_roundw
      case rel =>
        refine ⟨i + 1, tickTo f 48, by omega, by go_num, ?_, ?_, FA.out.tick (by omega), HK4.out, HB4.out⟩
        · rw [tick_at f (n + 1).toNat i (by omega) (by rw [FF.out]) (by omega), FF.out]
          simp
        · show (if (p + 1).toNat < 48 then aged (f (p + 1).toNat) else _).there = false
          rw [if_pos (by omega)]
          exact FZ.out
      case measure => simp [intOf]; omega
    · obtain rfl : i = m := by omega
      have P1 := fun (w : World) h => putI B 20 f (p + 1) (by omega) (by omega) 3 a3 w h
      have e1 : putB f (p + 1).toNat 3 = true := by simp [putB, FZ.out]
      have g1 : putF f (p + 1).toNat 3 a3 (p + 1).toNat = ⟨true, 3, a3, 0⟩ := by simp [putF, e1, upd]
      have g2 : putF f (p + 1).toNat 3 a3 (n + 1).toNat = ⟨true, 200, a2, i⟩ := by
        simp only [putF, e1, if_true, upd]
        rw [if_neg (by omega)]
        exact FF.out
      rw [e1] at P1
      generalize putF f (p + 1).toNat 3 a3 = f1 at *
      have P2 := fun (w : World) h => getI B 20 f1 (n + 1) (by omega) (by omega) w h
      have P3 := fun (w : World) h => getI B 20 f1 (p + 1) (by omega) (by omega) w h
      have P4 := fun (w : World) h => ageI B 20 f1 (n + 1) (by omega) (by omega) (by rw [g2]) w h
      have P5 := fun (w : World) h => ageI B 20 f1 (p + 1) (by omega) (by omega) (by rw [g1]) w h
      rw [g2] at P2 P4
      rw [g1] at P3 P5
      simp only [Bool.true_and] at P2 P3
      rw [show decide ((i : Int) ≤ 20) = true from decide_eq_true (by omega)] at P2
      rw [show decide ((0 : Int) ≤ 20) = true from rfl] at P3
      have Q1 := Lib.hid P1
      have Q2 := Lib.hid P2
      have Q3 := Lib.hid P3
      have Q4 := Lib.hid P4
      have Q5 := Lib.hid P5
      have z1 : (a2 == a2) = true := by simp
      have z2 : (a3 == a3) = true := by simp
      have z3 : ((i : Int) == i) = true := by simp
      clear P1 P2 P3 P4 P5 e1 g1 g2
      go_wp2_with fail
      refine (Q1.out _ FK.out).mono ?_
      rintro e w4 ⟨rfl, hk, ho⟩
      have HK4 := Lib.hid hk
      have HB4 := Lib.hid (FB.out.trans (ho.below hB FB.out.size))
      clear hk ho FK FB
      go_wp2_with fail
      refine (Q2.out _ HK4.out).mono ?_
      rintro e w5 ⟨rfl, hb⟩
      have HK5 := Lib.hid (HK4.out.below hb HK4.out.lt)
      have HB5 := Lib.hid (HB4.out.trans (hb.mono HB4.out.size))
      clear hb HK4 HB4
      go_wp2_with fail
      refine (Q3.out _ HK5.out).mono ?_
      rintro e w6 ⟨rfl, hb⟩
      have HK6 := Lib.hid (HK5.out.below hb HK5.out.lt)
      have HB6 := Lib.hid (HB5.out.trans (hb.mono HB5.out.size))
      clear hb HK5 HB5
      go_wp2_with fail
      refine (Q4.out _ HK6.out).mono ?_
      rintro e w7 ⟨rfl, hb⟩
      have HK7 := Lib.hid (HK6.out.below hb HK6.out.lt)
      have HB7 := Lib.hid (HB6.out.trans (hb.mono HB6.out.size))
      clear hb HK6 HB6
      go_wp2_with fail
      refine (Q5.out _ HK7.out).mono ?_
      rintro e w8 ⟨rfl, hb⟩
      have HB8 := Lib.hid (HB7.out.trans (hb.mono HB7.out.size))
      clear hb HK7 HB7
      go_wp2_with fail
      go_ret
      exact ⟨by first | rfl | simp, HB8.out⟩
end Go.Proofs.Ytfijkcnmcbljnaa
