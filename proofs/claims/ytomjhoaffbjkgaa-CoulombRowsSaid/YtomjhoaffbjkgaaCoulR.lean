/- CoulombRows holds: each call returns true. Conditions: the arguments are numbers of 64 bits. -/
import Derived.Test.YtomjhoaffbjkgaaCoulN
namespace Go.Proofs.Ytomjhoaffbjkgaa
open Go.RowKit
set_option linter.unusedVariables false
def rowK (x : Int) (y : Int) : CK := ⟨100000, 500, 0, 50000 - x - y, 50010 - x + y⟩
theorem rowK_ok (x y : Int) (hx : -10000 ≤ x ∧ x ≤ 10000) (hy : 0 ≤ y ∧ y ≤ 10000) : (rowK x y).Ok := by
  unfold rowK
  constructor <;> (unfold I64; simp <;> omega)
theorem rowK_step1 (x a : Int) (hx : -9900 ≤ x ∧ x ≤ 9900) (ha : -99 ≤ a ∧ a ≤ 99) : (rowK x 0).step a true = rowK (x + a) 0 := by
  simp only [CK.step, CK.out, CK.set, rowK, if_true]
  rw [show max (0 : Int) 0 = 0 from rfl]
  have e1 : sat (a - 0) = a := satId _ (by unfold I64; omega) |>.trans (by omega)
  have e2 : sat (a + 0) = a := satId _ (by unfold I64; omega) |>.trans (by omega)
  rw [e1, e2, satId _ (by unfold I64; omega), satId _ (by unfold I64; omega)]
  unfold clampI
  congr 1
  · rw [if_neg (by omega), if_neg (by omega)]; omega
  · rw [if_neg (by omega), if_neg (by omega)]; omega
theorem rowK_step0 (x y v : Int) (hx : -9900 ≤ x ∧ x ≤ 9900) (hy : 0 ≤ y ∧ y ≤ 9500) : (rowK x y).step v false = rowK x (y + 500) := by
  simp only [CK.step, CK.out, CK.set, rowK, if_false, Bool.false_eq_true]
  rw [show max (500 : Int) 0 = 500 from rfl, show sat (-500) = -500 from rfl, show sat 500 = 500 from rfl]
  rw [satId _ (by unfold I64; omega), satId _ (by unfold I64; omega)]
  unfold clampI
  congr 1
  · rw [if_neg (by omega), if_neg (by omega)]; omega
  · rw [if_neg (by omega), if_neg (by omega)]; omega
theorem mulB (a : Int) (i : Nat) (ha : -99 ≤ a ∧ a ≤ 99) (hi : i ≤ 99) : -9801 ≤ a * i ∧ a * i ≤ 9801 := by
  have h1 : a * i ≤ 99 * (i : Int) := Int.mul_le_mul_of_nonneg_right ha.2 (by omega)
  have h2 : -99 * (i : Int) ≤ a * i := Int.mul_le_mul_of_nonneg_right ha.1 (by omega)
  omega
set_option maxRecDepth 100000 in
set_option maxHeartbeats 4000000 in
theorem walkCoulombRows (a0 : Int) (a1 : Int) (a2 : Int) (a3 : Int) (w : World) (w0 : (Lit.int .i64 a0).wf = true) (w1 : (Lit.int .i64 a1).wf = true) (w2 : (Lit.int .i64 a2).wf = true) (w3 : (Lit.int .i64 a3).wf = true) :
    Calls Try.prog 11 #[.int .i64 a0, .int .i64 a1, .int .i64 a2, .int .i64 a3] w fun e w' => e = .returned (.bool true) ∧ Below w.heap.size w w' := by
  clear w0 w1 w2 w3
  have ta : -99 ≤ a1.tmod 100 ∧ a1.tmod 100 ≤ 99 := by
    have h1 := Int.tmod_lt_of_pos (-a1) (show (0 : Int) < 100 by omega)
    have h2 := Int.tmod_lt_of_pos a1 (show (0 : Int) < 100 by omega)
    rw [Int.neg_tmod] at h1; omega
  have N2 := Lib.hid fun (w : World) => numberC a2 100 (by omega) (by omega) w
  have N3 := Lib.hid fun (w : World) => numberC a3 20 (by omega) (by omega) w
  obtain ⟨m, hm, hm2⟩ : ∃ m : Nat, a2 % 100 = m ∧ m ≤ 99 := ⟨(a2 % 100).toNat, by omega, by omega⟩
  obtain ⟨n, hn, hn2⟩ : ∃ n : Nat, a3 % 20 = n ∧ n ≤ 19 := ⟨(a3 % 20).toNat, by omega, by omega⟩
  rw [hm] at N2
  rw [hn] at N3
  clear hm hn
  go_enter Try.func11, Try.ntmps11
  go_wp2_with fail
  refine (first18 _).mono ?_
  rintro e w1 ⟨rfl, hb0⟩
  go_wp2_with fail
  refine (configC _ _ _ _).mono ?_
  rintro e w2 ⟨O, fa, fl, fc, rfl, hO, hv, hb1⟩
  have he : (cfgOf (a0 % 1048576) (0 % 1048576) (0 % 1048576)).err = 0 := rfl
  generalize cfgOf (a0 % 1048576) (0 % 1048576) (0 % 1048576) = c at *
  simp only [cfgV]
  go_wp2_with fail
  refine upon_fresh (by simp) rfl (cfgA_one rfl rfl) ?_
  intro W1 b1 s1 h1
  have HC := Lib.hid h1
  have BB := hb0.trans (hb1.mono hb0.size)
  have hC0 := BB.size
  have HB := Lib.hid (BB.trans (b1.mono BB.size))
  clear h1 b1 hb0 hb1 hv BB
  go_wp2_with fail
  refine (N2.out _).mono ?_
  rintro e w' ⟨rfl, rfl⟩
  go_wp2_with fail
  refine (N3.out _).mono ?_
  rintro e w' ⟨rfl, rfl⟩
  go_wp2_with (refine wpList_load_row_g rfl 34 _ rfl w2.heap.size rfl 34 _ (0, 0) _ HC.out Try.underlying34 rfl (by kernel_rfl) ?_)
  refine (ctrNew _ _ _ _ _ _).mono ?_
  rintro e w3 ⟨B, rfl, hB, hk, hb2⟩
  have hk5 : c.k0.set 50000 50010 = rowK (a1.tmod 100 * (0 : Nat)) 0 := by unfold CF.k0 CK.set clampI rowK; rw [he]; simp
  rw [hk5] at hk
  have HK := Lib.hid hk
  have HC2 := Lib.hid (Cfg.below HC.out hb2 (Array.getElem?_eq_some_iff.1 HC.out).1)
  have HB2 := Lib.hid (HB.out.trans (hb2.mono HB.out.size))
  have hBn : w2.heap.size < B := Nat.lt_of_lt_of_le (Array.getElem?_eq_some_iff.1 HC.out).1 hB
  clear hk hb2 HB HC
  go_wp2_with fail
  go_loopw [12] (fun v wr => ∃ i : Nat, i ≤ m ∧ v = .int .i64 i ∧ Ctr wr B (rowK (a1.tmod 100 * i) 0) ∧ Cfg wr w2.heap.size c (.slice (some ⟨O, 0, none⟩) 4 4) (.slice fa fl fc) ∧ Below w.heap.size w wr) (fun v _ => m - (intOf v).toNat)
  case atStart => exact ⟨0, by omega, rfl, HK.out, HC2.out, HB2.out⟩
  case round =>
    obtain ⟨i, hi, rfl, hk, hc, hb⟩ := hrel
    have FK := Lib.hid hk
    have FC := Lib.hid hc
    have FB := Lib.hid hb
    clear hk hc hb HK HC2 HB2
    by_cases hl : i < m
    · have mb := mulB (a1.tmod 100) i ta (by omega)
      go_wp2_with fail
      refine (ctrStepT B _ (rowK_ok _ _ (by omega) (by omega)) (a1.tmod 100) (by unfold I64; omega) _ FK.out).mono ?_
      rw [rowK_step1 _ _ (by omega) ta]
      rintro e w4 ⟨rfl, hk, ho⟩
      have G1 := Lib.hid hk
      have G2 := Lib.hid (show Cfg w4 w2.heap.size c _ _ from ho.row FC.out (by omega))
      have G3 := Lib.hid (FB.out.trans (ho.below (by omega) FB.out.size))
      clear hk ho
      go_wp2_with fail
      go_roundw
      case rel => exact ⟨i + 1, by omega, by go_num, by rw [show a1.tmod 100 * ((i + 1 : Nat) : Int) = a1.tmod 100 * i + a1.tmod 100 by rw [Int.natCast_add, Int.mul_add]; simp]; exact G1.out, G2.out, G3.out⟩
      case measure => simp [intOf]; omega
    · obtain rfl : i = m := by omega
      have mb := mulB (a1.tmod 100) i ta (by omega)
      go_wp2_with fail
      have q1 := ctrQ B _ _ FK.out
      rw [show (rowK (a1.tmod 100 * i) 0).lo = 50000 - a1.tmod 100 * i by simp [rowK], show (rowK (a1.tmod 100 * i) 0).hi = 50010 - a1.tmod 100 * i by simp [rowK]] at q1
      refine q1.mono ?_
      clear q1
      rintro e w4 ⟨rfl, hb⟩
      have G1 := Lib.hid (Ctr.below FK.out hb FK.out.lt)
      have G2 := Lib.hid (Cfg.below FC.out hb (Array.getElem?_eq_some_iff.1 FC.out).1)
      have G3 := Lib.hid (FB.out.trans (hb.mono FB.out.size))
      clear hb FK FC FB
      go_wp2_with fail
      go_loopw [14] (fun v wr => ∃ j : Nat, j ≤ n ∧ v = .int .i64 j ∧ Ctr wr B (rowK (a1.tmod 100 * i) (j * 500)) ∧ Cfg wr w2.heap.size c (.slice (some ⟨O, 0, none⟩) 4 4) (.slice fa fl fc) ∧ wr.heap[w4.heap.size]? = some (.cells #[.int .i64 (50000 - a1.tmod 100 * i), .int .i64 (50010 - a1.tmod 100 * i)] 23 (0, 0)) ∧ Below w.heap.size w wr) (fun v _ => n - (intOf v).toNat)
      case atStart =>
        have b := (Below.refl w4.heap.size w4).alloc (Nat.le_refl _) (.cells #[.int .i64 (50000 - a1.tmod 100 * i), .int .i64 (50010 - a1.tmod 100 * i)] 23)
        exact ⟨0, by omega, rfl, by simpa using Ctr.below G1.out b G1.out.lt, Cfg.below G2.out b (Array.getElem?_eq_some_iff.1 G2.out).1, heap_alloc_new _ _, G3.out.trans (b.mono G3.out.size)⟩
      case round =>
        obtain ⟨j, hj, rfl, hk, hc, hp, hb⟩ := hrel
        have hBl := G1.out.lt
        have FK := Lib.hid hk
        have FC := Lib.hid hc
        have FP := Lib.hid hp
        have FB := Lib.hid hb
        clear hk hc hp hb G1 G2 G3
        by_cases hl2 : j < n
        · go_wp2_with fail
          refine (ctrStepF B _ (rowK_ok _ _ (by omega) (by omega)) 77 (by unfold I64; omega) _ FK.out).mono ?_
          rw [rowK_step0 _ _ _ (by omega) (by omega)]
          rintro e w5 ⟨rfl, hk, ho⟩
          have H1 := Lib.hid hk
          have H2 := Lib.hid (show Cfg w5 w2.heap.size c _ _ from ho.row FC.out (by omega))
          have H3 := Lib.hid (ho.row FP.out (by omega))
          have H4 := Lib.hid (FB.out.trans (ho.below (by omega) FB.out.size))
          clear hk ho
          go_wp2_with fail
          go_roundw
          case rel => exact ⟨j + 1, by omega, by go_num, by rw [show ((j + 1 : Nat) : Int) * 500 = j * 500 + 500 by omega]; exact H1.out, H2.out, H3.out, H4.out⟩
          case measure => simp [intOf]; omega
        · obtain rfl : j = n := by omega
          go_wp2_with fail
          have q1 := ctrQ B _ _ FK.out
          rw [show (rowK (a1.tmod 100 * i) (j * 500)).lo = 50000 - a1.tmod 100 * i - j * 500 from rfl, show (rowK (a1.tmod 100 * i) (j * 500)).hi = 50010 - a1.tmod 100 * i + j * 500 from rfl] at q1
          refine q1.mono ?_
          clear q1
          rintro e w6 ⟨rfl, hb⟩
          have hC6 := Cfg.below FC.out hb (Array.getElem?_eq_some_iff.1 FC.out).1
          have hP6 := (hb.block _ (Array.getElem?_eq_some_iff.1 FP.out).1).trans FP.out
          have c7 := fun o => cell_alloc (show w6.cell? ⟨w2.heap.size, 7, none⟩ = some (.int .i64 500) from cell_of_row w6 _ 7 _ _ _ hC6) o
          have p0 := fun o => cell_alloc (show w6.cell? ⟨w4.heap.size, 0, none⟩ = some (.int .i64 (50000 - a1.tmod 100 * i)) from cell_of_row w6 _ 0 _ _ _ hP6) o
          have p1 := fun o => cell_alloc (show w6.cell? ⟨w4.heap.size, 1, none⟩ = some (.int .i64 (50010 - a1.tmod 100 * i)) from cell_of_row w6 _ 1 _ _ _ hP6) o
          have G := Lib.hid (FB.out.trans (hb.mono FB.out.size))
          clear hb hC6 hP6 FK FC FP FB
          go_wp2_with fail
          all_goals
            go_ret
            exact ⟨by first | rfl | (simp; done) | (simp; omega), G.out.alloc G.out.size _⟩
end Go.Proofs.Ytomjhoaffbjkgaa
