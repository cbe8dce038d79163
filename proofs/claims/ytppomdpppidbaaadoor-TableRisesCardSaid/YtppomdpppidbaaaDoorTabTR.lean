/- At its points a table is what they are; further right it is never lower; what stands at a place comes back to where that place is. Conditions: none. -/
import Derived.Test.YtppomdpppidbaaaDoorMade
import Derived.Test.YtppomdpppidbaaaDoorLex
namespace Go.Proofs.YtppomdpppidbaaaDoor
open Go.RowKit
set_option linter.unusedVariables false
theorem CameI.below {k : IntKind} {w wr : World} {a : Option Addr} {len cap : Nat} {zs : List Int} (h : CameI k w a len cap zs) (hb : Below w.heap.size w wr) : CameI k wr a len cap zs := by
  rcases h with h | ⟨x, h1, h2, h3, h4, h5, h6⟩
  · exact .inl h
  · exact .inr ⟨x, h1, h2, h3, h4, fun i hi => below_cell hb (h5 i hi), h6⟩
theorem at_left {m : Nat} {x y : Nat → Int} (T : TabOk (m + 1) x y) {v : Int} (h : v ≤ x 0) : atLo (m + 1) x y v = y 0 ∧ atHi (m + 1) x y v = y 0 := by
  unfold atLo atHi
  rw [if_pos h, if_pos h]
  exact ⟨rfl, rfl⟩
theorem at_right {m : Nat} {x y : Nat → Int} (T : TabOk (m + 1) x y) {v : Int} (h : x m ≤ v) : atLo (m + 1) x y v = y m ∧ atHi (m + 1) x y v = y m := by
  have h0 := T.mono (Nat.zero_le m) (by omega)
  have n2 := T.n2
  have h3 := h0.2.2 (by omega)
  unfold atLo atHi
  rw [if_neg (show ¬ v ≤ x 0 by omega), if_neg (show ¬ v ≤ x 0 by omega)]
  exact ⟨if_pos h, if_pos h⟩
theorem at_point {m : Nat} {x y : Nat → Int} (T : TabOk (m + 1) x y) {i : Nat} (hi : i ≤ m) : atLo (m + 1) x y (x i) = y i ∧ atHi (m + 1) x y (x i) = y i := by
  by_cases h0 : i = 0
  · subst h0; exact at_left T (Int.le_refl _)
  by_cases hm : i = m
  · subst hm; exact at_right T (Int.le_refl _)
  have a0 := (T.mono (show 0 ≤ i by omega) (by omega)).2.2 (by omega)
  have am := (T.mono (show i ≤ m by omega) (by omega)).2.2 (by omega)
  rcases at_seg T (x i) with ⟨g1, e1, e2⟩ | ⟨g1, g2, e1, e2⟩ | ⟨j, g1, g2, g3, g4, g5, e1, e2⟩
  · omega
  · omega
  · have hj : i = j + 1 := by
      rcases Nat.lt_trichotomy i (j + 1) with h | h | h
      · have := T.mono (show i ≤ j by omega) (by omega); omega
      · exact h
      · have := (T.mono (show j + 1 ≤ i by omega) (by omega)).2.2 (by omega); omega
    subst hj
    have hw : 1 ≤ x (j + 1) - x j := by omega
    have q1 : (x (j + 1) - x j) * (y (j + 1) - y j) / (x (j + 1) - x j) = y (j + 1) - y j := Int.mul_ediv_cancel_left _ (by omega)
    have q2 : -((x (j + 1) - x j) * (y (j + 1) - y j)) / (x (j + 1) - x j) = -(y (j + 1) - y j) := by rw [← Int.mul_neg]; exact Int.mul_ediv_cancel_left _ (by omega)
    rw [e1, e2]
    unfold downI upI
    rw [if_neg (by omega), if_neg (by omega), q1, q2]
    omega
set_option maxRecDepth 20000 in
set_option maxHeartbeats 8000000 in
theorem walkTableRises (a0 : Option Addr) (len0 cap0 : Nat) (z0 : List Int) (a1 : Int) (a2 : Int) (a3 : Int) (w : World) (w0 : CameI .i64 w a0 len0 cap0 z0) (w1 : (Lit.int .i64 a1).wf = true) (w2 : (Lit.int .i64 a2).wf = true) (w3 : (Lit.int .i64 a3).wf = true) :
    Calls Tryd.prog 5 #[.slice a0 len0 cap0, .int .i64 a1, .int .i64 a2, .int .i64 a3] w fun e w' => e = .returned (.bool true) ∧ Below w.heap.size w w' := by
  have b1 := bounds_i64 w1
  obtain ⟨b2, b2'⟩ := bounds_i64 w2
  obtain ⟨b3, b3'⟩ := bounds_i64 w3
  have H0 := Lib.hid w0
  clear w0 w1 w2 w3
  go_enter Tryd.func5, Tryd.ntmps5
  go_wp2_with fail
  refine (tabFirst _).mono ?_
  rintro e wa ⟨rfl, hba⟩
  have HA := Lib.hid hba
  clear hba
  by_cases l1 : len0 < 4
  · have g1 : decide ((len0 : Int) < 4) = true := decide_eq_true (by omega)
    go_wp2_with fail
    go_returns
    exact ⟨rfl, HA.out⟩
  by_cases l2 : 40 < len0
  · have g1 : decide ((len0 : Int) < 4) = false := decide_eq_false (by omega)
    have g2 : decide ((40 : Int) < (len0 : Int)) = true := decide_eq_true (by omega)
    go_wp2_with fail
    go_returns
    exact ⟨rfl, HA.out⟩
  have g1 : decide ((len0 : Int) < 4) = false := decide_eq_false (by omega)
  have g2 : decide ((40 : Int) < (len0 : Int)) = false := decide_eq_false (by omega)
  go_wp2_with fail
  refine (madeC a0 len0 cap0 z0 a1 b1 _ (H0.out.below HA.out)).mono ?_
  rintro e wb ⟨va, n, vc, rfl, hn, hown, hbb⟩
  have n2 : 2 ≤ n := by omega
  have n3 : n ≤ 20 := by omega
  obtain ⟨m, rfl⟩ : ∃ m, n = m + 1 := ⟨n - 1, by omega⟩
  obtain ⟨g, vc', hv⟩ : ∃ g c, Value.slice va (m + 1) vc = .slice (some ⟨g, 0, none⟩) (m + 1) c := by
    obtain ⟨_, ⟨_, h⟩ | ⟨g', cap', cur, hv, _⟩⟩ := hown
    · omega
    · exact ⟨g', cap', hv⟩
  cases hv
  have TT := Lib.hid (mk_ok z0 a1 n2 (by omega))
  have PB := Lib.hid (pts_of_owns hown)
  have HB := Lib.hid (HA.out.trans (hbb.mono HA.out.size))
  clear hown hbb HA l1 l2 g1 g2 H0 hn
  generalize mkX z0 a1 = x at *
  generalize mkY z0 a1 = y at *
  generalize (⟨g, 0, none⟩ : Addr) = ad at *
  go_wp2_with fail
  refine (checkC ad (m + 1) vc x y TT.out _ PB.out).mono ?_
  rintro e wc ⟨rfl, hb⟩
  have PC := Lib.hid (PB.out.below hb)
  have HC := Lib.hid (HB.out.trans (hb.mono HB.out.size))
  clear hb PB HB
  go_wp2_with fail
  go_loopw [11] (fun s wr => ∃ i : Nat, i ≤ m + 1 ∧ s = .int .i64 i ∧ Below wc.heap.size wc wr) (fun s _ => m + 1 - (intOf s).toNat)
  case atStart => exact ⟨0, by omega, rfl, Below.refl _ _⟩
  case round =>
    obtain ⟨i, hi, rfl, hb⟩ := hrel
    have FB := Lib.hid hb
    have PW := Lib.hid (PC.out.below hb)
    clear hb
    by_cases hl : i < m + 1
    · obtain ⟨c0, c1⟩ := PW.out i hl
      have C0 := Lib.hid c0
      have C1 := Lib.hid c1
      have ap := at_point TT.out (show i ≤ m by omega)
      have AP := Lib.hid ap
      clear c1 ap
      have i1 : (i : Int) < (m : Int) + 1 := by omega
      go_wp2_with fail
      refine (tabAtC ad (m + 1) vc x y (x i) TT.out _ PW.out).mono ?_
      rintro e wd ⟨rfl, hb⟩
      rw [AP.out.1, AP.out.2]
      clear c0
      have S1 := Lib.hid (Bx.new wd #[.int .i64 (y i), .int .i64 (y i)] 27)
      have FD := Lib.hid ((FB.out.trans (hb.mono FB.out.size)).alloc (Nat.le_trans FB.out.size hb.size) (.cells #[.int .i64 (y i), .int .i64 (y i)] 27))
      have cc := below_cell ((hb.alloc hb.size (.cells #[.int .i64 (y i), .int .i64 (y i)] 27))) C1.out
      go_upto_region 13 with fail
      clear hb FB PW C0 C1 AP
      generalize World.alloc wd _ = W1 at *
      have r1 := fun d => below_cell (reach_below W1.heap.size W1 d) cc
      have s0 := fun d => below_cell (reach_below W1.heap.size W1 d) (S1.out.cell 0 rfl)
      have s1 := fun d => below_cell (reach_below W1.heap.size W1 d) (S1.out.cell 1 rfl)
      have ne : (y i != y i) = false := by simp
      refine wp_region_reach W1.heap.size (by kernel_rfl) (by kernel_rfl) ?_
      repeat (go_big_quiet_step (fail))
      refine wpQuiet_nil ?_
      rintro w' ⟨d, rfl⟩
      go_wp2_with fail
      go_roundw
      case rel => exact ⟨i + 1, by omega, by go_num, FD.out.trans ((reach_below W1.heap.size W1 d).mono FD.out.size)⟩
      case measure => simp [intOf]; omega
    · obtain ⟨c0, c1⟩ := PW.out 0 (by omega)
      obtain ⟨d0, d1⟩ := PW.out m (by omega)
      rw [Nat.zero_mul, add_0] at c0 c1
      have HW := Lib.hid (HC.out.trans (FB.out.mono HC.out.size))
      clear PC FB HC c1 d1
      have x0m := (TT.out.mono (Nat.zero_le m) (by omega)).2.2 (by omega)
      have bx0 := TT.out.bx 0 (by omega)
      have bxm := TT.out.bx m (by omega)
      have C0 := Lib.hid c0
      have r0 := fun d => below_cell (reach_below wr.heap.size wr d) c0
      have r1 := fun d => below_cell (reach_below wr.heap.size wr d) d0
      have i12 : IntKind.i64.wrap ((m : Int) + 1 - 1) = (m : Int) := by rw [show (m : Int) + 1 - 1 = m by omega]; exact IntWalk.i64_in _ (by omega)
      clear c0 d0
      obtain ⟨X0, hX0⟩ : ∃ k, x 0 = k := ⟨_, rfl⟩
      obtain ⟨XM, hXM⟩ : ∃ k, x m = k := ⟨_, rfl⟩
      rw [hX0] at r0 x0m bx0
      rw [hXM] at r1 x0m bxm
      rw [hX0] at C0
      have EX := Lib.hid (And.intro hX0 hXM)
      clear hX0 hXM
      go_upto_region 15 with fail
      refine wp_region_reach wr.heap.size (by kernel_rfl) (by kernel_rfl) ?_
      repeat (go_big_quiet_step (fail))
      refine wpQuiet_nil ?_
      rintro w' ⟨d, rfl⟩
      have PD := Lib.hid (PW.out.below (reach_below wr.heap.size wr d))
      have HD := Lib.hid (HW.out.trans ((reach_below wr.heap.size wr d).mono HW.out.size))
      have c0 := below_cell (reach_below wr.heap.size wr d) C0.out
      clear r0 r1 C0 PW HW
      generalize reach wr.heap.size wr d = wd at *
      obtain ⟨W, hW⟩ : ∃ k, XM - X0 + 1 = k := ⟨_, rfl⟩
      rw [hW]
      have W1 : 2 ≤ W := by omega
      have W2 : W ≤ 2147483649 := by omega
      have HWW := Lib.hid hW
      clear hW
      have e0 : ((W : Int) == 0) = false := by rw [beq_eq_false_iff_ne]; omega
      have t2 := tmod_m a2 W (by omega)
      have t3 := tmod_m a3 W (by omega)
      have u2 : 0 ≤ a2.tmod W % W ∧ a2.tmod W % W < W := ⟨Int.emod_nonneg _ (by omega), Int.emod_lt_of_pos _ (by omega)⟩
      have u3 : 0 ≤ a3.tmod W % W ∧ a3.tmod W % W < W := ⟨Int.emod_nonneg _ (by omega), Int.emod_lt_of_pos _ (by omega)⟩
      have r0 := fun d => below_cell (reach_below wd.heap.size wd d) c0
      go_upto_region 16 with fail
      refine wp_region_reach wd.heap.size (by kernel_rfl) (by kernel_rfl) ?_
      repeat (go_big_quiet_step (fail))
      refine wpQuiet_nil ?_
      rintro w' ⟨d2, rfl⟩
      have PE := Lib.hid (PD.out.below (reach_below wd.heap.size wd d2))
      have HE := Lib.hid (HD.out.trans ((reach_below wd.heap.size wd d2).mono HD.out.size))
      have c1 := below_cell (reach_below wd.heap.size wd d2) c0
      clear r0 c0 PD HD
      generalize reach wd.heap.size wd d2 = we at *
      have r0 := fun d => below_cell (reach_below we.heap.size we d) c1
      clear c1
      go_upto_region 17 with fail
      refine wp_region_reach we.heap.size (by kernel_rfl) (by kernel_rfl) ?_
      repeat (go_big_quiet_step (fail))
      refine wpQuiet_nil ?_
      rintro w' ⟨d3, rfl⟩
      have PF := Lib.hid (PE.out.below (reach_below we.heap.size we d3))
      have HF := Lib.hid (HE.out.trans ((reach_below we.heap.size we d3).mono HE.out.size))
      clear r0 PE HE t2 t3 e0 b2 b2' b3 b3'
      generalize reach we.heap.size we d3 = wf at *
      go_upto_if 108 with fail
      generalize a2.tmod W % W = A2 at *
      generalize a3.tmod W % W = A3 at *
      go_cut [14, 15] (fun s u wx => ∃ p q : Int, s = .int .i64 p ∧ u = .int .i64 q ∧ X0 ≤ p ∧ p ≤ q ∧ q < X0 + W ∧ wx = wf)
      case first =>
        clear PF HF
        go_wp2_with fail
        all_goals
          go_meet
          exact ⟨_, _, rfl, rfl, by omega, by omega, by omega, rfl⟩
      case rest =>
      obtain ⟨p, q, rfl, rfl, k1, k2, k3, rfl⟩ := hcut
      clear u2 u3
      have ip := at_in TT.out p
      have iq := at_in TT.out q
      have mo := at_mono TT.out k2
      have by0 := TT.out.by' 0 (by omega)
      have bym := TT.out.by' m (by omega)
      have hx := EX.out
      have hw := HWW.out
      have bh := back_holds TT.out (v := atLo (m + 1) x y p) (u := atHi (m + 1) x y p) (q := p) (by omega) (by omega) ip.2.1 ip.2.1
      have bm := back_mono TT.out ip.2.1
      have lf := at_left TT.out (v := X0 - 1 - W) (by omega)
      have rt := at_right TT.out (v := XM + W) (by omega)
      clear hx hw
      have KP := Lib.hid fun (w : World) (h : Pts w ad (m + 1) x y) => tabAtC ad (m + 1) vc x y p TT.out w h
      have KQ := Lib.hid fun (w : World) (h : Pts w ad (m + 1) x y) => tabAtC ad (m + 1) vc x y q TT.out w h
      have KB1 := Lib.hid fun (w : World) (h : Pts w ad (m + 1) x y) => backC ad (m + 1) vc x y (atLo (m + 1) x y p) TT.out w h
      have KB2 := Lib.hid fun (w : World) (h : Pts w ad (m + 1) x y) => backC ad (m + 1) vc x y (atHi (m + 1) x y p) TT.out w h
      have KL := Lib.hid fun (w : World) (h : Pts w ad (m + 1) x y) => tabAtC ad (m + 1) vc x y (X0 - 1 - W) TT.out w h
      have KR := Lib.hid fun (w : World) (h : Pts w ad (m + 1) x y) => tabAtC ad (m + 1) vc x y (XM + W) TT.out w h
      rw [lf.1, lf.2] at KL
      rw [rt.1, rt.2] at KR
      clear lf rt
      obtain ⟨d0, d1⟩ := PF.out 0 (by omega)
      obtain ⟨f0, f1⟩ := PF.out m (by omega)
      rw [Nat.zero_mul, add_0, EX.out.1] at d0
      rw [Nat.zero_mul, add_0] at d1
      rw [EX.out.2] at f0
      generalize backLo (m + 1) x y (atLo (m + 1) x y p) = bl1 at *
      generalize backHi (m + 1) x y (atLo (m + 1) x y p) = bh1 at *
      generalize backLo (m + 1) x y (atHi (m + 1) x y p) = bl2 at *
      generalize backHi (m + 1) x y (atHi (m + 1) x y p) = bh2 at *
      generalize atLo (m + 1) x y p = PL at *
      generalize atHi (m + 1) x y p = PH at *
      generalize atLo (m + 1) x y q = QL at *
      generalize atHi (m + 1) x y q = QH at *
      generalize y 0 = Y0 at *
      generalize y m = YM at *
      have D0 := Lib.hid d0
      have D1 := Lib.hid d1
      have F0 := Lib.hid f0
      have F1 := Lib.hid f1
      clear d0 d1 f0 f1
      go_wp2_with fail
      refine (KP.out _ PF.out).mono ?_
      rintro e w1 ⟨rfl, hb⟩
      have a1 := hb.alloc hb.size (.cells #[.int .i64 PL, .int .i64 PH] 27)
      have B1 := Lib.hid a1
      have S1 := Lib.hid (Bx.new w1 #[.int .i64 PL, .int .i64 PH] 27)
      clear a1 hb KP
      go_upto_region 21 with fail
      generalize World.alloc w1 _ = v1 at *
      go_wp2_with fail
      refine (KQ.out _ (PF.out.below B1.out)).mono ?_
      rintro e w2 ⟨rfl, hb⟩
      have a2 := hb.alloc hb.size (.cells #[.int .i64 QL, .int .i64 QH] 27)
      have B2 := Lib.hid (B1.out.trans (a2.mono B1.out.size))
      have S2 := Lib.hid (S1.out.below a2)
      have Q2 := Lib.hid (Bx.new w2 #[.int .i64 QL, .int .i64 QH] 27)
      clear a2 hb KQ B1 S1
      go_upto_region 22 with fail
      generalize World.alloc w2 _ = v2 at *
      have s0 := S2.out.cell 0 rfl
      go_wp2_with fail
      refine (KB1.out _ (PF.out.below B2.out)).mono ?_
      rintro e w3 ⟨rfl, hb⟩
      have a3 := hb.alloc hb.size (.cells #[.int .i64 bl1, .int .i64 bh1] 27)
      have B3 := Lib.hid (B2.out.trans (a3.mono B2.out.size))
      have S3 := Lib.hid (S2.out.below a3)
      have Q3 := Lib.hid (Q2.out.below a3)
      have U3 := Lib.hid (Bx.new w3 #[.int .i64 bl1, .int .i64 bh1] 27)
      clear a3 hb KB1 B2 S2 Q2 s0
      go_upto_region 23 with fail
      generalize World.alloc w3 _ = v3 at *
      have s1 := S3.out.cell 1 rfl
      go_wp2_with fail
      refine (KB2.out _ (PF.out.below B3.out)).mono ?_
      rintro e w4 ⟨rfl, hb⟩
      have a4 := hb.alloc hb.size (.cells #[.int .i64 bl2, .int .i64 bh2] 27)
      have B4 := Lib.hid (B3.out.trans (a4.mono B3.out.size))
      have S4 := Lib.hid (S3.out.below a4)
      have Q4 := Lib.hid (Q3.out.below a4)
      have U4 := Lib.hid (U3.out.below a4)
      have V4 := Lib.hid (Bx.new w4 #[.int .i64 bl2, .int .i64 bh2] 27)
      clear a4 hb KB2 B3 S3 Q3 U3 s1
      go_upto_region 24 with fail
      generalize World.alloc w4 _ = v4 at *
      have P4 := Lib.hid (PF.out.below B4.out)
      have hB : v4.heap.size ≤ v4.heap.size := Nat.le_refl _
      have K1 := Lib.hid fun d => KL.out (reach v4.heap.size v4 d) (P4.out.below (reach_below v4.heap.size v4 d))
      have K2 := Lib.hid fun d => KR.out (reach v4.heap.size v4 d) (P4.out.below (reach_below v4.heap.size v4 d))
      have d0 := fun d => below_cell (reach_below v4.heap.size v4 d) (below_cell B4.out D0.out)
      have d1 := fun d => below_cell (reach_below v4.heap.size v4 d) (below_cell B4.out D1.out)
      have f0 := fun d => below_cell (reach_below v4.heap.size v4 d) (below_cell B4.out F0.out)
      have f1 := fun d => below_cell (reach_below v4.heap.size v4 d) (below_cell B4.out F1.out)
      have s0 := fun d => below_cell (reach_below v4.heap.size v4 d) (S4.out.cell 0 rfl)
      have s1 := fun d => below_cell (reach_below v4.heap.size v4 d) (S4.out.cell 1 rfl)
      have q0 := fun d => below_cell (reach_below v4.heap.size v4 d) (Q4.out.cell 0 rfl)
      have q1 := fun d => below_cell (reach_below v4.heap.size v4 d) (Q4.out.cell 1 rfl)
      have m0 := fun d => below_cell (reach_below v4.heap.size v4 d) (U4.out.cell 0 rfl)
      have m1 := fun d => below_cell (reach_below v4.heap.size v4 d) (U4.out.cell 1 rfl)
      have n0 := fun d => below_cell (reach_below v4.heap.size v4 d) (V4.out.cell 0 rfl)
      have n1 := fun d => below_cell (reach_below v4.heap.size v4 d) (V4.out.cell 1 rfl)
      have z0 := span_f0 Y0 Y0
      have z1 := span_f1 YM YM
      have g1 : decide (PL ≤ PH) = true := decide_eq_true (by omega)
      have g2 : decide (PH - PL ≤ 1) = true := decide_eq_true (by omega)
      have g3 : decide (PL ≤ QL) = true := decide_eq_true (by omega)
      have g4 : decide (PH ≤ QH) = true := decide_eq_true (by omega)
      have g5 : decide (bl1 ≤ p) = true := decide_eq_true (by omega)
      have g6 : decide (p ≤ bh2) = true := decide_eq_true (by omega)
      have g7 : min bl1 bl2 = bl1 := by omega
      have g8 : max bh1 bh2 = bh2 := by omega
      have h1 : bl1 ≤ bl2 := by omega
      have h2 : bh1 ≤ bh2 := by omega
      have v7 : IntKind.i64.wrap (PH - PL) = PH - PL := IntWalk.i64_in _ (by omega)
      have v8 : IntKind.i64.wrap (X0 - 1) = X0 - 1 := IntWalk.i64_in _ (by omega)
      have v9 : IntKind.i64.wrap (X0 - 1 - W) = X0 - 1 - W := IntWalk.i64_in _ (by omega)
      have v10 : IntKind.i64.wrap (XM + W) = XM + W := IntWalk.i64_in _ (by omega)
      have i12 : IntKind.i64.wrap ((m : Int) + 1 - 1) = (m : Int) := by rw [show (m : Int) + 1 - 1 = m by omega]; exact IntWalk.i64_in _ (by omega)
      clear ip iq mo bh bm KL KR D0 D1 F0 F1 S4 Q4 U4 V4
      have gm1 : (if bh1 < bh2 then bh2 else bh1) = bh2 := by split <;> omega
      have gm2 : (if bh2 ≤ bh1 then bh1 else bh2) = bh2 := by split <;> omega
      have gm3 : (if bh2 < bh1 then bh1 else bh2) = bh2 := by split <;> omega
      have gm4 : (if bh1 ≤ bh2 then bh2 else bh1) = bh2 := by split <;> omega
      simp only [List.append_eq, List.cons_append, List.nil_append]
      refine wp_region_light v4.heap.size (by kernel_rfl) (by kernel_rfl) (by kernel_rfl) ?_
      repeat (go_big_quiet_step ((go_at_call 16; first | with_reducible exact reach_call hB (K1.out _) | with_reducible exact reach_call hB (K2.out _))))
      refine wpQuiet_nil ?_
      rintro w' ⟨d9, rfl⟩
      go_wp2_with fail
      go_returns
      exact ⟨rfl, HF.out.trans ((B4.out.trans ((reach_below v4.heap.size v4 d9).mono B4.out.size)).mono HF.out.size)⟩
end Go.Proofs.YtppomdpppidbaaaDoor
