/- One point alone that does not rise, or is out of range, is told where it stands. Conditions: none. -/
import Derived.Test.YtppomdpppidbaaaDoorTabTX
namespace Go.Proofs.YtppomdpppidbaaaDoor
open Go.RowKit
set_option linter.unusedVariables false
def upd (f : Nat → Int) (i : Nat) (v : Int) : Nat → Int := fun j => if j = i then v else f j
theorem upd_same (f : Nat → Int) (i : Nat) (v : Int) : upd f i v i = v := if_pos rfl
theorem upd_other (f : Nat → Int) {i j : Nat} (v : Int) (h : j ≠ i) : upd f i v j = f j := if_neg h
theorem g_add (g j : Nat) : (⟨g, 0, none⟩ : Addr).add j = ⟨g, j, none⟩ := by simp [Addr.add]; omega
theorem Pts.cells {w : World} {g n : Nat} {x y : Nat → Int} (h : Pts w ⟨g, 0, none⟩ n x y) (j : Nat) (hj : j < n) : w.cell? ⟨g, j * 2, none⟩ = some (.int .i64 (x j)) ∧ w.cell? ⟨g, j * 2 + 1, none⟩ = some (.int .i64 (y j)) := by
  have := h j hj
  rw [g_add] at this
  exact this
theorem Pts.ofCells {w : World} {g n : Nat} {x y : Nat → Int} (h : ∀ j, j < n → w.cell? ⟨g, j * 2, none⟩ = some (.int .i64 (x j)) ∧ w.cell? ⟨g, j * 2 + 1, none⟩ = some (.int .i64 (y j))) : Pts w ⟨g, 0, none⟩ n x y := fun j hj => by
  rw [g_add]
  exact h j hj
theorem Pts.setX {w : World} {g n : Nat} {x y : Nat → Int} (h : Pts w ⟨g, 0, none⟩ n x y) (i : Nat) (hi : i < n) (v : Int) : Pts (w.setCell ⟨g, i * 2, none⟩ (.int .i64 v)) ⟨g, 0, none⟩ n (upd x i v) y :=
  Pts.ofCells fun j hj => by
    obtain ⟨h1, h2⟩ := h.cells j hj
    refine ⟨?_, ?_⟩
    · by_cases hji : j = i
      · subst hji
        rw [upd_same]
        exact World.cell?_setCell_same _ _ _ h1
      · rw [upd_other _ _ hji, World.cell?_setCell_other _ _ _ _ (fun q => by have h3 := congrArg Addr.off q; dsimp only at h3; omega)]
        exact h1
    · rw [World.cell?_setCell_other _ _ _ _ (fun q => by have h3 := congrArg Addr.off q; dsimp only at h3; omega)]
      exact h2
theorem Pts.setY {w : World} {g n : Nat} {x y : Nat → Int} (h : Pts w ⟨g, 0, none⟩ n x y) (i : Nat) (hi : i < n) (v : Int) : Pts (w.setCell ⟨g, i * 2 + 1, none⟩ (.int .i64 v)) ⟨g, 0, none⟩ n x (upd y i v) :=
  Pts.ofCells fun j hj => by
    obtain ⟨h1, h2⟩ := h.cells j hj
    refine ⟨?_, ?_⟩
    · rw [World.cell?_setCell_other _ _ _ _ (fun q => by have h3 := congrArg Addr.off q; dsimp only at h3; omega)]
      exact h1
    · by_cases hji : j = i
      · subst hji
        rw [upd_same]
        exact World.cell?_setCell_same _ _ _ h2
      · rw [upd_other _ _ hji, World.cell?_setCell_other _ _ _ _ (fun q => by have h3 := congrArg Addr.off q; dsimp only at h3; omega)]
        exact h2
theorem bad_agree {x y x' y' : Nat → Int} {k : Nat} (hx : ∀ j, j < k → x' j = x j) (hy : ∀ j, j < k → y' j = y j) (j : Nat) (hj : j < k) : badAt x' y' j = badAt x y j := by
  unfold badAt
  rw [hx j hj, hy j hj, hx (j - 1) (by omega), hy (j - 1) (by omega)]
/-- One point that is wrong, behind some that are right. -/
theorem verd_one {n : Nat} {x y x' y' : Nat → Int} (T : TabOk n x y) {k : Nat} (hk : k < n) {c : Int} (hx : ∀ j, j < k → x' j = x j) (hy : ∀ j, j < k → y' j = y j) (hc : badAt x' y' k = c) (h0 : c ≠ 0) : Verd n x' y' c true k := by
  subst hc
  exact .bad T.n2 T.n3 k hk h0 fun j hj => (bad_agree hx hy j hj).trans (ok_zero T j (by omega))
set_option maxRecDepth 20000 in
set_option maxHeartbeats 8000000 in
theorem walkTableWrong (a0 : Option Addr) (len0 cap0 : Nat) (z0 : List Int) (a1 : Int) (a2 : Int) (a3 : Int) (w : World) (w0 : CameI .i64 w a0 len0 cap0 z0) (w1 : (Lit.int .i64 a1).wf = true) (w2 : (Lit.int .i64 a2).wf = true) (w3 : (Lit.int .i64 a3).wf = true) (hE : ∃ E, Ers E w) :
    Calls Tryd.prog 6 #[.slice a0 len0 cap0, .int .i64 a1, .int .i64 a2, .int .i64 a3] w fun e w' => e = .returned (.bool true) ∧ Below w.heap.size w w' := by
  obtain ⟨E, hE⟩ := hE
  have b1 := bounds_i64 w1
  obtain ⟨b2, b2'⟩ := bounds_i64 w2
  obtain ⟨b3, b3'⟩ := bounds_i64 w3
  have HE := Lib.hid hE
  have H0 := Lib.hid w0
  clear w0 w1 w2 w3 hE
  go_enter Tryd.func6, Tryd.ntmps6
  go_wp2_with fail
  refine (tabFirst _).mono ?_
  rintro e wa ⟨rfl, hba⟩
  have HA := Lib.hid hba
  clear hba
  by_cases l1 : len0 < 6
  · have g1 : decide ((len0 : Int) < 6) = true := decide_eq_true (by omega)
    go_wp2_with fail
    go_returns
    exact ⟨rfl, HA.out⟩
  have g1 : decide ((len0 : Int) < 6) = false := decide_eq_false (by omega)
  by_cases l2 : 40 < len0
  · have g2 : decide ((40 : Int) < (len0 : Int)) = true := decide_eq_true (by omega)
    go_wp2_with fail
    go_returns
    exact ⟨rfl, HA.out⟩
  have g2 : decide ((40 : Int) < (len0 : Int)) = false := decide_eq_false (by omega)
  go_wp2_with fail
  refine (madeC a0 len0 cap0 z0 a1 b1 _ (H0.out.belowS HA.out)).mono ?_
  rintro e wb ⟨va, n, vc, rfl, hn, hown, hbb⟩
  have n2 : 3 ≤ n := by omega
  have n3 : n ≤ 20 := by omega
  obtain ⟨m, rfl⟩ : ∃ m, n = m + 1 := ⟨n - 1, by omega⟩
  obtain ⟨g, vc', hv, hg, hvc, cur, hrow⟩ : ∃ g c, Value.slice va (m + 1) vc = .slice (some ⟨g, 0, none⟩) (m + 1) c ∧ wa.heap.size ≤ g ∧ m + 1 ≤ c ∧ ∃ cur, wb.heap[g]? = some (.cells cur 24 (0, 0)) := by
    obtain ⟨_, ⟨_, h⟩ | ⟨g', cap', cur, hv, hg, hr, hc, _⟩⟩ := hown
    · omega
    · exact ⟨g', cap', hv, hg, hc, cur, hr⟩
  cases hv
  have TT := Lib.hid (mk_ok z0 a1 (show 2 ≤ m + 1 by omega) (by omega))
  have PB := Lib.hid (pts_of_owns hown)
  have HB := Lib.hid (HA.out.trans (hbb.mono HA.out.size))
  have hgw : w.heap.size ≤ g := Nat.le_trans HA.out.size hg
  clear hown hbb HA l1 l2 g1 g2 H0 hn hg
  have YB := Lib.hid (show ∀ i : Nat, -777 < mkY z0 a1 i from fun i => (mk_bound z0 a1 i).2.2.1)
  generalize mkX z0 a1 = x at *
  generalize mkY z0 a1 = y at *
  have e0 : ((m : Int) == 0) = false := by rw [beq_eq_false_iff_ne]; omega
  have i12 : IntKind.i64.wrap ((m : Int) + 1 - 1) = (m : Int) := by rw [show (m : Int) + 1 - 1 = m by omega]; exact IntWalk.i64_in _ (by omega)
  have t2 := tmod_m a2 m (by omega)
  have t3 := tmod_m a3 4 (by omega)
  have u2 : 0 ≤ (a2.tmod m + (m + 1) - 1) % m ∧ (a2.tmod m + (m + 1) - 1) % m < m := ⟨Int.emod_nonneg _ (by omega), Int.emod_lt_of_pos _ (by omega)⟩
  go_upto_region 13 with fail
  obtain ⟨j, hj⟩ : ∃ j : Nat, (a2.tmod m + (m + 1) - 1) % m = (j : Int) := ⟨_, (Int.toNat_of_nonneg u2.1).symm⟩
  have u3 : 0 ≤ (a3.tmod 4 + 4) % 4 ∧ (a3.tmod 4 + 4) % 4 < 4 := ⟨Int.emod_nonneg _ (by omega), Int.emod_lt_of_pos _ (by omega)⟩
  have jm : j < m := by omega
  rw [hj, show (1 : Int) + (j : Int) = (j : Int) + 1 by omega]
  clear hj u2 t2 b2 b2' b3 b3' t3 e0 i12
  generalize (a3.tmod 4 + 4) % 4 = H at *
  have fz : ∀ q, wb.frozen? ⟨g, q, none⟩ = false := fun q => by simp [World.frozen?, hrow]
  obtain ⟨cx, cy⟩ := PB.out.cells j (by omega)
  obtain ⟨dx, dy⟩ := PB.out.cells (j + 1) (by omega)
  have i1 : (j : Int) + 1 < (m : Int) + 1 := by omega
  have i2 : (j : Int) < (m : Int) + 1 := by omega
  have i11 : IntKind.i64.wrap ((j : Int) + 1 - 1) = (j : Int) := by rw [show (j : Int) + 1 - 1 = j by omega]; exact IntWalk.i64_in _ (by omega)
  have yb := TT.out.by' j (by omega)
  have oxk := outI_no.2 (TT.out.bx (j + 1) (by omega))
  have oyk := outI_no.2 (TT.out.by' (j + 1) (by omega))
  have oxj := outI_no.2 (TT.out.bx j (by omega))
  clear hrow
  rcases (show H = 0 ∨ H = 1 ∨ H = 2 ∨ H = 3 by omega) with rfl | rfl | rfl | rfl
  · have hv1 := verd_one (x' := upd x (j + 1) (x j)) (y' := y) TT.out (show j + 1 < m + 1 by omega) (c := 105) (fun i hi => upd_other _ _ (by omega)) (fun i hi => rfl) (bad_2 (by rw [upd_same, oxj, oyk]; rfl) (.inl (by rw [upd_same, upd_other _ _ (by omega)]; exact Int.le_refl _))) (by omega)
    have V1 := Lib.hid hv1
    clear hv1
    go_upto_region 20 with fail
    have P1 := Lib.hid (PB.out.setX (j + 1) (by omega) (x j))
    have B1 := Lib.hid (HB.out.setCell (p := ⟨g, (j + 1) * 2, none⟩) hgw (.int .i64 (x j)))
    clear cx cy dx dy fz PB HB
    generalize World.setCell wb _ _ = W1 at *
    go_wp2_with fail
    refine (checkG (some ⟨g, 0, none⟩) (m + 1) vc (by omega) (upd x (j + 1) (x j)) (y) _ (HE.out.below B1.out) (PtsO.of P1.out)).mono ?_
    rintro e w1 ⟨v1, c1, p1, k1, rfl, he1, q1, hb⟩
    have B2 := Lib.hid (B1.out.trans (hb.mono B1.out.size))
    have E2 := Lib.hid he1
    have Q2 := Lib.hid q1
    have P2 := Lib.hid (P1.out.below hb)
    clear hb he1 q1 B1 P1
    go_wp2_with fail
    refine (placedC 105 _ (by omega) _).mono ?_
    rintro e w2 ⟨rfl, hb⟩
    have B3 := Lib.hid (B2.out.trans (hb.mono B2.out.size))
    have E3 := Lib.hid (E2.out.below hb)
    have P3 := Lib.hid (P2.out.below hb)
    clear hb B2 E2 P2
    go_wp2_with fail
    refine (sameV (HE.out.below B3.out) E3.out Q2.out V1.out).mono ?_
    rintro e w3 ⟨rfl, hb⟩
    have B4 := Lib.hid (B3.out.trans (hb.mono B3.out.size))
    have P4 := Lib.hid (P3.out.below hb)
    clear hb B3 E3 P3 Q2 V1
    go_wp2_with fail
    refine (checkG (some ⟨g, 0, none⟩) 1 vc (by omega) (upd x (j + 1) (x j)) (y) _ (HE.out.below B4.out) (PtsO.of (fun i hi => P4.out i (by omega)))).mono ?_
    rintro e w4 ⟨v4, c4, p4, k4, rfl, he4, q4, hb⟩
    have B5 := Lib.hid (B4.out.trans (hb.mono B4.out.size))
    have E5 := Lib.hid he4
    have Q5 := Lib.hid q4
    clear hb he4 q4 B4 P4
    go_wp2_with fail
    refine (bareC 103 _).mono ?_
    rintro e w5 ⟨rfl, hb⟩
    have B6 := Lib.hid (B5.out.trans (hb.mono B5.out.size))
    have E6 := Lib.hid (E5.out.below hb)
    clear hb B5 E5
    go_wp2_with fail
    refine (sameV (HE.out.below B6.out) E6.out Q5.out (.short (by omega))).mono ?_
    rintro e w6 ⟨rfl, hb⟩
    have B7 := Lib.hid (B6.out.trans (hb.mono B6.out.size))
    clear hb B6 E6 Q5
    go_wp2_with fail
    go_returns
    exact ⟨rfl, B7.out⟩
  · have hv1 := verd_one (x' := x) (y' := upd y (j + 1) (y j - 1)) TT.out (show j + 1 < m + 1 by omega) (c := 105) (fun i hi => rfl) (fun i hi => upd_other _ _ (by omega)) (bad_2 (by rw [upd_same, oxk, outI_no.2 ⟨by have := YB.out j; omega, by omega⟩]; rfl) (.inr (by rw [upd_same, upd_other _ _ (by omega)]; omega))) (by omega)
    have V1 := Lib.hid hv1
    clear hv1
    go_upto_region 20 with fail
    have P1 := Lib.hid (PB.out.setY (j + 1) (by omega) (y j - 1))
    have B1 := Lib.hid (HB.out.setCell (p := ⟨g, (j + 1) * 2 + 1, none⟩) hgw (.int .i64 (y j - 1)))
    clear cx cy dx dy fz PB HB
    generalize World.setCell wb _ _ = W1 at *
    go_wp2_with fail
    refine (checkG (some ⟨g, 0, none⟩) (m + 1) vc (by omega) (x) (upd y (j + 1) (y j - 1)) _ (HE.out.below B1.out) (PtsO.of P1.out)).mono ?_
    rintro e w1 ⟨v1, c1, p1, k1, rfl, he1, q1, hb⟩
    have B2 := Lib.hid (B1.out.trans (hb.mono B1.out.size))
    have E2 := Lib.hid he1
    have Q2 := Lib.hid q1
    have P2 := Lib.hid (P1.out.below hb)
    clear hb he1 q1 B1 P1
    go_wp2_with fail
    refine (placedC 105 _ (by omega) _).mono ?_
    rintro e w2 ⟨rfl, hb⟩
    have B3 := Lib.hid (B2.out.trans (hb.mono B2.out.size))
    have E3 := Lib.hid (E2.out.below hb)
    have P3 := Lib.hid (P2.out.below hb)
    clear hb B2 E2 P2
    go_wp2_with fail
    refine (sameV (HE.out.below B3.out) E3.out Q2.out V1.out).mono ?_
    rintro e w3 ⟨rfl, hb⟩
    have B4 := Lib.hid (B3.out.trans (hb.mono B3.out.size))
    have P4 := Lib.hid (P3.out.below hb)
    clear hb B3 E3 P3 Q2 V1
    go_wp2_with fail
    refine (checkG (some ⟨g, 0, none⟩) 1 vc (by omega) (x) (upd y (j + 1) (y j - 1)) _ (HE.out.below B4.out) (PtsO.of (fun i hi => P4.out i (by omega)))).mono ?_
    rintro e w4 ⟨v4, c4, p4, k4, rfl, he4, q4, hb⟩
    have B5 := Lib.hid (B4.out.trans (hb.mono B4.out.size))
    have E5 := Lib.hid he4
    have Q5 := Lib.hid q4
    clear hb he4 q4 B4 P4
    go_wp2_with fail
    refine (bareC 103 _).mono ?_
    rintro e w5 ⟨rfl, hb⟩
    have B6 := Lib.hid (B5.out.trans (hb.mono B5.out.size))
    have E6 := Lib.hid (E5.out.below hb)
    clear hb B5 E5
    go_wp2_with fail
    refine (sameV (HE.out.below B6.out) E6.out Q5.out (.short (by omega))).mono ?_
    rintro e w6 ⟨rfl, hb⟩
    have B7 := Lib.hid (B6.out.trans (hb.mono B6.out.size))
    clear hb B6 E6 Q5
    go_wp2_with fail
    go_returns
    exact ⟨rfl, B7.out⟩
  · have hv1 := verd_one (x' := upd x (j + 1) 1073741825) (y' := y) TT.out (show j + 1 < m + 1 by omega) (c := 101) (fun i hi => upd_other _ _ (by omega)) (fun i hi => rfl) (bad_1 (by rw [upd_same]; simp [outI])) (by omega)
    have V1 := Lib.hid hv1
    clear hv1
    go_upto_region 20 with fail
    have P1 := Lib.hid (PB.out.setX (j + 1) (by omega) (1073741825))
    have B1 := Lib.hid (HB.out.setCell (p := ⟨g, (j + 1) * 2, none⟩) hgw (.int .i64 (1073741825)))
    clear cx cy dx dy fz PB HB
    generalize World.setCell wb _ _ = W1 at *
    go_wp2_with fail
    refine (checkG (some ⟨g, 0, none⟩) (m + 1) vc (by omega) (upd x (j + 1) 1073741825) (y) _ (HE.out.below B1.out) (PtsO.of P1.out)).mono ?_
    rintro e w1 ⟨v1, c1, p1, k1, rfl, he1, q1, hb⟩
    have B2 := Lib.hid (B1.out.trans (hb.mono B1.out.size))
    have E2 := Lib.hid he1
    have Q2 := Lib.hid q1
    have P2 := Lib.hid (P1.out.below hb)
    clear hb he1 q1 B1 P1
    go_wp2_with fail
    refine (placedC 101 _ (by omega) _).mono ?_
    rintro e w2 ⟨rfl, hb⟩
    have B3 := Lib.hid (B2.out.trans (hb.mono B2.out.size))
    have E3 := Lib.hid (E2.out.below hb)
    have P3 := Lib.hid (P2.out.below hb)
    clear hb B2 E2 P2
    go_wp2_with fail
    refine (sameV (HE.out.below B3.out) E3.out Q2.out V1.out).mono ?_
    rintro e w3 ⟨rfl, hb⟩
    have B4 := Lib.hid (B3.out.trans (hb.mono B3.out.size))
    have P4 := Lib.hid (P3.out.below hb)
    clear hb B3 E3 P3 Q2 V1
    go_wp2_with fail
    refine (checkG (some ⟨g, 0, none⟩) 1 vc (by omega) (upd x (j + 1) 1073741825) (y) _ (HE.out.below B4.out) (PtsO.of (fun i hi => P4.out i (by omega)))).mono ?_
    rintro e w4 ⟨v4, c4, p4, k4, rfl, he4, q4, hb⟩
    have B5 := Lib.hid (B4.out.trans (hb.mono B4.out.size))
    have E5 := Lib.hid he4
    have Q5 := Lib.hid q4
    clear hb he4 q4 B4 P4
    go_wp2_with fail
    refine (bareC 103 _).mono ?_
    rintro e w5 ⟨rfl, hb⟩
    have B6 := Lib.hid (B5.out.trans (hb.mono B5.out.size))
    have E6 := Lib.hid (E5.out.below hb)
    clear hb B5 E5
    go_wp2_with fail
    refine (sameV (HE.out.below B6.out) E6.out Q5.out (.short (by omega))).mono ?_
    rintro e w6 ⟨rfl, hb⟩
    have B7 := Lib.hid (B6.out.trans (hb.mono B6.out.size))
    clear hb B6 E6 Q5
    go_wp2_with fail
    go_returns
    exact ⟨rfl, B7.out⟩
  · have hv1 := verd_one (x' := x) (y' := upd y (j + 1) (-1073741825)) TT.out (show j + 1 < m + 1 by omega) (c := 101) (fun i hi => rfl) (fun i hi => upd_other _ _ (by omega)) (bad_1 (by rw [upd_same]; simp [outI])) (by omega)
    have V1 := Lib.hid hv1
    clear hv1
    go_upto_region 20 with fail
    have P1 := Lib.hid (PB.out.setY (j + 1) (by omega) (-1073741825))
    have B1 := Lib.hid (HB.out.setCell (p := ⟨g, (j + 1) * 2 + 1, none⟩) hgw (.int .i64 (-1073741825)))
    clear cx cy dx dy fz PB HB
    generalize World.setCell wb _ _ = W1 at *
    go_wp2_with fail
    refine (checkG (some ⟨g, 0, none⟩) (m + 1) vc (by omega) (x) (upd y (j + 1) (-1073741825)) _ (HE.out.below B1.out) (PtsO.of P1.out)).mono ?_
    rintro e w1 ⟨v1, c1, p1, k1, rfl, he1, q1, hb⟩
    have B2 := Lib.hid (B1.out.trans (hb.mono B1.out.size))
    have E2 := Lib.hid he1
    have Q2 := Lib.hid q1
    have P2 := Lib.hid (P1.out.below hb)
    clear hb he1 q1 B1 P1
    go_wp2_with fail
    refine (placedC 101 _ (by omega) _).mono ?_
    rintro e w2 ⟨rfl, hb⟩
    have B3 := Lib.hid (B2.out.trans (hb.mono B2.out.size))
    have E3 := Lib.hid (E2.out.below hb)
    have P3 := Lib.hid (P2.out.below hb)
    clear hb B2 E2 P2
    go_wp2_with fail
    refine (sameV (HE.out.below B3.out) E3.out Q2.out V1.out).mono ?_
    rintro e w3 ⟨rfl, hb⟩
    have B4 := Lib.hid (B3.out.trans (hb.mono B3.out.size))
    have P4 := Lib.hid (P3.out.below hb)
    clear hb B3 E3 P3 Q2 V1
    go_wp2_with fail
    refine (checkG (some ⟨g, 0, none⟩) 1 vc (by omega) (x) (upd y (j + 1) (-1073741825)) _ (HE.out.below B4.out) (PtsO.of (fun i hi => P4.out i (by omega)))).mono ?_
    rintro e w4 ⟨v4, c4, p4, k4, rfl, he4, q4, hb⟩
    have B5 := Lib.hid (B4.out.trans (hb.mono B4.out.size))
    have E5 := Lib.hid he4
    have Q5 := Lib.hid q4
    clear hb he4 q4 B4 P4
    go_wp2_with fail
    refine (bareC 103 _).mono ?_
    rintro e w5 ⟨rfl, hb⟩
    have B6 := Lib.hid (B5.out.trans (hb.mono B5.out.size))
    have E6 := Lib.hid (E5.out.below hb)
    clear hb B5 E5
    go_wp2_with fail
    refine (sameV (HE.out.below B6.out) E6.out Q5.out (.short (by omega))).mono ?_
    rintro e w6 ⟨rfl, hb⟩
    have B7 := Lib.hid (B6.out.trans (hb.mono B6.out.size))
    clear hb B6 E6 Q5
    go_wp2_with fail
    go_returns
    exact ⟨rfl, B7.out⟩
end Go.Proofs.YtppomdpppidbaaaDoor
