/- More volts never say less charge; what is more wrong says a span at least as wide; more amps out, at the same volts, never less. Conditions: none. -/
import Derived.Test.YtakdoagigbjngaaDoorSagF
namespace Go.Proofs.YtakdoagigbjngaaDoor
open Go.RowKit
theorem CA.err {A : Array Value} {O : Nat} {e : Int} (h : CA A O e) (f : Int) : CA (A.setIfInBounds 17 (.int .i64 f)) O f := by
  have g := fun (i : Nat) (hi : 17 ≠ i) => Array.getElem?_setIfInBounds_ne (xs := A) (a := Value.int .i64 f) hi
  refine ⟨by rw [Array.size_setIfInBounds]; exact h.hs, (g 5 (by omega)).trans h.g5, (g 7 (by omega)).trans h.g7, (g 9 (by omega)).trans h.g9, (g 16 (by omega)).trans h.g16, ?_, (g 20 (by omega)).trans h.g20, ?_⟩
  · have hs := h.hs
    exact Array.getElem?_setIfInBounds_self_of_lt (by omega)
  · rw [Array.all_eq_true]
    intro i hi
    rw [Array.getElem_setIfInBounds]
    split
    · rfl
    · exact (Array.all_eq_true.1 h.one) i (by simpa using hi)
theorem Bx.alloc {w wr : World} {cs : Array Value} {t : TypeId} (h : Bx w wr cs t) (o : Obj) : Bx w (wr.alloc o) cs t := h.below ((Below.refl _ _).alloc (Nat.le_refl _) o)
theorem rest_mono {v v' a a' e e' : Int} (hv : v ≤ v') (ha : a ≤ a') (he : e' ≤ e) : restL v a e ≤ restL v' a' e' := by
  have := down_mono (show a * 20 ≤ a' * 20 by omega) (show (1 : Int) ≤ 1000 by omega)
  unfold restL; omega
theorem rest_mono' {v v' a a' e e' : Int} (hv : v ≤ v') (ha : a ≤ a') (he : e ≤ e') : restH v a e ≤ restH v' a' e' := by
  have := down_mono (show a * 20 ≤ a' * 20 by omega) (show (1 : Int) ≤ 1000 by omega)
  unfold restH; omega
set_option linter.unusedVariables false
set_option maxRecDepth 20000 in
set_option maxHeartbeats 4000000 in
theorem walkSagMore (a0 : Int) (a1 : Int) (a2 : Int) (a3 : Int) (a4 : Int) (a5 : Int) (w : World) (w0 : (Lit.int .i64 a0).wf = true) (w1 : (Lit.int .i64 a1).wf = true) (w2 : (Lit.int .i64 a2).wf = true) (w3 : (Lit.int .i64 a3).wf = true) (w4 : (Lit.int .i64 a4).wf = true) (w5 : (Lit.int .i64 a5).wf = true) :
    Calls Tryd.prog 5 #[.int .i64 a0, .int .i64 a1, .int .i64 a2, .int .i64 a3, .int .i64 a4, .int .i64 a5] w fun e w' => e = .returned (.bool true) ∧ Below w.heap.size w w' := by
  obtain ⟨b1, b1'⟩ := bounds_i64 w1
  obtain ⟨b2, b2'⟩ := bounds_i64 w2
  obtain ⟨b3, b3'⟩ := bounds_i64 w3
  obtain ⟨b4, b4'⟩ := bounds_i64 w4
  obtain ⟨b5, b5'⟩ := bounds_i64 w5
  clear w0 w1 w2 w3 w4 w5
  go_enter Tryd.func5, Tryd.ntmps5
  go_wp2_with fail
  refine (sagFirst _).mono ?_
  rintro e w1 ⟨rfl, hb1⟩
  go_wp2_with fail
  refine (configL a0 0 0 _).mono ?_
  rintro e w2 ⟨A, O, rfl, ca, hp1, hb2⟩
  have CC := Lib.hid ca
  have PP := Lib.hid hp1
  have HB := Lib.hid (hb1.trans (hb2.mono hb1.size))
  have hs := ca.hs
  have hi := ca.hi
  clear ca hp1 hb1 hb2
  go_wp2_with fail
  refine upon_fresh (cells := A) rfl (by rw [hs]; rfl) CC.out.one ?_
  intro W bW sW hW
  have L0 := Lib.hid (show LC w W w2.heap.size A O from ⟨hW, PP.out.below bW, HB.out.trans (bW.mono HB.out.size)⟩)
  clear bW hW PP HB sW
  dsimp only [Act.put]
  have t1 := tmod_b a1 40001 (by omega)
  have t2 := tmod_b a2 40001 (by omega)
  have t3 := tmod_b a3 501 (by omega)
  have t4 := tmod_b a4 501 (by omega)
  have t5 := tmod_b a5 1000 (by omega)
  have x9 := L0.out.cell 9 CC.out.g9
  go_upto_if 45 with fail
  have u1 : 0 ≤ a1.tmod 40001 % 40001 ∧ a1.tmod 40001 % 40001 < 40001 := ⟨Int.emod_nonneg _ (by omega), Int.emod_lt_of_pos _ (by omega)⟩
  have u2 : 0 ≤ a2.tmod 40001 % 40001 ∧ a2.tmod 40001 % 40001 < 40001 := ⟨Int.emod_nonneg _ (by omega), Int.emod_lt_of_pos _ (by omega)⟩
  clear x9
  go_cut [1, 2] (fun s t wx => ∃ p q : Int, s = .int .i64 p ∧ t = .int .i64 q ∧ 10000 ≤ p ∧ p ≤ q ∧ q ≤ 50000 ∧ wx = W)
  case first =>
    clear b1 b1' b2 b2' b3 b3' b4 b4' b5 b5' t1 t2 t3 t4 t5
    generalize a1.tmod 40001 % 40001 = P at *
    generalize a2.tmod 40001 % 40001 = Q at *
    go_wp2_with fail
    all_goals
      go_meet
      exact ⟨_, _, rfl, rfl, by omega, by omega, by omega, rfl⟩
  case rest =>
  obtain ⟨v, vw, rfl, rfl, v1, v2, v3, rfl⟩ := hcut
  clear b1 b1' b2 b2' t1 t2
  go_upto_if 54 with fail
  go_cut [3, 4] (fun s t wx => ∃ p q : Int, s = .int .i64 p ∧ t = .int .i64 q ∧ -500 ≤ p ∧ p ≤ q ∧ q ≤ 500 ∧ wx = wc)
  case first =>
    clear b3 b3' b4 b4' b5 b5' t5
    generalize a3.tmod 501 = P at *
    generalize a4.tmod 501 = Q at *
    go_wp2_with fail
    all_goals
      go_meet
      exact ⟨_, _, rfl, rfl, by omega, by omega, by omega, rfl⟩
  case rest =>
  obtain ⟨a, b, rfl, rfl, m1, m2, m3, rfl⟩ := hcut
  clear b3 b3' b4 b4' t3 t4
  obtain ⟨pl, hpl⟩ : ∃ k, backLo 4 ocvX ocvY (restL v a 100) = k := ⟨_, rfl⟩
  obtain ⟨ph, hph⟩ : ∃ k, backHi 4 ocvX ocvY (restH v a 100) = k := ⟨_, rfl⟩
  obtain ⟨ql, hql⟩ : ∃ k, backLo 4 ocvX ocvY (restL vw a 100) = k := ⟨_, rfl⟩
  obtain ⟨qh, hqh⟩ : ∃ k, backHi 4 ocvX ocvY (restH vw a 100) = k := ⟨_, rfl⟩
  obtain ⟨rl, hrl⟩ : ∃ k, backLo 4 ocvX ocvY (restL v b 100) = k := ⟨_, rfl⟩
  obtain ⟨rh, hrh⟩ : ∃ k, backHi 4 ocvX ocvY (restH v b 100) = k := ⟨_, rfl⟩
  have F1 : pl ≤ ql ∧ ph ≤ qh := by rw [← hpl, ← hph, ← hql, ← hqh]; exact ⟨(back_mono (m := 3) ocv_ok (rest_mono v2 (Int.le_refl _) (Int.le_refl _))).1, (back_mono (m := 3) ocv_ok (rest_mono' v2 (Int.le_refl _) (Int.le_refl _))).2⟩
  have F2 : pl ≤ rl ∧ ph ≤ rh := by rw [← hpl, ← hph, ← hrl, ← hrh]; exact ⟨(back_mono (m := 3) ocv_ok (rest_mono (Int.le_refl _) m2 (Int.le_refl _))).1, (back_mono (m := 3) ocv_ok (rest_mono' (Int.le_refl _) m2 (Int.le_refl _))).2⟩
  have HP := Lib.hid (And.intro hpl hph)
  have HQ := Lib.hid (And.intro hql hqh)
  have HR := Lib.hid (And.intro hrl hrh)
  clear hpl hph hql hqh hrl hrh
  go_wp2_with (refine wpList_load_row_g (by kernel_rfl) 28 _ rfl (w2.heap.size) rfl 28 _ (0, 0) _ L0.out.row Tryd.underlying28 rfl hi ?_)
  refine (sagChargeYes A v a 100 ⟨O, 0, none⟩ 4 4 ocvX ocvY ocv_ok CC.out.hs CC.out.g9 CC.out.g16 CC.out.g17 CC.out.g20 (by omega) (by omega) (by omega) _ L0.out.pts).mono ?_
  rintro e w3 ⟨rfl, hb⟩
  rw [HP.out.1, HP.out.2]
  have L1 := Lib.hid (L0.out.below hb)
  clear hb L0
  go_wp2_with (refine wpList_load_row_g (by kernel_rfl) 28 _ rfl (w2.heap.size) rfl 28 _ (0, 0) _ (L1.out.alloc _).row Tryd.underlying28 rfl hi ?_)
  refine (sagChargeYes A vw a 100 ⟨O, 0, none⟩ 4 4 ocvX ocvY ocv_ok CC.out.hs CC.out.g9 CC.out.g16 CC.out.g17 CC.out.g20 (by omega) (by omega) (by omega) _ (L1.out.alloc _).pts).mono ?_
  rintro e w4 ⟨rfl, hb⟩
  rw [HQ.out.1, HQ.out.2]
  have L2 := Lib.hid ((L1.out.alloc _).below hb)
  have P2 := Lib.hid ((Bx.new w3 #[.int .i64 pl, .int .i64 ph] 31).below hb)
  clear hb L1
  go_wp2_with (refine wpList_load_row_g (by kernel_rfl) 28 _ rfl (w2.heap.size) rfl 28 _ (0, 0) _ (L2.out.alloc _).row Tryd.underlying28 rfl hi ?_)
  refine (sagChargeYes A v b 100 ⟨O, 0, none⟩ 4 4 ocvX ocvY ocv_ok CC.out.hs CC.out.g9 CC.out.g16 CC.out.g17 CC.out.g20 (by omega) (by omega) (by omega) _ (L2.out.alloc _).pts).mono ?_
  rintro e w5 ⟨rfl, hb⟩
  rw [HR.out.1, HR.out.2]
  have L3 := Lib.hid ((L2.out.alloc _).below hb)
  have P3 := Lib.hid ((P2.out.alloc _).below hb)
  have Q3 := Lib.hid ((Bx.new w4 #[.int .i64 ql, .int .i64 qh] 31).below hb)
  clear hb L2 P2
  go_wp2_with (refine wpList_load_row_g (by kernel_rfl) 28 _ rfl (w2.heap.size) rfl 28 _ (0, 0) _ (L3.out.alloc _).row Tryd.underlying28 rfl hi ?_)
  refine upon_fresh (cells := A) (by simp) (by rw [hs]; rfl) CC.out.one ?_
  intro W6 bW _ hW
  have DR := Lib.hid hW
  have BW := Lib.hid bW
  have x17 := ((L3.out.alloc _).below bW).cell 17 CC.out.g17
  have d17 : W6.cell? ⟨w5.heap.size + 1, 17, none⟩ = some (.int .i64 100) := by simp [World.cell?, hW, CC.out.g17]
  have df : ∀ j, W6.frozen? ⟨w5.heap.size + 1, j, none⟩ = false := fun j => by simp [World.frozen?, hW]
  clear bW hW
  dsimp only [Act.put]
  have u5 : 0 ≤ a5.tmod 1000 % 1000 ∧ a5.tmod 1000 % 1000 < 1000 := ⟨Int.emod_nonneg _ (by omega), Int.emod_lt_of_pos _ (by omega)⟩
  go_upto_region 18 with fail
  generalize a5.tmod 1000 % 1000 = E at *
  have R7 : (W6.setCell ⟨w5.heap.size + 1, 17, none⟩ (.int .i64 (100 + E))).heap[w5.heap.size + 1]? = some (.cells (A.setIfInBounds 17 (.int .i64 (100 + E))) 28 (0, 0)) := by
    simp [World.setCell, Array.getElem?_modify, DR.out]
  have B7 := BW.out.setCell (p := ⟨w5.heap.size + 1, 17, none⟩) (by simp) (.int .i64 (100 + E))
  clear d17 df x17
  generalize World.setCell W6 _ _ = W7 at *
  have C7 := Lib.hid (CC.out.err (100 + E))
  have L7 := Lib.hid ((L3.out.alloc _).below B7)
  have P7 := Lib.hid ((P3.out.alloc _).below B7)
  have Q7 := Lib.hid ((Q3.out.alloc _).below B7)
  have S7 := Lib.hid ((Bx.new w5 #[.int .i64 rl, .int .i64 rh] 31).below B7)
  have RR := Lib.hid R7
  clear B7 R7 L3 P3 Q3 BW DR
  have hi7 := C7.out.hi
  obtain ⟨A7, hA7⟩ : ∃ k, A.setIfInBounds 17 (.int .i64 (100 + E)) = k := ⟨_, rfl⟩
  rw [hA7] at C7 RR hi7
  clear hA7
  obtain ⟨sl, hsl⟩ : ∃ k, backLo 4 ocvX ocvY (restL v a (100 + E)) = k := ⟨_, rfl⟩
  obtain ⟨sh, hsh⟩ : ∃ k, backHi 4 ocvX ocvY (restH v a (100 + E)) = k := ⟨_, rfl⟩
  have F3 : sl ≤ pl ∧ ph ≤ sh := by rw [← hsl, ← hsh, ← HP.out.1, ← HP.out.2]; exact ⟨(back_mono (m := 3) ocv_ok (rest_mono (Int.le_refl _) (Int.le_refl _) (by omega))).1, (back_mono (m := 3) ocv_ok (rest_mono' (Int.le_refl _) (Int.le_refl _) (by omega))).2⟩
  have HS := Lib.hid (And.intro hsl hsh)
  clear hsl hsh
  go_wp2_with (refine wpList_load_row_g (by kernel_rfl) 28 _ rfl (w5.heap.size + 1) rfl 28 _ (0, 0) _ RR.out Tryd.underlying28 rfl hi7 ?_)
  refine (sagChargeYes A7 v a (100 + E) ⟨O, 0, none⟩ 4 4 ocvX ocvY ocv_ok C7.out.hs C7.out.g9 C7.out.g16 C7.out.g17 C7.out.g20 (by omega) (by omega) (by omega) _ L7.out.pts).mono ?_
  rintro e w8 ⟨rfl, hb⟩
  rw [HS.out.1, HS.out.2]
  have L8 := Lib.hid (L7.out.below hb)
  have P8 := Lib.hid (P7.out.below hb)
  have Q8 := Lib.hid (Q7.out.below hb)
  have S8 := Lib.hid (S7.out.below hb)
  clear hb L7 P7 Q7 S7 RR
  obtain ⟨f1, f2⟩ := F1
  obtain ⟨f3, f4⟩ := F2
  obtain ⟨f5, f6⟩ := F3
  have g1 : decide (pl ≤ ql) = true := decide_eq_true f1
  have g2 : decide (ph ≤ qh) = true := decide_eq_true f2
  have g3 : decide (pl ≤ rl) = true := decide_eq_true f3
  have g4 : decide (ph ≤ rh) = true := decide_eq_true f4
  have y0 := fun (o : Obj) => (P8.out.alloc o).cell 0 rfl
  have y1 := fun (o : Obj) => (P8.out.alloc o).cell 1 rfl
  have z0 := fun (o : Obj) => (Q8.out.alloc o).cell 0 rfl
  have z1 := fun (o : Obj) => (Q8.out.alloc o).cell 1 rfl
  have s0 := fun (o : Obj) => (S8.out.alloc o).cell 0 rfl
  have s1 := fun (o : Obj) => (S8.out.alloc o).cell 1 rfl
  have KI := Lib.hid fun (w : World) => show Calls Tryd.prog 20 #[.agg #[.int .i64 pl, .int .i64 ph], .agg #[.int .i64 sl, .int .i64 sh]] w fun e w' => e = .returned (.bool true) ∧ Below w.heap.size w w' by
    have := refIn pl ph sl sh w
    rwa [show inB pl ph sl sh = true by simp [inB, f5, f6]] at this
  go_wp2_with fail
  refine (KI.out _).mono ?_
  rintro e w9 ⟨rfl, hb⟩
  have B9 := Lib.hid ((L8.out.alloc _).lo.trans (hb.mono (L8.out.alloc _).lo.size))
  clear hb
  go_wp2_with fail
  go_returns
  exact ⟨rfl, B9.out⟩
end Go.Proofs.YtakdoagigbjngaaDoor
