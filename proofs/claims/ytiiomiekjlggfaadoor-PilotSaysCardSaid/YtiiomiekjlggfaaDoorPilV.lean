/- PilotSays: any command, any frame, any row of commands. Conditions: the seven errors lie apart. -/
import Derived.Test.YtiiomiekjlggfaaDoorPilU
import Derived.Test.YtiiomiekjlggfaaDoorPh3
import Derived.Test.YtiiomiekjlggfaaDoorActS
import Derived.Test.YtiiomiekjlggfaaDoorPilF
namespace Go.Proofs.YtiiomiekjlggfaaDoor
open Go Go.RowKit
set_option linter.unusedVariables false
set_option maxRecDepth 20000
theorem set_at {w : World} {B j : Nat} {A : Array Value} {t : TypeId} {r : Nat × Nat} (h : w.heap[B]? = some (.cells A t r)) (hj : j < A.size) (v : Value) : (w.setCell ⟨B, j, none⟩ v).cell? ⟨B, j, none⟩ = some v := by
  simp [World.setCell, World.cell?, Array.getElem?_modify, h, hj]
def TwoP (w0 : World) (S R : Nat) (p q : PS) (b c : Bool) (wx : World) : Prop := Pl wx S (if b = true then q else p) ∧ PlR wx R (if c = true then q else p) ∧ Below w0.heap.size w0 wx
theorem TwoP.step1 {w0 : World} {S R : Nat} {p q : PS} {x y : Int} {c : Bool} {wx : World} (hS : w0.heap.size ≤ S) (hn : R ≠ S) (hc : 0 ≤ p.c ∧ p.c ≤ 1000) (hq : p.app x y = q) (h : TwoP w0 S R p q false c wx) :
    Calls Tryd.prog 20 #[.pointer (some ⟨S, 0, none⟩), .int .i64 x, .int .i64 y] wx fun e w' => e = .returned (.bool (kn x y)) ∧ TwoP w0 S R p q true c w' :=
  (applyC S p x y wx h.1 (by omega)).mono fun e w' ⟨h1, h2, h3⟩ => ⟨h1, by rw [hq] at h2; exact h2, h3.row h.2.1 hn, h.2.2.trans (h3.below hS h.2.2.size)⟩
theorem TwoP.step2 {w0 : World} {S R : Nat} {p q : PS} {x y : Int} {b : Bool} {wx : World} (hR : w0.heap.size ≤ R) (hn : S ≠ R) (hc : 0 ≤ p.c ∧ p.c ≤ 1000) (hq : p.app x y = q) (h : TwoP w0 S R p q b false wx) :
    Calls Tryd.prog 21 #[.pointer (some ⟨R, 0, none⟩), .int .i64 x, .int .i64 y] wx fun e w' => e = .returned (.bool (kn x y)) ∧ TwoP w0 S R p q b true w' :=
  (applyR R p x y wx h.2.1 (by omega)).mono fun e w' ⟨h1, h2, h3⟩ => ⟨h1, h3.row h.1 hn, by rw [hq] at h2; exact h2, h.2.2.trans (h3.below hR h.2.2.size)⟩
set_option maxHeartbeats 16000000 in
theorem walkPilotSays (a0 : Int) (a1 : Int) (a2 : Int) (id3 sq3 : Int) (a3 : Option Addr) (len3 cap3 : Nat) (z3 : List Int) (a4 : Option Addr) (len4 cap4 : Nat) (z4 : Nat → List Value) (w : World) (w0 : (Lit.int .i64 a0).wf = true) (w1 : (Lit.int .i64 a1).wf = true) (w2 : (Lit.int .u8 a2).wf = true) (w3i : (Lit.int .u8 id3).wf = true) (w3s : (Lit.int .u8 sq3).wf = true) (w3 : CameI .u8 w a3 len3 cap3 z3) (w4 : CameS [.int .i64, .int .i64] w a4 len4 cap4 z4) (hE : ∃ E, Ers E w) :
    Calls Tryd.prog 3 #[.int .i64 a0, .int .i64 a1, .int .u8 a2, .agg #[.int .u8 id3, .int .u8 sq3, .slice a3 len3 cap3], .slice a4 len4 cap4] w fun e w' => e = .returned (.bool true) ∧ Below w.heap.size w w' := by
  obtain ⟨E, hE⟩ := hE
  have HE := Lib.hid hE
  have BY := Lib.hid (Byt.came w3)
  have BZ := Lib.hid (show ∀ i, i < len3 → 0 ≤ (fun i => z3.getD i 0) i ∧ (fun i => z3.getD i 0) i < 256 from byte_of w3)
  have C4 := Lib.hid fun i hi => pair_atL w4 i hi
  clear hE w0 w1 w2 w3i w3s w3 w4
  generalize (fun i => z3.getD i 0) = f at *
  obtain ⟨gd, hgd⟩ : ∃ g, kn a0 a1 = g := ⟨_, rfl⟩
  have KP := Lib.hid fun (w : World) (h : Ers E w) => pilPutAny a0 a1 a2 gd hgd w h
  have KR := Lib.hid fun (w : World) => pilPutR a0 a1 a2 gd hgd w
  have PCI := Lib.hid (pC_in gd)
  have PN := Lib.hid (show qN gd ≤ 100000 by cases gd <;> decide)
  clear hgd
  generalize qI gd = pi at *
  generalize qS gd a2 = ps at *
  generalize qN gd = pn at *
  generalize pC gd = pc at *
  generalize qF a0 a1 = pf at *
  go_enter Tryd.func3, Tryd.ntmps3
  go_upto_region 1 with fail
  have B0 := Lib.hid (Bx.new w #[.int .u8 id3, .int .u8 sq3, .slice a3 len3 cap3] 24)
  generalize World.alloc w _ = W at *
  go_wp2_with fail
  refine (pilFirst _).mono ?_
  rintro e w1 ⟨rfl, hb⟩
  have B1 := Lib.hid (B0.out.below hb)
  clear hb B0
  have f2 : w1.cell? ⟨w.heap.size, 2, none⟩ = some (.slice a3 len3 cap3) := B1.out.cell 2 rfl
  by_cases hlen : 40 < len3
  · have g40 : decide (40 < (len3 : Int)) = true := decide_eq_true (by omega)
    go_wp2_with fail
    go_returns
    exact ⟨rfl, B1.out.lo⟩
  have g40 : decide (40 < (len3 : Int)) = false := decide_eq_false (by omega)
  by_cases hlen4 : 40 < len4
  · have g41 : decide (40 < (len4 : Int)) = true := decide_eq_true (by omega)
    go_wp2_with fail
    go_returns
    exact ⟨rfl, B1.out.lo⟩
  have g41 : decide (40 < (len4 : Int)) = false := decide_eq_false (by omega)
  go_wp2_with fail
  refine (KP.out _ (HE.out.below B1.out.lo)).mono ?_
  rintro e w2 ⟨xg, rfl, hy, hb⟩
  have B2 := Lib.hid (B1.out.below hb)
  have YG := Lib.hid hy
  clear hb hy B1 f2
  go_upto_region 7 with fail
  have hal := (Below.refl w2.heap.size w2).alloc (Nat.le_refl _) (.cells #[.int .u8 pi, .int .u8 ps, .slice xg pn pn] 24)
  have G3 := Lib.hid (Bx.new w2 #[.int .u8 pi, .int .u8 ps, .slice xg pn pn] 24)
  have B3 := Lib.hid (B2.out.below hal)
  have YG3 := Lib.hid (YG.out.below hal)
  clear hal B2 YG
  generalize World.alloc w2 _ = w3 at *
  go_wp2_with fail
  refine (KR.out _).mono ?_
  rintro e w4 ⟨xh, rfl, hy, hb⟩
  have B4 := Lib.hid (B3.out.below hb)
  have G4 := Lib.hid (G3.out.below hb)
  have YG4 := Lib.hid (YG3.out.below hb)
  have YH := Lib.hid hy
  clear hb hy B3 G3 YG3
  go_upto_region 8 with fail
  have hal := (Below.refl w4.heap.size w4).alloc (Nat.le_refl _) (.cells #[.int .u8 pi, .int .u8 ps, .slice xh pn pn] 24)
  have H5 := Lib.hid (Bx.new w4 #[.int .u8 pi, .int .u8 ps, .slice xh pn pn] 24)
  have B5 := Lib.hid (B4.out.below hal)
  have G5 := Lib.hid (G4.out.below hal)
  have YG5 := Lib.hid (YG4.out.below hal)
  have YH5 := Lib.hid (YH.out.below hal)
  clear hal B4 G4 YG4 YH
  generalize World.alloc w4 _ = w5 at *
  have RA := Lib.hid fun (u : World) (hu : Below w.heap.size w u) => pilRdAll (E := E) id3 sq3 a3 len3 cap3 f u (HE.out.below hu) (BY.out.below hu) BZ.out
  have RR := Lib.hid fun (u : World) (hu : Below w.heap.size w u) => pilRdR id3 sq3 a3 len3 cap3 f u (BY.out.below hu) BZ.out
  have RCI := Lib.hid (prC_in id3 len3 f)
  generalize prC id3 len3 f = rc at *
  generalize prX id3 len3 f = rx at *
  generalize prY id3 len3 f = ry at *
  have f0 : w5.cell? ⟨w.heap.size, 0, none⟩ = some (.int .u8 id3) := B5.out.cell 0 rfl
  have f1 : w5.cell? ⟨w.heap.size, 1, none⟩ = some (.int .u8 sq3) := B5.out.cell 1 rfl
  have f2 : w5.cell? ⟨w.heap.size, 2, none⟩ = some (.slice a3 len3 cap3) := B5.out.cell 2 rfl
  go_wp2_with fail
  refine (RA.out _ B5.out.lo).mono ?_
  rintro e w6 ⟨rfl, hb⟩
  have B6 := Lib.hid (B5.out.below hb)
  have G6 := Lib.hid (G5.out.below hb)
  have H6 := Lib.hid (H5.out.below hb)
  have YG6 := Lib.hid (YG5.out.below hb)
  have YH6 := Lib.hid (YH5.out.below hb)
  clear hb B5 G5 H5 YG5 YH5 f0 f1 f2
  have f0 : w6.cell? ⟨w.heap.size, 0, none⟩ = some (.int .u8 id3) := B6.out.cell 0 rfl
  have f1 : w6.cell? ⟨w.heap.size, 1, none⟩ = some (.int .u8 sq3) := B6.out.cell 1 rfl
  have f2 : w6.cell? ⟨w.heap.size, 2, none⟩ = some (.slice a3 len3 cap3) := B6.out.cell 2 rfl
  go_wp2_with fail
  refine (RR.out _ B6.out.lo).mono ?_
  rintro e w8 ⟨rfl, hb⟩
  have B8 := Lib.hid (B6.out.below hb)
  have G8 := Lib.hid (G6.out.below hb)
  have H8 := Lib.hid (H6.out.below hb)
  have YG8 := Lib.hid (YG6.out.below hb)
  have YH8 := Lib.hid (YH6.out.below hb)
  clear hb B6 G6 H6 YG6 YH6 f0 f1 f2 KP KR RA RR
  have c0 : w8.cell? ⟨w2.heap.size, 0, none⟩ = some (.int .u8 pi) := G8.out.cell 0 rfl
  have c1 : w8.cell? ⟨w2.heap.size, 1, none⟩ = some (.int .u8 ps) := G8.out.cell 1 rfl
  have c2 : w8.cell? ⟨w2.heap.size, 2, none⟩ = some (.slice xg pn pn) := G8.out.cell 2 rfl
  have d0 : w8.cell? ⟨w4.heap.size, 0, none⟩ = some (.int .u8 pi) := H8.out.cell 0 rfl
  have d1 : w8.cell? ⟨w4.heap.size, 1, none⟩ = some (.int .u8 ps) := H8.out.cell 1 rfl
  have d2 : w8.cell? ⟨w4.heap.size, 2, none⟩ = some (.slice xh pn pn) := H8.out.cell 2 rfl
  have KF := sameFrameC (i := pi) (j := pi) (s := ps) (t := ps) (ca := pn) (cb := pn) PN.out w8 YG8.out YH8.out
  rw [show ((pi == pi) && ((ps == ps) && sameB pn pn pf pf)) = true by simp [sameB_self]] at KF
  have KF := Lib.hid KF
  have KI := Lib.hid fun (u : World) (hu : Below w.heap.size w u) => isC (HE.out.below hu) (errOf_is (E := E) (w := u) pc PCI.out)
  have KJ := Lib.hid fun (u : World) (hu : Below w.heap.size w u) => isC (HE.out.below hu) (errOf_is (E := E) (w := u) rc RCI.out)
  generalize errOf E pc = ve at *
  generalize errOf E rc = vx at *
  have ex : (rx != rx) = false := by simp
  have ey : (ry != ry) = false := by simp
  go_wp2_with fail
  refine KF.out.mono ?_
  rintro e w9 ⟨rfl, hb⟩
  have L9 := Lib.hid (B8.out.lo.trans (hb.mono B8.out.lo.size))
  clear hb c0 c1 c2 d0 d1 d2 B8 G8 H8 YG8 YH8 KF
  go_wp2_with fail
  refine (KI.out _ L9.out).mono ?_
  rintro e wa ⟨rfl, hb⟩
  have LA := Lib.hid (L9.out.trans (hb.mono L9.out.size))
  clear hb L9
  go_wp2_with fail
  refine (KJ.out _ LA.out).mono ?_
  rintro e wb ⟨rfl, hb⟩
  have LB := Lib.hid (LA.out.trans (hb.mono LA.out.size))
  clear hb LA KI KJ
  go_upto_region 14 with fail
  have hal := (Below.refl wb.heap.size wb).alloc (Nat.le_refl _) (.cells #[.bool false, .bool false, .bool false, .bool false, .int .i64 0] 40)
  have hal2 := (Below.refl (wb.alloc (.cells #[.bool false, .bool false, .bool false, .bool false, .int .i64 0] 40)).heap.size (wb.alloc (.cells #[.bool false, .bool false, .bool false, .bool false, .int .i64 0] 40))).alloc (Nat.le_refl _) (.cells #[.bool false, .bool false, .bool false, .bool false, .int .i64 0] 41)
  have hs1 : (wb.alloc (.cells #[.bool false, .bool false, .bool false, .bool false, .int .i64 0] 40)).heap.size = wb.heap.size + 1 := by simp
  have P0 : Pl (wb.alloc (.cells #[.bool false, .bool false, .bool false, .bool false, .int .i64 0] 40)) wb.heap.size ⟨false, false, false, false, 0⟩ := heap_alloc_new _ _
  have R0 : PlR ((wb.alloc (.cells #[.bool false, .bool false, .bool false, .bool false, .int .i64 0] 40)).alloc (.cells #[.bool false, .bool false, .bool false, .bool false, .int .i64 0] 41)) (wb.heap.size + 1) ⟨false, false, false, false, 0⟩ := by
    rw [← hs1]
    exact heap_alloc_new _ _
  have FD := Lib.hid (show TwoP w wb.heap.size (wb.heap.size + 1) ⟨false, false, false, false, 0⟩ ⟨false, false, false, false, 0⟩ true true ((wb.alloc (.cells #[.bool false, .bool false, .bool false, .bool false, .int .i64 0] 40)).alloc (.cells #[.bool false, .bool false, .bool false, .bool false, .int .i64 0] 41)) from
    ⟨P0.below hal2 P0.lt, R0, LB.out.trans ((hal.trans (hal2.mono hal.size)).mono LB.out.size)⟩)
  have hS : w.heap.size ≤ wb.heap.size := LB.out.size
  clear hal hal2 hs1 P0 R0 LB
  generalize World.alloc (World.alloc wb _) _ = W6 at *
  obtain ⟨R, hR⟩ : ∃ R, wb.heap.size + 1 = R := ⟨_, rfl⟩
  rw [hR] at FD
  rw [hR]
  generalize wb.heap.size = S at *
  go_wp2_with fail
  go_loopw [24] (fun v wr => ∃ (i : Nat) (p : PS), i ≤ len4 ∧ v = .int .i64 i ∧ (0 ≤ p.c ∧ p.c ≤ 1000) ∧ TwoP w S R p p true true wr) (fun v _ => len4 - (intOf v).toNat)
  case atStart => exact ⟨0, ⟨false, false, false, false, 0⟩, by omega, rfl, by decide, FD.out⟩
  case round =>
    obtain ⟨i, p, hi, rfl, hc, hD⟩ := hrel
    have HD := Lib.hid hD
    clear hD FD
    by_cases hl : i < len4
    · have i1 : (i : Int) < (len4 : Int) := by omega
      obtain ⟨x, c, d, rfl, r0, r1⟩ := C4.out i hl
      have QC := app_count (k := 0) hc.1 hc.2 c d
      obtain ⟨⟨qe, qs, ql, qr, qc⟩, hq⟩ : ∃ q, p.app c d = q := ⟨_, rfl⟩
      rw [hq] at QC
      have K1 := Lib.hid fun (b : Bool) (wx : World) (h : TwoP w S R p ⟨qe, qs, ql, qr, qc⟩ false b wx) => h.step1 (x := c) (y := d) hS (by omega) hc hq
      have K2 := Lib.hid fun (b : Bool) (wx : World) (h : TwoP w S R p ⟨qe, qs, ql, qr, qc⟩ b false wx) => h.step2 (x := c) (y := d) (by omega) (by omega) hc hq
      generalize kn c d = kv at *
      have EP : (kv != kv) = false := by cases kv <;> rfl
      have E0 : (qe != qe) = false := by cases qe <;> rfl
      have E1 : (qs != qs) = false := by cases qs <;> rfl
      have E2 : (ql != ql) = false := by cases ql <;> rfl
      have E3 : (qr != qr) = false := by cases qr <;> rfl
      have E4 : (qc != qc) = false := by simp
      have hp : Pl wr S p := HD.out.1
      have hr : PlR wr R p := HD.out.2.1
      have LO := fun d => pick_ind (R := fun w' => Below w.heap.size w w') (M := fun wx => Below w.heap.size w wx) (w0 := wr) HD.out.2.2 (fun w' h => h) d
      have e0 := fun d => below_cell (LO d) r0
      have e1 := fun d => below_cell (LO d) r1
      have u0 := fun d => pick_ind (R := fun w' => w'.cell? ⟨S, 0, none⟩ = some (.bool qe)) (M := fun w' => w'.cell? ⟨S, 0, none⟩ = some (.bool qe)) (w0 := wr.setCell ⟨S, 0, none⟩ (.bool qe)) (set_at hp (by simp [psA]) _) (fun w' h => h) d
      have t0 := fun d => pick_ind (R := fun w' => w'.cell? ⟨R, 0, none⟩ = some (.bool qe)) (M := fun w' => w'.cell? ⟨R, 0, none⟩ = some (.bool qe)) (w0 := wr.setCell ⟨R, 0, none⟩ (.bool qe)) (set_at hr (by simp [psA]) _) (fun w' h => h) d
      have u1 := fun d => pick_ind (R := fun w' => w'.cell? ⟨S, 1, none⟩ = some (.bool qs)) (M := fun w' => w'.cell? ⟨S, 1, none⟩ = some (.bool qs)) (w0 := wr.setCell ⟨S, 1, none⟩ (.bool qs)) (set_at hp (by simp [psA]) _) (fun w' h => h) d
      have t1 := fun d => pick_ind (R := fun w' => w'.cell? ⟨R, 1, none⟩ = some (.bool qs)) (M := fun w' => w'.cell? ⟨R, 1, none⟩ = some (.bool qs)) (w0 := wr.setCell ⟨R, 1, none⟩ (.bool qs)) (set_at hr (by simp [psA]) _) (fun w' h => h) d
      have u2 := fun d => pick_ind (R := fun w' => w'.cell? ⟨S, 2, none⟩ = some (.bool ql)) (M := fun w' => w'.cell? ⟨S, 2, none⟩ = some (.bool ql)) (w0 := wr.setCell ⟨S, 2, none⟩ (.bool ql)) (set_at hp (by simp [psA]) _) (fun w' h => h) d
      have t2 := fun d => pick_ind (R := fun w' => w'.cell? ⟨R, 2, none⟩ = some (.bool ql)) (M := fun w' => w'.cell? ⟨R, 2, none⟩ = some (.bool ql)) (w0 := wr.setCell ⟨R, 2, none⟩ (.bool ql)) (set_at hr (by simp [psA]) _) (fun w' h => h) d
      have u3 := fun d => pick_ind (R := fun w' => w'.cell? ⟨S, 3, none⟩ = some (.bool qr)) (M := fun w' => w'.cell? ⟨S, 3, none⟩ = some (.bool qr)) (w0 := wr.setCell ⟨S, 3, none⟩ (.bool qr)) (set_at hp (by simp [psA]) _) (fun w' h => h) d
      have t3 := fun d => pick_ind (R := fun w' => w'.cell? ⟨R, 3, none⟩ = some (.bool qr)) (M := fun w' => w'.cell? ⟨R, 3, none⟩ = some (.bool qr)) (w0 := wr.setCell ⟨R, 3, none⟩ (.bool qr)) (set_at hr (by simp [psA]) _) (fun w' h => h) d
      have u4 := fun d => pick_ind (R := fun w' => w'.cell? ⟨S, 4, none⟩ = some (.int .i64 qc)) (M := fun w' => w'.cell? ⟨S, 4, none⟩ = some (.int .i64 qc)) (w0 := wr.setCell ⟨S, 4, none⟩ (.int .i64 qc)) (set_at hp (by simp [psA]) _) (fun w' h => h) d
      have t4 := fun d => pick_ind (R := fun w' => w'.cell? ⟨R, 4, none⟩ = some (.int .i64 qc)) (M := fun w' => w'.cell? ⟨R, 4, none⟩ = some (.int .i64 qc)) (w0 := wr.setCell ⟨R, 4, none⟩ (.int .i64 qc)) (set_at hr (by simp [psA]) _) (fun w' h => h) d
      clear LO r0 r1 hp hr
      go_upto_region 17 with fail
      refine wp_region_ph2 10 21 (TwoP w S R p ⟨qe, qs, ql, qr, qc⟩) (by kernel_rfl) (by kernel_rfl) (by kernel_rfl) (by kernel_rfl) ⟨(show Pl wr S p from HD.out.1).below (Below.refl _ _).drew (show Pl wr S p from HD.out.1).lt, (show PlR wr R p from HD.out.2.1).below (Below.refl _ _).drew (show PlR wr R p from HD.out.2.1).lt, HD.out.2.2.drew⟩ ?_
      iterate 10 (refine ph_val (pick_twoR (R := fun w' => Below w.heap.size w w') (w0 := wr) (fun b c w' h => h.2.2)) (by kernel_rfl) (by kernel_rfl) (by kernel_rfl) (by kernel_rfl) ?_; intro K hK; go_big_quiet_op; go_big_quiet_on)
      refine ph_w1 (.bool kv) (by kernel_rfl) (by kernel_rfl) (by kernel_rfl) (by kernel_rfl) (fun c' w' hw' => ?_) ?_
      · exact phAt_call Tryd.func20 (by kernel_rfl) (by kernel_rfl) #[.pointer (some ⟨S, 0, none⟩), .int .i64 c, .int .i64 d] (by kernel_rfl) (K1.out _ _ hw')
      simp only [Act.put, List.setIfInBounds_toArray, List.set_cons_succ, List.set_cons_zero]
      iterate 10 (refine ph_val (pick_twoR (R := fun w' => Below w.heap.size w w') (w0 := wr) (fun b c w' h => h.2.2)) (by kernel_rfl) (by kernel_rfl) (by kernel_rfl) (by kernel_rfl) ?_; intro K hK; go_big_quiet_op; go_big_quiet_on)
      refine ph_w2 (.bool kv) (by kernel_rfl) (by kernel_rfl) (by kernel_rfl) (by kernel_rfl) (fun c' w' hw' => ?_) ?_
      · exact phAt_call Tryd.func21 (by kernel_rfl) (by kernel_rfl) #[.pointer (some ⟨R, 0, none⟩), .int .i64 c, .int .i64 d] (by kernel_rfl) (K2.out _ _ hw')
      simp only [Act.put, List.setIfInBounds_toArray, List.set_cons_succ, List.set_cons_zero]
      iterate 2 (refine ph_val (pick_twoR (R := fun w' => Below w.heap.size w w') (w0 := wr) (fun b c w' h => h.2.2)) (by kernel_rfl) (by kernel_rfl) (by kernel_rfl) (by kernel_rfl) ?_; intro K hK; go_big_quiet_op; go_big_quiet_on)
      iterate 1 (refine ph_val (pick_twoR (R := fun w' => Below w.heap.size w w') (w0 := wr) (fun b c w' h => h.2.2)) (by kernel_rfl) (by kernel_rfl) (by kernel_rfl) (by kernel_rfl) ?_; intro K hK; go_big_quiet_op; go_big_quiet_on)
      refine ph_valw 60 60 (pick_both (R := fun w' => w'.cell? ⟨S, 0, none⟩ = some (.bool qe)) (w0 := wr.setCell ⟨S, 0, none⟩ (.bool qe)) (fun w' h => h.1.cell 0 rfl)) (by kernel_rfl) (by kernel_rfl) (by kernel_rfl) (by kernel_rfl) (by kernel_rfl) (by kernel_rfl) ?_
      intro K hK; go_big_quiet_op; go_big_quiet_on
      iterate 1 (refine ph_val (pick_twoR (R := fun w' => Below w.heap.size w w') (w0 := wr) (fun b c w' h => h.2.2)) (by kernel_rfl) (by kernel_rfl) (by kernel_rfl) (by kernel_rfl) ?_; intro K hK; go_big_quiet_op; go_big_quiet_on)
      refine ph_valw 60 60 (pick_both (R := fun w' => w'.cell? ⟨R, 0, none⟩ = some (.bool qe)) (w0 := wr.setCell ⟨R, 0, none⟩ (.bool qe)) (fun w' h => h.2.1.cell 0 rfl)) (by kernel_rfl) (by kernel_rfl) (by kernel_rfl) (by kernel_rfl) (by kernel_rfl) (by kernel_rfl) ?_
      intro K hK; go_big_quiet_op; go_big_quiet_on
      iterate 3 (refine ph_val (pick_twoR (R := fun w' => Below w.heap.size w w') (w0 := wr) (fun b c w' h => h.2.2)) (by kernel_rfl) (by kernel_rfl) (by kernel_rfl) (by kernel_rfl) ?_; intro K hK; go_big_quiet_op; go_big_quiet_on)
      iterate 1 (refine ph_val (pick_twoR (R := fun w' => Below w.heap.size w w') (w0 := wr) (fun b c w' h => h.2.2)) (by kernel_rfl) (by kernel_rfl) (by kernel_rfl) (by kernel_rfl) ?_; intro K hK; go_big_quiet_op; go_big_quiet_on)
      refine ph_valw 60 60 (pick_both (R := fun w' => w'.cell? ⟨S, 1, none⟩ = some (.bool qs)) (w0 := wr.setCell ⟨S, 1, none⟩ (.bool qs)) (fun w' h => h.1.cell 1 rfl)) (by kernel_rfl) (by kernel_rfl) (by kernel_rfl) (by kernel_rfl) (by kernel_rfl) (by kernel_rfl) ?_
      intro K hK; go_big_quiet_op; go_big_quiet_on
      iterate 1 (refine ph_val (pick_twoR (R := fun w' => Below w.heap.size w w') (w0 := wr) (fun b c w' h => h.2.2)) (by kernel_rfl) (by kernel_rfl) (by kernel_rfl) (by kernel_rfl) ?_; intro K hK; go_big_quiet_op; go_big_quiet_on)
      refine ph_valw 60 60 (pick_both (R := fun w' => w'.cell? ⟨R, 1, none⟩ = some (.bool qs)) (w0 := wr.setCell ⟨R, 1, none⟩ (.bool qs)) (fun w' h => h.2.1.cell 1 rfl)) (by kernel_rfl) (by kernel_rfl) (by kernel_rfl) (by kernel_rfl) (by kernel_rfl) (by kernel_rfl) ?_
      intro K hK; go_big_quiet_op; go_big_quiet_on
      iterate 3 (refine ph_val (pick_twoR (R := fun w' => Below w.heap.size w w') (w0 := wr) (fun b c w' h => h.2.2)) (by kernel_rfl) (by kernel_rfl) (by kernel_rfl) (by kernel_rfl) ?_; intro K hK; go_big_quiet_op; go_big_quiet_on)
      iterate 1 (refine ph_val (pick_twoR (R := fun w' => Below w.heap.size w w') (w0 := wr) (fun b c w' h => h.2.2)) (by kernel_rfl) (by kernel_rfl) (by kernel_rfl) (by kernel_rfl) ?_; intro K hK; go_big_quiet_op; go_big_quiet_on)
      refine ph_valw 60 60 (pick_both (R := fun w' => w'.cell? ⟨S, 2, none⟩ = some (.bool ql)) (w0 := wr.setCell ⟨S, 2, none⟩ (.bool ql)) (fun w' h => h.1.cell 2 rfl)) (by kernel_rfl) (by kernel_rfl) (by kernel_rfl) (by kernel_rfl) (by kernel_rfl) (by kernel_rfl) ?_
      intro K hK; go_big_quiet_op; go_big_quiet_on
      iterate 1 (refine ph_val (pick_twoR (R := fun w' => Below w.heap.size w w') (w0 := wr) (fun b c w' h => h.2.2)) (by kernel_rfl) (by kernel_rfl) (by kernel_rfl) (by kernel_rfl) ?_; intro K hK; go_big_quiet_op; go_big_quiet_on)
      refine ph_valw 60 60 (pick_both (R := fun w' => w'.cell? ⟨R, 2, none⟩ = some (.bool ql)) (w0 := wr.setCell ⟨R, 2, none⟩ (.bool ql)) (fun w' h => h.2.1.cell 2 rfl)) (by kernel_rfl) (by kernel_rfl) (by kernel_rfl) (by kernel_rfl) (by kernel_rfl) (by kernel_rfl) ?_
      intro K hK; go_big_quiet_op; go_big_quiet_on
      iterate 3 (refine ph_val (pick_twoR (R := fun w' => Below w.heap.size w w') (w0 := wr) (fun b c w' h => h.2.2)) (by kernel_rfl) (by kernel_rfl) (by kernel_rfl) (by kernel_rfl) ?_; intro K hK; go_big_quiet_op; go_big_quiet_on)
      iterate 1 (refine ph_val (pick_twoR (R := fun w' => Below w.heap.size w w') (w0 := wr) (fun b c w' h => h.2.2)) (by kernel_rfl) (by kernel_rfl) (by kernel_rfl) (by kernel_rfl) ?_; intro K hK; go_big_quiet_op; go_big_quiet_on)
      refine ph_valw 60 60 (pick_both (R := fun w' => w'.cell? ⟨S, 3, none⟩ = some (.bool qr)) (w0 := wr.setCell ⟨S, 3, none⟩ (.bool qr)) (fun w' h => h.1.cell 3 rfl)) (by kernel_rfl) (by kernel_rfl) (by kernel_rfl) (by kernel_rfl) (by kernel_rfl) (by kernel_rfl) ?_
      intro K hK; go_big_quiet_op; go_big_quiet_on
      iterate 1 (refine ph_val (pick_twoR (R := fun w' => Below w.heap.size w w') (w0 := wr) (fun b c w' h => h.2.2)) (by kernel_rfl) (by kernel_rfl) (by kernel_rfl) (by kernel_rfl) ?_; intro K hK; go_big_quiet_op; go_big_quiet_on)
      refine ph_valw 60 60 (pick_both (R := fun w' => w'.cell? ⟨R, 3, none⟩ = some (.bool qr)) (w0 := wr.setCell ⟨R, 3, none⟩ (.bool qr)) (fun w' h => h.2.1.cell 3 rfl)) (by kernel_rfl) (by kernel_rfl) (by kernel_rfl) (by kernel_rfl) (by kernel_rfl) (by kernel_rfl) ?_
      intro K hK; go_big_quiet_op; go_big_quiet_on
      iterate 3 (refine ph_val (pick_twoR (R := fun w' => Below w.heap.size w w') (w0 := wr) (fun b c w' h => h.2.2)) (by kernel_rfl) (by kernel_rfl) (by kernel_rfl) (by kernel_rfl) ?_; intro K hK; go_big_quiet_op; go_big_quiet_on)
      iterate 1 (refine ph_val (pick_twoR (R := fun w' => Below w.heap.size w w') (w0 := wr) (fun b c w' h => h.2.2)) (by kernel_rfl) (by kernel_rfl) (by kernel_rfl) (by kernel_rfl) ?_; intro K hK; go_big_quiet_op; go_big_quiet_on)
      refine ph_valw 60 60 (pick_both (R := fun w' => w'.cell? ⟨S, 4, none⟩ = some (.int .i64 qc)) (w0 := wr.setCell ⟨S, 4, none⟩ (.int .i64 qc)) (fun w' h => h.1.cell 4 rfl)) (by kernel_rfl) (by kernel_rfl) (by kernel_rfl) (by kernel_rfl) (by kernel_rfl) (by kernel_rfl) ?_
      intro K hK; go_big_quiet_op; go_big_quiet_on
      iterate 1 (refine ph_val (pick_twoR (R := fun w' => Below w.heap.size w w') (w0 := wr) (fun b c w' h => h.2.2)) (by kernel_rfl) (by kernel_rfl) (by kernel_rfl) (by kernel_rfl) ?_; intro K hK; go_big_quiet_op; go_big_quiet_on)
      refine ph_valw 60 60 (pick_both (R := fun w' => w'.cell? ⟨R, 4, none⟩ = some (.int .i64 qc)) (w0 := wr.setCell ⟨R, 4, none⟩ (.int .i64 qc)) (fun w' h => h.2.1.cell 4 rfl)) (by kernel_rfl) (by kernel_rfl) (by kernel_rfl) (by kernel_rfl) (by kernel_rfl) (by kernel_rfl) ?_
      intro K hK; go_big_quiet_op; go_big_quiet_on
      iterate 2 (refine ph_val (pick_twoR (R := fun w' => Below w.heap.size w w') (w0 := wr) (fun b c w' h => h.2.2)) (by kernel_rfl) (by kernel_rfl) (by kernel_rfl) (by kernel_rfl) ?_; intro K hK; go_big_quiet_op; go_big_quiet_on)
      refine ph_end ?_
      intro w' hw'
      have G := Lib.hid (show TwoP w S R ⟨qe, qs, ql, qr, qc⟩ ⟨qe, qs, ql, qr, qc⟩ true true w' from hw')
      clear hw' e0 e1 u0 u1 u2 u3 u4 t0 t1 t2 t3 t4
      go_wp2_with fail
      go_roundw
      case rel => exact ⟨i + 1, _, by omega, by go_num, QC, G.out⟩
      case measure => simp [intOf]; omega
    · obtain rfl : i = len4 := by omega
      go_wp2_with fail
      go_returns
      exact ⟨rfl, HD.out.2.2⟩
end Go.Proofs.YtiiomiekjlggfaaDoor
