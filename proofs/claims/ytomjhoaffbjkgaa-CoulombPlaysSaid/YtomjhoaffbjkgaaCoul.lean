/- What a counter of charge does, by plain definitions; its block alone changes. Conditions: its numbers are of 64 bits. -/
import Derived.Test.YtomjhoaffbjkgaaSpanC
import Derived.Test.YtomjhoaffbjkgaaBase
import Derived.Test.YtomjhoaffbjkgaaCame
import Derived.Deep.RegionWith
import Derived.Deep.DeepCutAuto
namespace Go.Proofs.Ytomjhoaffbjkgaa
open Go.RowKit
structure CK where
  full : Int
  most : Int
  amiss : Int
  lo : Int
  hi : Int
def CK.set (k : CK) (a b : Int) : CK := ⟨k.full, k.most, k.amiss, clampI a 0 k.full, clampI b 0 k.full⟩
def CK.out (k : CK) (v : Int) (f : Bool) : Int × Int := if f then (sat (v - max k.amiss 0), sat (v + max k.amiss 0)) else (sat (-max k.most 0), sat (max k.most 0))
def CK.step (k : CK) (v : Int) (f : Bool) : CK := k.set (sat (k.lo - (k.out v f).2)) (sat (k.hi - (k.out v f).1))
def Ctr (w : World) (B : Nat) (k : CK) : Prop := w.heap[B]? = some (.cells #[.int .i64 k.full, .int .i64 k.most, .int .i64 k.amiss, .int .i64 k.lo, .int .i64 k.hi] 85 (0, 0))
theorem Ctr.lt {w : World} {B : Nat} {k : CK} (h : Ctr w B k) : B < w.heap.size := (Array.getElem?_eq_some_iff.1 h).1
theorem Ctr.cells {w : World} {B : Nat} {k : CK} (h : Ctr w B k) :
    w.cell? ⟨B, 0, none⟩ = some (.int .i64 k.full) ∧ w.cell? ⟨B, 1, none⟩ = some (.int .i64 k.most) ∧ w.cell? ⟨B, 2, none⟩ = some (.int .i64 k.amiss) ∧ w.cell? ⟨B, 3, none⟩ = some (.int .i64 k.lo) ∧ w.cell? ⟨B, 4, none⟩ = some (.int .i64 k.hi) ∧ (∀ j, w.frozen? ⟨B, j, none⟩ = false) := by
  unfold Ctr at h
  refine ⟨?_, ?_, ?_, ?_, ?_, fun j => ?_⟩ <;> simp [World.cell?, World.frozen?, h]
theorem Ctr.below {w w' : World} {B b : Nat} {k : CK} (h : Ctr w B k) (hb : Below b w w') (hl : B < b) : Ctr w' B k := (hb.block B hl).trans h
theorem Ctr.qs {w : World} {B : Nat} {k : CK} (h : Ctr w B k) (a b : Int) : Ctr ((w.setCell ⟨B, 3, none⟩ (.int .i64 a)).setCell ⟨B, 4, none⟩ (.int .i64 b)) B ⟨k.full, k.most, k.amiss, a, b⟩ := by
  unfold Ctr at *
  simp [World.setCell, Array.getElem?_modify, h]
theorem ctrQ (B : Nat) (k : CK) (w : World) (h : Ctr w B k) :
    Calls Try.prog 31 #[.pointer (some ⟨B, 0, none⟩)] w fun e w' => e = .returned (.agg #[.int .i64 k.lo, .int .i64 k.hi]) ∧ Below w.heap.size w w' := by
  obtain ⟨c0, c1, c2, c3, c4, fz⟩ := h.cells
  have c3' := fun o => cell_alloc c3 o
  have c4' := fun o => cell_alloc c4 o
  clear h
  go_enter Try.func31, Try.ntmps31
  go_wp2
  refine bodyPost_ret (v := .agg #[.int .i64 k.lo, .int .i64 k.hi]) (by simp [results, Try.results31, go_sem]) rfl ⟨rfl, ?_⟩
  go_grown
theorem ctrSet (B : Nat) (k : CK) (a b : Int) (w : World) (h : Ctr w B k) :
    Calls Try.prog 32 #[.pointer (some ⟨B, 0, none⟩), .agg #[.int .i64 a, .int .i64 b]] w fun e w' => e = .returned (.tuple #[]) ∧ Ctr w' B (k.set a b) ∧ Only B w w' := by
  have hlt := h.lt
  go_enter Try.func32, Try.ntmps32
  go_wp2_with fail
  obtain ⟨W0, hW, r0, hC, hb0⟩ : ∃ W0, w.alloc (.cells #[.int .i64 a, .int .i64 b] 23) = W0 ∧ W0.heap[w.heap.size]? = some (.cells #[.int .i64 a, .int .i64 b] 23 (0, 0)) ∧ Ctr W0 B k ∧ Below w.heap.size w W0 :=
    ⟨_, rfl, heap_alloc_new _ _, h.below ((Below.refl _ w).alloc (Nat.le_refl _) _) hlt, (Below.refl _ w).alloc (Nat.le_refl _) _⟩
  rw [hW]
  clear hW h
  have K := Lib.hid fun (w : World) => spanClamp a b 0 k.full w
  obtain ⟨c0, c1, c2, c3, c4, fz⟩ := hC.cells
  have p0 : W0.drew.cell? ⟨w.heap.size, 0, none⟩ = some (.int .i64 a) := cell_of_row W0 _ 0 _ _ _ r0
  have p1 : W0.drew.cell? ⟨w.heap.size, 1, none⟩ = some (.int .i64 b) := cell_of_row W0 _ 1 _ _ _ r0
  have c0' : W0.drew.cell? ⟨B, 0, none⟩ = some (.int .i64 k.full) := c0
  have HC := Lib.hid hC
  have HB := Lib.hid hb0
  clear r0 hC hb0 c0 c1 c2 c3 c4 fz
  go_region_with ((go_at_call 45; (with_reducible refine (K.out _).mono ?_); rintro e w1 ⟨rfl, hb⟩; have H1 := Lib.hid (Ctr.below (w := W0.drew) HC.out hb HC.out.lt); have B1 := Lib.hid (HB.out.drew.trans (hb.mono HB.out.drew.size)); obtain ⟨x0, x1, x2, x3, x4, fz⟩ := H1.out.cells; clear hb; dsimp only))
  all_goals
    go_wp2_with fail
    go_end0
    exact ⟨rfl, H1.out.qs _ _, (Only.of_below B B1.out).trans ((Only.set B 3 _ _).trans (Only.set B 4 _ _))⟩
theorem Only.newSet {B R : Nat} {w w' : World} (h : Only B w w') (hR : w.heap.size ≤ R) (o : Nat) (v : Value) : Only B w (w'.setCell ⟨R, o, none⟩ v) :=
  ⟨h.os, h.tape, h.output, by simpa using h.size, fun k hk hB => (heap_setCell_other w' ⟨R, o, none⟩ k v (by simp; omega)).trans (h.block k hk hB)⟩
theorem row_below {w w' : World} {B : Nat} {o : Obj} (hb : Below w.heap.size w w') (h : w.heap[B]? = some o) : w'.heap[B]? = some o := (hb.block B (Array.getElem?_eq_some_iff.1 h).1).trans h
theorem i64_sat (a : Int) : I64 (sat a) := by unfold sat I64; omega
structure CK.Ok (k : CK) : Prop where
  most : I64 k.most
  amiss : I64 k.amiss
  lo : I64 k.lo
  hi : I64 k.hi
theorem CK.out_ok (k : CK) (v : Int) (f : Bool) : I64 (k.out v f).1 ∧ I64 (k.out v f).2 := by
  unfold CK.out
  split <;> exact ⟨i64_sat _, i64_sat _⟩
set_option maxHeartbeats 4000000 in
theorem ctrStepT (B : Nat) (k : CK) (hk : k.Ok) (v : Int) (hv : I64 v) (w : World) (h : Ctr w B k) :
    Calls Try.prog 30 #[.pointer (some ⟨B, 0, none⟩), .agg #[.int .i64 v, .bool true]] w fun e w' => e = .returned (.agg #[.int .i64 (k.step v true).lo, .int .i64 (k.step v true).hi]) ∧ Ctr w' B (k.step v true) ∧ Only B w w' := by
  have hlt := h.lt
  have e0 : k.step v true = k.set (sat (k.lo - sat (v + max k.amiss 0))) (sat (k.hi - sat (v - max k.amiss 0))) := rfl
  generalize k.step v true = ks at *
  have k0 := fun (w : World) => spanWiden 0 0 k.most (by unfold I64; omega) (by unfold I64; omega) hk.most w
  rw [show 0 - max k.most 0 = -max k.most 0 by omega, show 0 + max k.most 0 = max k.most 0 by omega] at k0
  have k1 := fun (w : World) => spanOf v v w
  rw [show min v v = v by omega, show max v v = v by omega] at k1
  have k2 := fun (w : World) => spanWiden v v k.amiss hv hv hk.amiss w
  have k3 := fun (w : World) => spanSub k.lo k.hi (sat (v - max k.amiss 0)) (sat (v + max k.amiss 0)) hk.lo hk.hi (i64_sat _) (i64_sat _) w
  have k4 := fun (w : World) h => ctrSet B k (sat (k.lo - sat (v + max k.amiss 0))) (sat (k.hi - sat (v - max k.amiss 0))) w h
  rw [← e0] at k4
  have K0 := Lib.hid k0
  have K1 := Lib.hid k1
  have K2 := Lib.hid k2
  have K3 := Lib.hid k3
  have K4 := Lib.hid k4
  clear k0 k1 k2 k3 k4 e0
  have c1' := fun o o' => cell_alloc (cell_alloc h.cells.2.1 o) o'
  go_enter Try.func30, Try.ntmps30
  go_wp2_with fail
  refine (K0.out _).mono ?_
  rintro e w1 ⟨rfl, hb⟩
  obtain ⟨r0, r1, b1, s1⟩ := boxes2 hb
  have hC1 : Ctr w1 B k := h.below b1 hlt
  clear hb c1' h
  have p1 := fun o => cell_alloc (show w1.cell? ⟨w.heap.size, 1, none⟩ = some (.bool true) from cell_of_row w1 _ 1 _ _ _ r0) o
  go_wp2_with fail
  obtain ⟨W2, hW2, hC2, hR, hV, hO, B2, hs2⟩ : ∃ W2, w1.alloc (.cells #[.int .i64 (sat (-max k.most 0)), .int .i64 (sat (max k.most 0))] 23) = W2 ∧ Ctr W2 B k ∧ W2.heap[w.heap.size + 1]? = some (.cells #[.int .i64 0, .int .i64 0] 23 (0, 0)) ∧ W2.heap[w.heap.size]? = some (.cells #[.int .i64 v, .bool true] 50 (0, 0)) ∧
      W2.heap[w1.heap.size]? = some (.cells #[.int .i64 (sat (-max k.most 0)), .int .i64 (sat (max k.most 0))] 23 (0, 0)) ∧ Below w.heap.size w W2 ∧ W2.heap.size = w1.heap.size + 1 :=
    have b := (Below.refl w1.heap.size w1).alloc (Nat.le_refl _) (.cells #[.int .i64 (sat (-max k.most 0)), .int .i64 (sat (max k.most 0))] 23)
    ⟨_, rfl, hC1.below b hC1.lt, (b.block _ (by omega)).trans r1, (b.block _ (by omega)).trans r0, heap_alloc_new _ _, b1.trans (b.mono b1.size), by simp⟩
  rw [hW2]
  clear hW2 r0 r1 p1 hC1 b1
  generalize hO' : w1.heap.size = O at *
  clear hO'
  have HN := Lib.hid (show B ≠ w.heap.size + 1 ∧ B ≠ O ∧ w.heap.size + 1 ≠ O ∧ w.heap.size < O by omega)
  have g1 : W2.drew.cell? ⟨w.heap.size, 0, none⟩ = some (.int .i64 v) := cell_of_row W2 _ 0 _ _ _ hV
  have g2 : W2.drew.cell? ⟨B, 2, none⟩ = some (.int .i64 k.amiss) := hC2.cells.2.2.1
  have HC := Lib.hid hC2
  have HR := Lib.hid hR
  have HV := Lib.hid hV
  have HO := Lib.hid hO
  have HB := Lib.hid B2
  clear hC2 hR hV hO B2
  go_cut [] (fun wx => Ctr wx B k ∧ wx.heap[w.heap.size + 1]? = some (.cells #[.int .i64 0, .int .i64 0] 23 (0, 0)) ∧ wx.heap[O]? = some (.cells #[.int .i64 (sat (v - max k.amiss 0)), .int .i64 (sat (v + max k.amiss 0))] 23 (0, 0)) ∧ Below w.heap.size w wx)
  case first =>
    go_region_with (first
      | (go_at_call 43; (with_reducible refine (K1.out _).mono ?_); rintro e w3 ⟨rfl, hb3⟩; have g1 := below_cell hb3 g1; have g2 := below_cell hb3 g2; dsimp only)
      | (go_at_call 42; (with_reducible refine (K2.out _).mono ?_); rintro e w4 ⟨rfl, hb4⟩; have h4 := row_below hb4 (row_below hb3 HO.out); have o0 : w4.cell? ⟨O, 0, none⟩ = some (.int .i64 (sat (-max k.most 0))) := cell_of_row w4 _ 0 _ _ _ h4; have o1 : w4.cell? ⟨O, 1, none⟩ = some (.int .i64 (sat (max k.most 0))) := cell_of_row w4 _ 1 _ _ _ h4; have z0 : ∀ j, w4.frozen? ⟨O, j, none⟩ = false := fun j => (by simp [World.frozen?, h4]); have h5 := Lib.hid h4; clear h4; dsimp only))
    all_goals
      go_wp2_with fail
      go_meet
      refine ⟨?_, ?_, ?_, ?_⟩
      · exact (heap_setCell_other _ ⟨_, _, _⟩ _ _ (by simpa using HN.out.2.1)).trans ((heap_setCell_other _ ⟨_, _, _⟩ _ _ (by simpa using HN.out.2.1)).trans (Ctr.below (Ctr.below (w := W2.drew) HC.out hb3 HC.out.lt) hb4 (Nat.lt_of_lt_of_le HC.out.lt hb3.size)))
      · exact (heap_setCell_other _ ⟨_, _, _⟩ _ _ (by simpa using HN.out.2.2.1)).trans ((heap_setCell_other _ ⟨_, _, _⟩ _ _ (by simpa using HN.out.2.2.1)).trans (row_below hb4 (row_below (w := W2.drew) hb3 HR.out)))
      · have h6 := h5.out
        simp [World.setCell, Array.getElem?_modify, h6]
      · exact ((HB.out.drew.trans ((hb3.trans (hb4.mono hb3.size)).mono HB.out.drew.size)).setCell (p := ⟨O, 0, none⟩) (Nat.le_of_lt HN.out.2.2.2) _).setCell (p := ⟨O, 1, none⟩) (Nat.le_of_lt HN.out.2.2.2) _
  case rest =>
    obtain ⟨hC, hR, hO, hB⟩ := hcut
    go_wp2_with fail
    clear g1 g2 HC HR HV HO HB
    have l3 : wc.drew.cell? ⟨B, 3, none⟩ = some (.int .i64 k.lo) := hC.cells.2.2.2.1
    have l4 : wc.drew.cell? ⟨B, 4, none⟩ = some (.int .i64 k.hi) := hC.cells.2.2.2.2.1
    have l0 : wc.drew.cell? ⟨O, 0, none⟩ = some (.int .i64 (sat (v - max k.amiss 0))) := cell_of_row wc _ 0 _ _ _ hO
    have l1 : wc.drew.cell? ⟨O, 1, none⟩ = some (.int .i64 (sat (v + max k.amiss 0))) := cell_of_row wc _ 1 _ _ _ hO
    have HC := Lib.hid hC
    have HR := Lib.hid hR
    have HB := Lib.hid hB
    clear hC hR hO hB
    go_region_with (first
      | (go_at_call 44; (with_reducible refine (K3.out _).mono ?_); rintro e w5 ⟨rfl, hb5⟩; have C5 := Lib.hid (Ctr.below (w := wc.drew) HC.out hb5 HC.out.lt); have R5 := Lib.hid (row_below (w := wc.drew) hb5 HR.out); have B5 := Lib.hid (HB.out.drew.trans (hb5.mono HB.out.drew.size)); clear hb5; dsimp only)
      | (go_at_call 32; (with_reducible refine (K4.out _ ?_).mono ?_); exact C5.out; rintro e w6 ⟨rfl, H6, ho⟩; have C6 := Lib.hid H6; have R6 := Lib.hid (ho.row R5.out HN.out.1.symm); have B6 := Lib.hid ((Only.of_below B B5.out).trans ho); clear H6 ho; dsimp only))
    all_goals
      have x3 := C6.out.cells.2.2.2.1
      have x4 := C6.out.cells.2.2.2.2.1
      have y0 : w6.cell? ⟨w.heap.size + 1, 0, none⟩ = some (.int .i64 0) := cell_of_row w6 _ 0 _ _ _ R6.out
      have y1 : w6.cell? ⟨w.heap.size + 1, 1, none⟩ = some (.int .i64 0) := cell_of_row w6 _ 1 _ _ _ R6.out
      have yf : ∀ j, w6.frozen? ⟨w.heap.size + 1, j, none⟩ = false := fun j => by simp [World.frozen?, R6.out]
      go_wp2_with fail
      refine bodyPost_ret (v := .agg #[.int .i64 ks.lo, .int .i64 ks.hi]) (by simp [results, Try.results30, go_sem, y0, y1]) rfl ⟨rfl, ?_, ?_⟩
      · exact (heap_setCell_other _ ⟨_, _, _⟩ _ _ (by simpa using HN.out.1)).trans ((heap_setCell_other _ ⟨_, _, _⟩ _ _ (by simpa using HN.out.1)).trans C6.out)
      · exact (B6.out.newSet (by omega) 0 _).newSet (by omega) 1 _
set_option maxHeartbeats 4000000 in
theorem ctrStepF (B : Nat) (k : CK) (hk : k.Ok) (v : Int) (hv : I64 v) (w : World) (h : Ctr w B k) :
    Calls Try.prog 30 #[.pointer (some ⟨B, 0, none⟩), .agg #[.int .i64 v, .bool false]] w fun e w' => e = .returned (.agg #[.int .i64 (k.step v false).lo, .int .i64 (k.step v false).hi]) ∧ Ctr w' B (k.step v false) ∧ Only B w w' := by
  have hlt := h.lt
  have e0 : k.step v false = k.set (sat (k.lo - sat (max k.most 0))) (sat (k.hi - sat (-max k.most 0))) := rfl
  generalize k.step v false = ks at *
  have k0 := fun (w : World) => spanWiden 0 0 k.most (by unfold I64; omega) (by unfold I64; omega) hk.most w
  rw [show 0 - max k.most 0 = -max k.most 0 by omega, show 0 + max k.most 0 = max k.most 0 by omega] at k0
  have k1 := fun (w : World) => spanOf v v w
  rw [show min v v = v by omega, show max v v = v by omega] at k1
  have k2 := fun (w : World) => spanWiden v v k.amiss hv hv hk.amiss w
  have k3 := fun (w : World) => spanSub k.lo k.hi (sat (-max k.most 0)) (sat (max k.most 0)) hk.lo hk.hi (i64_sat _) (i64_sat _) w
  have k4 := fun (w : World) h => ctrSet B k (sat (k.lo - sat (max k.most 0))) (sat (k.hi - sat (-max k.most 0))) w h
  rw [← e0] at k4
  have K0 := Lib.hid k0
  have K1 := Lib.hid k1
  have K2 := Lib.hid k2
  have K3 := Lib.hid k3
  have K4 := Lib.hid k4
  clear k0 k1 k2 k3 k4 e0
  have c1' := fun o o' => cell_alloc (cell_alloc h.cells.2.1 o) o'
  go_enter Try.func30, Try.ntmps30
  go_wp2_with fail
  refine (K0.out _).mono ?_
  rintro e w1 ⟨rfl, hb⟩
  obtain ⟨r0, r1, b1, s1⟩ := boxes2 hb
  have hC1 : Ctr w1 B k := h.below b1 hlt
  clear hb c1' h
  have p1 := fun o => cell_alloc (show w1.cell? ⟨w.heap.size, 1, none⟩ = some (.bool false) from cell_of_row w1 _ 1 _ _ _ r0) o
  go_wp2_with fail
  obtain ⟨W2, hW2, hC2, hR, hV, hO, B2, hs2⟩ : ∃ W2, w1.alloc (.cells #[.int .i64 (sat (-max k.most 0)), .int .i64 (sat (max k.most 0))] 23) = W2 ∧ Ctr W2 B k ∧ W2.heap[w.heap.size + 1]? = some (.cells #[.int .i64 0, .int .i64 0] 23 (0, 0)) ∧ W2.heap[w.heap.size]? = some (.cells #[.int .i64 v, .bool false] 50 (0, 0)) ∧
      W2.heap[w1.heap.size]? = some (.cells #[.int .i64 (sat (-max k.most 0)), .int .i64 (sat (max k.most 0))] 23 (0, 0)) ∧ Below w.heap.size w W2 ∧ W2.heap.size = w1.heap.size + 1 :=
    have b := (Below.refl w1.heap.size w1).alloc (Nat.le_refl _) (.cells #[.int .i64 (sat (-max k.most 0)), .int .i64 (sat (max k.most 0))] 23)
    ⟨_, rfl, hC1.below b hC1.lt, (b.block _ (by omega)).trans r1, (b.block _ (by omega)).trans r0, heap_alloc_new _ _, b1.trans (b.mono b1.size), by simp⟩
  rw [hW2]
  clear hW2 r0 r1 p1 hC1 b1
  generalize hO' : w1.heap.size = O at *
  clear hO'
  have HN := Lib.hid (show B ≠ w.heap.size + 1 ∧ B ≠ O ∧ w.heap.size + 1 ≠ O ∧ w.heap.size < O by omega)
  clear hV
  have hB := B2
  have hC := hC2
  clear hC2
  clear B2
  have l3 : W2.drew.cell? ⟨B, 3, none⟩ = some (.int .i64 k.lo) := hC.cells.2.2.2.1
  have l4 : W2.drew.cell? ⟨B, 4, none⟩ = some (.int .i64 k.hi) := hC.cells.2.2.2.2.1
  have l0 : W2.drew.cell? ⟨O, 0, none⟩ = some (.int .i64 (sat (-max k.most 0))) := cell_of_row W2 _ 0 _ _ _ hO
  have l1 : W2.drew.cell? ⟨O, 1, none⟩ = some (.int .i64 (sat (max k.most 0))) := cell_of_row W2 _ 1 _ _ _ hO
  have HC := Lib.hid hC
  have HR := Lib.hid hR
  have HB := Lib.hid hB
  clear hC hR hO hB
  go_region_with (first
    | (go_at_call 44; (with_reducible refine (K3.out _).mono ?_); rintro e w5 ⟨rfl, hb5⟩; have C5 := Lib.hid (Ctr.below (w := W2.drew) HC.out hb5 HC.out.lt); have R5 := Lib.hid (row_below (w := W2.drew) hb5 HR.out); have B5 := Lib.hid (HB.out.drew.trans (hb5.mono HB.out.drew.size)); clear hb5; dsimp only)
    | (go_at_call 32; (with_reducible refine (K4.out _ ?_).mono ?_); exact C5.out; rintro e w6 ⟨rfl, H6, ho⟩; have C6 := Lib.hid H6; have R6 := Lib.hid (ho.row R5.out HN.out.1.symm); have B6 := Lib.hid ((Only.of_below B B5.out).trans ho); clear H6 ho; dsimp only))
  all_goals
    have x3 := C6.out.cells.2.2.2.1
    have x4 := C6.out.cells.2.2.2.2.1
    have y0 : w6.cell? ⟨w.heap.size + 1, 0, none⟩ = some (.int .i64 0) := cell_of_row w6 _ 0 _ _ _ R6.out
    have y1 : w6.cell? ⟨w.heap.size + 1, 1, none⟩ = some (.int .i64 0) := cell_of_row w6 _ 1 _ _ _ R6.out
    have yf : ∀ j, w6.frozen? ⟨w.heap.size + 1, j, none⟩ = false := fun j => by simp [World.frozen?, R6.out]
    go_wp2_with fail
    refine bodyPost_ret (v := .agg #[.int .i64 ks.lo, .int .i64 ks.hi]) (by simp [results, Try.results30, go_sem, y0, y1]) rfl ⟨rfl, ?_, ?_⟩
    · exact (heap_setCell_other _ ⟨_, _, _⟩ _ _ (by simpa using HN.out.1)).trans ((heap_setCell_other _ ⟨_, _, _⟩ _ _ (by simpa using HN.out.1)).trans C6.out)
    · exact (B6.out.newSet (by omega) 0 _).newSet (by omega) 1 _
end Go.Proofs.Ytomjhoaffbjkgaa
