/- The chapter's examples of shedding. Conditions: the table of ends lies as the text lays it. -/
import Derived.Test.YtbeemfkndpandaaDoorShedS
import Derived.Test.YtbeemfkndpandaaDoorConfE
namespace Go.Proofs.YtbeemfkndpandaaDoor
open Go Go.RowKit
set_option linter.unusedVariables false
set_option maxRecDepth 20000
def cf0 : CG := { (cfgOf (0 % 1048576) (0 % 1048576) (0 % 1048576)).cg with H := 1 }
theorem want1 : wantN (okW 0 false 1 (fun _ => 4) (fun _ => 0)) (fun _ => 5) (mostV cf0) (ordL (fun _ => 0) 1) 4 = 1 := by kernel_rfl
theorem want0 : wantN (okW 0 false 0 (fun _ => 4) (fun _ => 0)) (fun _ => 5) (mostV cf0) (ordL (fun _ => 0) 1) 4 = 0 := by kernel_rfl
theorem most0 : ∀ s, s < 4 → 0 ≤ mostV cf0 s ∧ mostV cf0 s ≤ 1073741824 := by
  intro s hs
  rcases (show s = 0 ∨ s = 1 ∨ s = 2 ∨ s = 3 by omega) with rfl | rfl | rfl | rfl <;> decide +kernel
set_option maxHeartbeats 8000000 in
theorem first25 (w : World) (hT : Tab w) : Calls Tryd.prog 14 #[] w fun e w' => e = .returned (.bool true) ∧ Below w.heap.size w w' := by
  have HT := Lib.hid hT
  clear hT
  go_enter Tryd.func14, Tryd.ntmps14
  go_wp2_with fail
  refine (configF 0 0 0 w).mono ?_
  rintro e w4 ⟨O, fa, fc, rfl, hO, ho, hf, hb⟩
  have L4 := Lib.hid hb
  unfold cfgV
  rw [cgA_of]
  clear hb ho hf hO
  obtain ⟨c, hc⟩ : ∃ c, (cfgOf (0 % 1048576) (0 % 1048576) (0 % 1048576)).cg = c := ⟨_, rfl⟩
  rw [hc]
  have HC := Lib.hid (show { c with H := 1 } = cf0 by rw [← hc]; rfl)
  clear hc
  generalize ((0 : Int) % 1048576 / 20 % 7).toNat = fn at *
  go_wp2_with fail
  refine upon_fresh (by simp) rfl (by kernel_rfl) ?_
  intro W1 b1 s1 h1
  have R8 := Lib.hid (show Rw W1 w4.heap.size c (.slice (some ⟨O, 0, none⟩) 4 4) (.slice fa fn fc) from h1)
  have L1 := Lib.hid (L4.out.trans (b1.mono L4.out.size))
  have c4 : W1.cell? ⟨w4.heap.size, 4, none⟩ = some (.int .i64 c.H) := R8.out.cell 4 rfl
  have f4 : W1.frozen? ⟨w4.heap.size, 4, none⟩ = false := R8.out.froz 4
  clear h1 b1
  go_upto_region 3 with fail
  have R9 := Lib.hid (show Rw (W1.setCell ⟨w4.heap.size, 4, none⟩ (.int .i64 1)) w4.heap.size cf0 (.slice (some ⟨O, 0, none⟩) 4 4) (.slice fa fn fc) by rw [← HC.out]; exact R8.out.set 4 (.int .i64 1) rfl)
  have L2 := Lib.hid (below_set (j := 4) (v := .int .i64 1) L1.out L4.out.size)
  have sz : (W1.setCell ⟨w4.heap.size, 4, none⟩ (.int .i64 1)).heap.size = w4.heap.size + 1 := by simpa using s1
  clear c4 f4 s1 R8 L1 HC
  generalize World.setCell W1 _ _ = V1 at *
  have c26 : V1.cell? ⟨w4.heap.size, 26, none⟩ = some (.slice fa fn fc) := R9.out.cell 26 rfl
  have f26 : V1.frozen? ⟨w4.heap.size, 26, none⟩ = false := R9.out.froz 26
  go_upto_region 4 with fail
  have S3 := R9.out.set 26 (.slice (some ⟨w4.heap.size + 1, 0, none⟩) 1 1) (c' := cf0) (oc' := (.slice (some ⟨O, 0, none⟩) 4 4)) (fe' := .slice (some ⟨w4.heap.size + 1, 0, none⟩) 1 1) rfl
  have hal := (Below.refl _ (V1.setCell ⟨w4.heap.size, 26, none⟩ (.slice (some ⟨w4.heap.size + 1, 0, none⟩) 1 1))).alloc (Nat.le_refl _) (.cells #[.int .i64 4, .int .i64 5, .int .i64 0] 50)
  have hsz : (V1.setCell ⟨w4.heap.size, 26, none⟩ (.slice (some ⟨w4.heap.size + 1, 0, none⟩) 1 1)).heap.size = w4.heap.size + 1 := by simpa using sz
  have R3 := Lib.hid (S3.below hal (by omega))
  have L3 := below_set (j := 26) (v := .slice (some ⟨w4.heap.size + 1, 0, none⟩) 1 1) L2.out L4.out.size
  have M3 := Lib.hid (L3.trans (hal.mono L3.size))
  have N3 := heap_alloc_new (V1.setCell ⟨w4.heap.size, 26, none⟩ (.slice (some ⟨w4.heap.size + 1, 0, none⟩) 1 1)) (.cells #[.int .i64 4, .int .i64 5, .int .i64 0] 50)
  rw [hsz] at N3
  have N4 := Lib.hid N3
  clear hal N3 S3 sz hsz L3 R9 L2 c26 f26
  generalize World.alloc (World.setCell V1 _ _) _ = W3 at *
  have FD := Lib.hid (show FedG W3 (some ⟨w4.heap.size + 1, 0, none⟩) 1 (fun _ => 4) (fun _ => 5) (fun _ => 0) by
    intro i hi
    obtain rfl : i = 0 := by omega
    refine ⟨_, rfl, ?_⟩
    rw [add0]
    exact ⟨(cell_of_row _ _ 0 _ _ _ N4.out).trans rfl, (cell_of_row _ _ 1 _ _ _ N4.out).trans rfl, (cell_of_row _ _ 2 _ _ _ N4.out).trans rfl⟩)
  go_wp2_with (refine wpList_load_row_g (by kernel_rfl) 31 _ rfl w4.heap.size rfl 31 _ (0, 0) _ R3.out Tryd.underlying31 rfl (by kernel_rfl) ?_)
  refine (newC cf0 1 rfl (by omega) (.slice (some ⟨O, 0, none⟩) 4 4) _ 1 1 (by omega) W3).mono ?_
  rintro e w5 ⟨K, V, rfl, hK, hV, hkp, hb⟩
  have KP := Lib.hid hkp
  have R5 := Lib.hid (R3.out.below hb (Array.getElem?_eq_some_iff.1 R3.out).1)
  have F5 := Lib.hid (FD.out.below hb)
  have M5 := Lib.hid (M3.out.trans (hb.mono M3.out.size))
  have KV := Lib.hid (show w.heap.size ≤ V ∧ w.heap.size ≤ K by have := M3.out.size; omega)
  clear hkp hb hK hV
  have K1 := Lib.hid fun (u : World) (hb : Below w5.heap.size w5 u) => wantC cf0 (.slice (some ⟨O, 0, none⟩) 4 4) (some ⟨w4.heap.size + 1, 0, none⟩) 1 1 (fun _ => 4) (fun _ => 5) (fun _ => 0) (by omega) (fun _ _ => by omega) most0 1 0 false u (F5.out.below hb) (HT.out.below (M5.out.trans (hb.mono M5.out.size)))
  have K0 := Lib.hid fun (u : World) (hb : Below w5.heap.size w5 u) => wantC cf0 (.slice (some ⟨O, 0, none⟩) 4 4) (some ⟨w4.heap.size + 1, 0, none⟩) 1 1 (fun _ => 4) (fun _ => 5) (fun _ => 0) (by omega) (fun _ _ => by omega) most0 0 0 false u (F5.out.below hb) (HT.out.below (M5.out.trans (hb.mono M5.out.size)))
  rw [want1] at K1
  rw [want0] at K0
  go_wp2_with (refine wpList_load_row_g (by kernel_rfl) 31 _ rfl w4.heap.size rfl 31 _ (0, 0) _ R5.out Tryd.underlying31 rfl (by kernel_rfl) ?_)
  refine (K1.out _ (Below.refl _ _)).mono ?_
  rintro e w6 ⟨rfl, hb⟩
  have B6 := Lib.hid hb
  have R6 := Lib.hid (R5.out.below hb (Array.getElem?_eq_some_iff.1 R5.out).1)
  clear hb
  go_wp2_with (refine wpList_load_row_g (by kernel_rfl) 31 _ rfl w4.heap.size rfl 31 _ (0, 0) _ R6.out Tryd.underlying31 rfl (by kernel_rfl) ?_)
  refine (K0.out _ B6.out).mono ?_
  rintro e w7 ⟨rfl, hb⟩
  have B7 := Lib.hid (B6.out.trans (hb.mono B6.out.size))
  have M7 := Lib.hid (M5.out.trans (B7.out.mono M5.out.size))
  have KS := Lib.hid (stepC K V 1 1 (List.replicate 1 0) 1 (by omega) (by omega) (by simp) w.heap.size KV.out.1 KV.out.2 w7 (KP.out.below B7.out))
  clear hb
  go_wp2_with fail
  refine KS.out.mono ?_
  rintro e w8 ⟨L', hL, rfl, hkp, hb⟩
  have e1 : onV 1 L' 1 = 1 := by rw [hL]; kernel_rfl
  rw [e1]
  have M8 := Lib.hid (M7.out.trans hb)
  clear hL hkp hb e1
  go_wp2_with fail
  go_returns
  exact ⟨rfl, M8.out⟩
end Go.Proofs.YtbeemfkndpandaaDoor
