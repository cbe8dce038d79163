/- Which feeders are wanted, what they take, which chargers may charge: what the document says. Conditions: the table of ends lies as the text lays it. -/
import Derived.Test.YtbeemfkndpandaaDoorShedY
import Derived.Test.YtbeemfkndpandaaDoorShedZ
namespace Go.Proofs.YtbeemfkndpandaaDoor
open Go Go.RowKit
set_option linter.unusedVariables false
set_option maxRecDepth 20000
theorem mostCB {c : CF} : ∀ s, s < 4 → 0 ≤ mostV c.cg s ∧ mostV c.cg s ≤ 1073741824 := by
  intro s hs
  rcases (show s = 0 ∨ s = 1 ∨ s = 2 ∨ s = 3 by omega) with rfl | rfl | rfl | rfl <;> first | exact ⟨show (0 : Int) ≤ 3000 by omega, show (3000 : Int) ≤ 1073741824 by omega⟩ | exact ⟨show (0 : Int) ≤ 500 by omega, show (500 : Int) ≤ 1073741824 by omega⟩
set_option maxHeartbeats 16000000 in
theorem walkShedSays (a0 : Int) (a1 : Int) (a2 : Int) (a3 : Int) (a4 : Int) (a5 : Int) (a6 : Int) (a7 : Bool) (a8_0 : Bool) (a8_1 : Bool) (a9_0 : Int) (a9_1 : Int) (a10_0 : Int) (a10_1 : Int) (a10_2 : Int) (a10_3 : Int) (w : World) (w0 : (Lit.int .i64 a0).wf = true) (w1 : (Lit.int .i64 a1).wf = true) (w2 : (Lit.int .i64 a2).wf = true) (w3 : (Lit.int .i64 a3).wf = true) (w4 : (Lit.int .i64 a4).wf = true) (w5 : (Lit.int .i64 a5).wf = true) (w6 : (Lit.int .i64 a6).wf = true) (w9_0 : (Lit.int .i64 a9_0).wf = true) (w9_1 : (Lit.int .i64 a9_1).wf = true) (w10_0 : (Lit.int .i64 a10_0).wf = true) (w10_1 : (Lit.int .i64 a10_1).wf = true) (w10_2 : (Lit.int .i64 a10_2).wf = true) (w10_3 : (Lit.int .i64 a10_3).wf = true) (hT : Tab w) :
    Calls Tryd.prog 3 #[.int .i64 a0, .int .i64 a1, .int .i64 a2, .int .i64 a3, .int .i64 a4, .int .i64 a5, .int .i64 a6, .bool a7, .agg #[.bool a8_0, .bool a8_1], .agg #[.int .i64 a9_0, .int .i64 a9_1], .agg #[.int .i64 a10_0, .int .i64 a10_1, .int .i64 a10_2, .int .i64 a10_3]] w fun e w' => e = .returned (.bool true) ∧ Below w.heap.size w w' := by
  have HT := Lib.hid hT
  clear w0 w1 w2 w3 w4 w5 w6 w9_0 w9_1 w10_0 w10_1 w10_2 w10_3 hT
  go_enter Tryd.func3, Tryd.ntmps3
  go_upto_region 1 with fail
  have BA := Lib.hid (Bx3.new w #[.bool a8_0, .bool a8_1] 22 #[.int .i64 a9_0, .int .i64 a9_1] 23 #[.int .i64 a10_0, .int .i64 a10_1, .int .i64 a10_2, .int .i64 a10_3] 26)
  generalize World.alloc (World.alloc (World.alloc w _) _) _ = W at *
  go_wp2_with fail
  refine (first25 W (HT.out.below BA.out.lo)).mono ?_
  rintro e wa ⟨rfl, hba⟩
  have BB := Lib.hid (BA.out.below hba)
  clear hba BA
  go_wp2_with fail
  refine (configF a0 a1 a2 wa).mono ?_
  rintro e w4 ⟨O, fa, fc, rfl, hO, ho, hf, hb⟩
  have BC := Lib.hid (BB.out.below hb)
  have hn : (a1 % 1048576 / 20 % 7).toNat ≤ 6 := by omega
  have F4 := Lib.hid hf.g
  have LB := Lib.hid (loB (a2 % 1048576) (by omega) (a1 % 1048576 / 20 % 7).toNat)
  have MB := Lib.hid (mostCB (c := cfgOf (a0 % 1048576) (a1 % 1048576) (a2 % 1048576)))
  unfold cfgV
  rw [cgA_of]
  clear hb ho hf hO BB
  generalize (a1 % 1048576 / 20 % 7).toNat = n at *
  have RWN := Lib.hid fun (ok : Nat → Nat → Bool) (lo : Nat → Int) (mo : Nat → Int) => ref_want ok lo mo (a2 % 1048576) n hn 4
  generalize (cfgOf (a0 % 1048576) (a1 % 1048576) (a2 % 1048576)).cg = c at *
  generalize busI (a2 % 1048576) = bu at *
  generalize loadI (a2 % 1048576) = lo at *
  generalize prioI (a2 % 1048576) = pr at *
  go_wp2_with fail
  refine upon_fresh (by simp) rfl (by kernel_rfl) ?_
  intro W1 b1 s1 h1
  have R8 := Lib.hid (show Rw W1 w4.heap.size c (.slice (some ⟨O, 0, none⟩) 4 4) (.slice fa n fc) from h1)
  have BD := Lib.hid (BC.out.below b1)
  have F1 := Lib.hid (F4.out.below b1)
  have hlt := Lib.hid (show w4.heap.size < W1.heap.size by omega)
  clear h1 b1 s1 F4 BC
  go_upto_region 5 with fail
  have hBB : W1.heap.size ≤ W1.heap.size := Nat.le_refl _
  have RB := Lib.hid fun d => reach_below W1.heap.size W1 d
  obtain ⟨VW, hVW⟩ : ∃ v, wantN (okW a4 a7 a3 bu pr) lo (mostV c) (ordL pr n) 4 = v := ⟨_, rfl⟩
  obtain ⟨VL, hVL⟩ : ∃ v, loadN (okG a5 a3 bu a6) lo n = v := ⟨_, rfl⟩
  obtain ⟨VC, hVC⟩ : ∃ v, chV (okC (fv (BitVec.ofInt 7 a3) 4) a8_0 a9_0 a10_1 c.Cap) (okC (fv (BitVec.ofInt 7 a3) 5) a8_1 a9_1 a10_3 c.Cap) = v := ⟨_, rfl⟩
  have K1 := Lib.hid fun d => wantC c (.slice (some ⟨O, 0, none⟩) 4 4) fa n fc bu lo pr hn LB.out MB.out a3 a4 a7 (reach W1.heap.size W1 d) (F1.out.below (RB.out d)) (HT.out.below (BD.out.below (RB.out d)).lo)
  have K2 := Lib.hid fun d => refWantC c (.slice (some ⟨O, 0, none⟩) 4 4) fa n fc bu lo pr hn LB.out MB.out a3 a4 a7 (reach W1.heap.size W1 d) (F1.out.below (RB.out d))
  rw [hVW] at K1
  rw [RWN.out, hVW] at K2
  have K3 := Lib.hid (show ∀ d, Calls Tryd.prog 18 #[.agg (cgA c (.slice (some ⟨O, 0, none⟩) 4 4) (.slice fa n fc)), .int .i64 a5, .int .i64 a3, .int .i64 a6] (reach W1.heap.size W1 d) fun e w' => e = .returned (.int .i64 VL) ∧ Below (reach W1.heap.size W1 d).heap.size (reach W1.heap.size W1 d) w' by
    intro d
    by_cases q : a6 < 0 ∨ 3 < a6
    · have := loadOut c (.slice (some ⟨O, 0, none⟩) 4 4) (.slice fa n fc) a5 a3 a6 q (reach W1.heap.size W1 d)
      rwa [← hVL, load_out a5 a3 bu lo n a6 q]
    · obtain ⟨s, hs⟩ : ∃ s : Nat, a6 = s := ⟨a6.toNat, by omega⟩
      subst hs
      have := loadC c (.slice (some ⟨O, 0, none⟩) 4 4) fa n fc bu lo pr hn LB.out a5 a3 s (by omega) (reach W1.heap.size W1 d) (F1.out.below (RB.out d)) (HT.out.below (BD.out.below (RB.out d)).lo)
      rwa [← hVL, load_same])
  have K4 := Lib.hid fun d => refLoadC c (.slice (some ⟨O, 0, none⟩) 4 4) fa n fc bu lo pr hn LB.out a5 a3 a6 (reach W1.heap.size W1 d) (F1.out.below (RB.out d))
  rw [hVL] at K4
  have K5 := Lib.hid fun d => chargersC c (.slice (some ⟨O, 0, none⟩) 4 4) (.slice fa n fc) a3 a8_0 a8_1 a9_0 a9_1 a10_0 a10_1 a10_2 a10_3 (reach W1.heap.size W1 d) (HT.out.below (BD.out.below (RB.out d)).lo)
  have K6 := Lib.hid fun d => refChargersC c (.slice (some ⟨O, 0, none⟩) 4 4) (.slice fa n fc) a3 a8_0 a8_1 a9_0 a9_1 a10_0 a10_1 a10_2 a10_3 (reach W1.heap.size W1 d)
  rw [hVC] at K5 K6
  have HGc := Lib.hid (fun (w' : World) (hw : ∃ d, w' = reach W1.heap.size W1 d) => (show w'.heap[w4.heap.size]? = some (.cells (cgA c (.slice (some ⟨O, 0, none⟩) 4 4) (.slice fa n fc)) 31 (0, 0)) by obtain ⟨d, rfl⟩ := hw; exact ((RB.out d).block _ hlt.out).trans R8.out))
  have HGu := Lib.hid (fun (w' : World) (hw : ∃ d, w' = reach W1.heap.size W1 d) => (show w'.heap[w.heap.size]? = some (.cells #[.bool a8_0, .bool a8_1] 22 (0, 0)) by obtain ⟨d, rfl⟩ := hw; exact (BD.out.below (RB.out d)).r0))
  have HGf := Lib.hid (fun (w' : World) (hw : ∃ d, w' = reach W1.heap.size W1 d) => (show w'.heap[w.heap.size + 1]? = some (.cells #[.int .i64 a9_0, .int .i64 a9_1] 23 (0, 0)) by obtain ⟨d, rfl⟩ := hw; exact (BD.out.below (RB.out d)).r1))
  have HGq := Lib.hid (fun (w' : World) (hw : ∃ d, w' = reach W1.heap.size W1 d) => (show w'.heap[w.heap.size + 1 + 1]? = some (.cells #[.int .i64 a10_0, .int .i64 a10_1, .int .i64 a10_2, .int .i64 a10_3] 26 (0, 0)) by obtain ⟨d, rfl⟩ := hw; exact (BD.out.below (RB.out d)).r2))
  have e1 : (VW == VW) = true := by simp
  have e2 : (VL == VL) = true := by simp
  have e3 : (VC == VC) = true := by simp
  clear hVW hVL hVC hn
  dsimp only [Act.put]
  refine wp_region_reach W1.heap.size (by kernel_rfl) (by kernel_rfl) ?_
  repeat (first
    | (go_big_quiet_want; refine quiet_load_row 31 _ rfl (w4.heap.size) rfl 31 _ (0, 0) _ HGc.out Tryd.underlying31 rfl (by kernel_rfl) ?_; go_big_quiet_on; simp only [Act.put, List.setIfInBounds_toArray, List.set_cons_succ, List.set_cons_zero])
    | (go_big_quiet_want; refine quiet_load_row 22 _ rfl (w.heap.size) rfl 22 _ (0, 0) _ HGu.out Tryd.underlying22 rfl (by kernel_rfl) ?_; go_big_quiet_on; simp only [Act.put, List.setIfInBounds_toArray, List.set_cons_succ, List.set_cons_zero])
    | (go_big_quiet_want; refine quiet_load_row 23 _ rfl (w.heap.size + 1) rfl 23 _ (0, 0) _ HGf.out Tryd.underlying23 rfl (by kernel_rfl) ?_; go_big_quiet_on; simp only [Act.put, List.setIfInBounds_toArray, List.set_cons_succ, List.set_cons_zero])
    | (go_big_quiet_want; refine quiet_load_row 26 _ rfl (w.heap.size + 1 + 1) rfl 26 _ (0, 0) _ HGq.out Tryd.underlying26 rfl (by kernel_rfl) ?_; go_big_quiet_on; simp only [Act.put, List.setIfInBounds_toArray, List.set_cons_succ, List.set_cons_zero])
    | go_big_quiet_step ((first | (go_at_call 16; with_reducible exact reach_call hBB (K1.out _)) | (go_at_call 17; with_reducible exact reach_call hBB (K2.out _)) | (go_at_call 18; with_reducible exact reach_call hBB (K3.out _)) | (go_at_call 19; with_reducible exact reach_call hBB (K4.out _)) | (go_at_call 20; with_reducible exact reach_call hBB (K5.out _)) | (go_at_call 21; with_reducible exact reach_call hBB (K6.out _)))))
  refine wpQuiet_nil ?_
  rintro w' ⟨d, rfl⟩
  have LZ := Lib.hid (BD.out.below (RB.out d)).lo
  clear HGc HGu HGf HGq K1 K2 K3 K4 K5 K6 RB
  generalize reach W1.heap.size W1 d = w9 at *
  go_wp2_with fail
  go_returns
  exact ⟨rfl, LZ.out⟩
end Go.Proofs.YtbeemfkndpandaaDoor
