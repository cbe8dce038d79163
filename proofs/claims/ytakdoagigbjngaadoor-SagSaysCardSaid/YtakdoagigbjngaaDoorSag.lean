/- What volts a battery stands at without load, what charge they say. Conditions: the numbers are small, the table is right. -/
import Derived.Test.YtakdoagigbjngaaDoorTabF
import Derived.Test.YtakdoagigbjngaaDoorBox2
namespace Go.Proofs.YtakdoagigbjngaaDoor
open Go.RowKit
set_option linter.unusedVariables false
def restL (v amp e : Int) : Int := v + downI (amp * 20) 1000 - e
def restH (v amp e : Int) : Int := v + upI (amp * 20) 1000 + e
theorem rest_facts (v amp e : Int) (ha : -1048576 ≤ amp ∧ amp ≤ 1048576) : -20972 ≤ downI (amp * 20) 1000 ∧ downI (amp * 20) 1000 ≤ upI (amp * 20) 1000 ∧ upI (amp * 20) 1000 ≤ 20972 := by
  have h := down_facts (amp * 20) 1000 (by omega)
  have := down_le_up (amp * 20) 1000 (by omega)
  omega
set_option maxHeartbeats 4000000 in
theorem sagRestC (A : Array Value) (v amp e : Int) (g16 : A[16]? = some (.int .i64 20)) (g17 : A[17]? = some (.int .i64 e)) (hv : -1048576 ≤ v ∧ v ≤ 1048576) (ha : -1048576 ≤ amp ∧ amp ≤ 1048576) (he : 0 ≤ e ∧ e ≤ 1048576) (w : World) :
    Calls Tryd.prog 16 #[.agg A, .int .i64 v, .int .i64 amp] w fun e2 w' => e2 = .returned (.agg #[.int .i64 (restL v amp e), .int .i64 (restH v amp e)]) ∧ Below w.heap.size w w' := by
  have rf := rest_facts v amp e ha
  have KM := Lib.hid fun (w : World) => show Calls Tryd.prog 35 #[.int .i64 amp, .int .i64 20] w fun e w' => e = .returned (.int .i64 (amp * 20)) ∧ w = w' by
    have := fixedMul amp 20 (by unfold I64; omega) (by unfold I64; omega) w
    rwa [satId _ (by unfold I64; omega)] at this
  have KO := Lib.hid fun (w : World) => spanOf' (amp * 20) (amp * 20) (amp * 20) (amp * 20) (by omega) (by omega) w
  have KS := Lib.hid fun (w : World) => spanShrink (amp * 20) (amp * 20) 1000 (by unfold I64; omega) (by unfold I64; omega) w
  have KV := Lib.hid fun (w : World) => spanOf' v v v v (by omega) (by omega) w
  have KA := Lib.hid fun (w : World) => show Calls Tryd.prog 39 #[.agg #[.int .i64 v, .int .i64 v], .agg #[.int .i64 (downI (amp * 20) 1000), .int .i64 (upI (amp * 20) 1000)]] w fun e w' => e = .returned (.agg #[.int .i64 (v + downI (amp * 20) 1000), .int .i64 (v + upI (amp * 20) 1000)]) ∧ Below w.heap.size w w' by
    have := spanAdd v v (downI (amp * 20) 1000) (upI (amp * 20) 1000) (by unfold I64; omega) (by unfold I64; omega) (by unfold I64; omega) (by unfold I64; omega) w
    rwa [satId _ (by unfold I64; omega), satId _ (by unfold I64; omega)] at this
  have KW := Lib.hid fun (w : World) => show Calls Tryd.prog 38 #[.agg #[.int .i64 (v + downI (amp * 20) 1000), .int .i64 (v + upI (amp * 20) 1000)], .int .i64 e] w fun e2 w' => e2 = .returned (.agg #[.int .i64 (restL v amp e), .int .i64 (restH v amp e)]) ∧ Below w.heap.size w w' by
    have := spanWiden (v + downI (amp * 20) 1000) (v + upI (amp * 20) 1000) e (by unfold I64; omega) (by unfold I64; omega) (by unfold I64; omega) w
    rw [satId _ (by unfold I64; omega), satId _ (by unfold I64; omega), show max e 0 = e by omega] at this
    exact this
  generalize downI (amp * 20) 1000 = dn at *
  generalize upI (amp * 20) 1000 = up at *
  go_enter Tryd.func16, Tryd.ntmps16
  go_wp2_with fail
  have B0 := Lib.hid (Bx2.new w A 28 #[.int .i64 0, .int .i64 0] 31)
  generalize World.alloc (World.alloc w _) _ = W0 at *
  refine (KM.out _).mono ?_
  rintro e2 w1 ⟨rfl, rfl⟩
  go_wp2_with fail
  refine (KO.out _).mono ?_
  rintro e2 w1 ⟨rfl, hb⟩
  have B1 := Lib.hid (B0.out.below hb)
  clear hb B0
  go_wp2_with fail
  refine (KS.out _).mono ?_
  rintro e2 w2 ⟨rfl, hb⟩
  have B2 := Lib.hid (B1.out.below hb)
  clear hb B1
  go_upto_region 3 with fail
  have B3 := Lib.hid (B2.out.below ((Below.refl _ _).alloc (Nat.le_refl _) (.cells #[.int .i64 dn, .int .i64 up] 31)))
  have R3 := Lib.hid (Bx.new w2 #[.int .i64 dn, .int .i64 up] 31)
  clear B2
  generalize World.alloc w2 _ = W at *
  have hB : W.heap.size ≤ W.heap.size := Nat.le_refl _
  have s0 := fun d => below_cell (reach_below W.heap.size W d) (R3.out.cell 0 rfl)
  have s1 := fun d => below_cell (reach_below W.heap.size W d) (R3.out.cell 1 rfl)
  have se := fun d => below_cell (reach_below W.heap.size W d) (B3.out.cell1 17 g17)
  refine wp_region_tailR W.heap.size 8 (by kernel_rfl) (by kernel_rfl) ?_
  simp only [List.take_succ_cons, List.take_zero, List.drop_succ_cons, List.drop_zero]
  repeat (go_big_quiet_step ((first | (go_at_call 37; with_reducible exact reach_call hB (KV.out _)) | (go_at_call 39; with_reducible exact reach_call hB (KA.out _)) | (go_at_call 38; with_reducible exact reach_call hB (KW.out _)))))
  refine wpQuiet_nil ?_
  rintro w' ⟨d, rfl⟩
  have B5 := Lib.hid (B3.out.reach d)
  clear s0 s1 se B3 R3 KV KA KW KM KO KS
  generalize reach W.heap.size W d = w5 at *
  have x0 := B5.out.cell2 0 rfl
  have x1 := B5.out.cell2 1 rfl
  have xf := B5.out.froz2
  go_wp2_with fail
  have B6 := Lib.hid ((B5.out.set2 0 (.int .i64 (restL v amp e))).set2 1 (.int .i64 (restH v amp e)))
  clear x0 x1 xf
  generalize World.setCell _ _ _ = W3 at *
  have q0 : W3.cell? ⟨w.heap.size + 1, 0, none⟩ = some (.int .i64 (restL v amp e)) := B6.out.cell2 0 rfl
  have q1 : W3.cell? ⟨w.heap.size + 1, 1, none⟩ = some (.int .i64 (restH v amp e)) := B6.out.cell2 1 rfl
  refine bodyPost_ret (v := .agg #[.int .i64 (restL v amp e), .int .i64 (restH v amp e)]) (by simp [results, Tryd.results16, go_sem, q0, q1]) rfl ⟨rfl, B6.out.lo⟩
end Go.Proofs.YtakdoagigbjngaaDoor
