/- What charge a battery's volts say. Conditions: the numbers are small, the table is right. -/
import Derived.Test.YtakdoagigbjngaaDoorSag
import Derived.Test.YtakdoagigbjngaaDoorBox3
namespace Go.Proofs.YtakdoagigbjngaaDoor
open Go.RowKit
set_option linter.unusedVariables false
set_option maxHeartbeats 4000000 in
theorem sagChargeYes (A : Array Value) (v amp e : Int) (a : Addr) (n cap : Nat) (x y : Nat → Int) (T : TabOk n x y) (hs : A.size = 27) (g9 : A[9]? = some (.int .i64 10000)) (g16 : A[16]? = some (.int .i64 20)) (g17 : A[17]? = some (.int .i64 e)) (g20 : A[20]? = some (.slice (some a) n cap))
    (hv : 10000 ≤ v ∧ v ≤ 1048576) (ha : -1048576 ≤ amp ∧ amp ≤ 1048576) (he : 0 ≤ e ∧ e ≤ 1048576) (w : World) (hp : Pts w a n x y) :
    Calls Tryd.prog 13 #[.agg A, .agg #[.int .i64 v, .bool true], .agg #[.int .i64 amp, .bool true]] w fun e2 w' => e2 = .returned (.tuple #[.agg #[.int .i64 (backLo n x y (restL v amp e)), .int .i64 (backHi n x y (restH v amp e))], .bool true]) ∧ Below w.heap.size w w' := by
  have g9b : decide (v < 10000) = false := decide_eq_false (by omega)
  have hi : (Tryd.prog.info? 28).map (·.size) = some A.size := by rw [hs]; kernel_rfl
  have n2 := T.n2
  obtain ⟨m, rfl⟩ : ∃ m, n = m + 1 := ⟨n - 1, by omega⟩
  have rf := rest_facts v amp e ha
  have rle : restL v amp e ≤ restH v amp e := by unfold restL restH; omega
  obtain ⟨bm1, bm2⟩ := back_mono T rle
  have e1 : min (backLo (m + 1) x y (restL v amp e)) (backLo (m + 1) x y (restH v amp e)) = backLo (m + 1) x y (restL v amp e) := by omega
  have e2 : max (backHi (m + 1) x y (restL v amp e)) (backHi (m + 1) x y (restH v amp e)) = backHi (m + 1) x y (restH v amp e) := by omega
  clear bm1 bm2 rle rf
  have KH := Lib.hid fun (w : World) => spanHull (backLo (m + 1) x y (restL v amp e)) (backHi (m + 1) x y (restL v amp e)) (backLo (m + 1) x y (restH v amp e)) (backHi (m + 1) x y (restH v amp e)) w
  rw [e1, e2] at KH
  clear e1 e2
  have H := Lib.hid hp
  have T1 := Lib.hid T
  clear hp T
  go_enter Tryd.func13, Tryd.ntmps13
  go_upto_region 1 with fail
  have B0 := Lib.hid (Bx4.new w A 28 #[.int .i64 v, .bool true] 23 #[.int .i64 amp, .bool true] 23 #[.int .i64 0, .int .i64 0] 31)
  generalize World.alloc (World.alloc (World.alloc (World.alloc w _) _) _) _ = W0 at *
  have a9 := B0.out.c0 9 g9
  have v0 := B0.out.c1 0 rfl
  have v1 := B0.out.c1 1 rfl
  have u0 := B0.out.c2 0 rfl
  have u1 := B0.out.c2 1 rfl
  go_wp2_with (refine wpList_load_row_g (by kernel_rfl) 28 _ rfl w.heap.size rfl 28 _ (0, 0) _ B0.out.r0 Tryd.underlying28 rfl hi ?_)
  refine (sagRestC A v amp e g16 g17 (by omega) ha he _).mono ?_
  rintro e2 w1 ⟨rfl, hb⟩
  have B1 := Lib.hid (B0.out.below hb)
  clear hb B0 a9 v0 v1 u0 u1
  go_wp2_with fail
  have B2 := Lib.hid (B1.out.below ((Below.refl _ _).alloc (Nat.le_refl _) (.cells #[.int .i64 (restL v amp e), .int .i64 (restH v amp e)] 31)))
  have R2 := Lib.hid (Bx.new w1 #[.int .i64 (restL v amp e), .int .i64 (restH v amp e)] 31)
  clear B1
  generalize World.alloc w1 _ = W at *
  have P2 := Lib.hid (H.out.below B2.out.lo)
  have hB : W.heap.size ≤ W.heap.size := Nat.le_refl _
  have K1 := Lib.hid fun d => backC a (m + 1) cap x y (restL v amp e) T1.out (reach W.heap.size W d) (P2.out.below (reach_below W.heap.size W d))
  have K2 := Lib.hid fun d => backC a (m + 1) cap x y (restH v amp e) T1.out (reach W.heap.size W d) (P2.out.below (reach_below W.heap.size W d))
  have s0 := fun d => below_cell (reach_below W.heap.size W d) (R2.out.cell 0 rfl)
  have s1 := fun d => below_cell (reach_below W.heap.size W d) (R2.out.cell 1 rfl)
  have se := fun d => below_cell (reach_below W.heap.size W d) (B2.out.c0 20 g20)
  refine wp_region_tailR W.heap.size 11 (by kernel_rfl) (by kernel_rfl) ?_
  simp only [List.take_succ_cons, List.take_zero, List.drop_succ_cons, List.drop_zero]
  repeat (go_big_quiet_step ((first | (go_at_call 32; first | with_reducible exact reach_call hB (K1.out _) | with_reducible exact reach_call hB (K2.out _)) | (go_at_call 31; with_reducible exact reach_call hB (KH.out _)))))
  refine wpQuiet_nil ?_
  rintro w' ⟨d, rfl⟩
  have B5 := Lib.hid (B2.out.reach d)
  clear s0 s1 se B2 R2 K1 K2 KH P2
  generalize reach W.heap.size W d = w5 at *
  have x0 := B5.out.c3 0 rfl
  have x1 := B5.out.c3 1 rfl
  have xf := B5.out.froz
  obtain ⟨bl, hbl⟩ : ∃ p, backLo (m + 1) x y (restL v amp e) = p := ⟨_, rfl⟩
  obtain ⟨bh, hbh⟩ : ∃ p, backHi (m + 1) x y (restH v amp e) = p := ⟨_, rfl⟩
  rw [hbl, hbh]
  have QL := Lib.hid hbl
  have QH := Lib.hid hbh
  clear hbl hbh
  go_wp2_with fail
  have B6 := Lib.hid ((B5.out.set 0 (.int .i64 bl)).set 1 (.int .i64 bh))
  clear x0 x1 xf
  generalize World.setCell _ _ _ = W3 at *
  have q0 : W3.cell? ⟨w.heap.size + 1 + 1 + 1, 0, none⟩ = some (.int .i64 bl) := B6.out.c3 0 rfl
  have q1 : W3.cell? ⟨w.heap.size + 1 + 1 + 1, 1, none⟩ = some (.int .i64 bh) := B6.out.c3 1 rfl
  refine bodyPost_ret (v := .tuple #[.agg #[.int .i64 bl, .int .i64 bh], .bool true]) (by simp [results, Tryd.results13, go_sem, q0, q1]) rfl ⟨by rw [QL.out, QH.out], B6.out.lo⟩
end Go.Proofs.YtakdoagigbjngaaDoor
