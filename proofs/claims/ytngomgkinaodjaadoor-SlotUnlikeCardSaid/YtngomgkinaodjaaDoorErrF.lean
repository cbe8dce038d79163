/- An error told as plain data is that data. Conditions: the seven errors lie apart. -/
import Derived.Test.YtngomgkinaodjaaDoorErrC
import Derived.Test.YtngomgkinaodjaaDoorBox2
namespace Go.Proofs.YtngomgkinaodjaaDoor
open Go.RowKit
set_option linter.unusedVariables false
set_option maxRecDepth 20000
def faultV (c : Int) (p : Bool) (n : Int) : Value := .agg #[.int .i64 c, .bool p, .int .i64 n]
set_option maxHeartbeats 4000000 in
theorem bareC (c : Int) (w : World) : Calls Tryd.prog 37 #[.int .i64 c] w fun e w' => e = .returned (.agg #[.int .i64 c, .bool false, .int .i64 0]) ∧ Below w.heap.size w w' := by
  go_enter Tryd.func37, Tryd.ntmps37
  go_wp2_with fail
  refine bodyPost_ret (v := .agg #[.int .i64 c, .bool false, .int .i64 0]) (by simp [results, Tryd.results37, go_sem]) rfl ⟨rfl, ?_⟩
  go_grown
set_option maxHeartbeats 4000000 in
theorem placedC (c n : Int) (hc : c ≠ 0) (w : World) : Calls Tryd.prog 53 #[.int .i64 c, .int .i64 n] w fun e w' => e = .returned (.agg #[.int .i64 c, .bool true, .int .i64 n]) ∧ Below w.heap.size w w' := by
  have e0 : (c == 0) = false := by rw [beq_eq_false_iff_ne]; exact hc
  go_enter Tryd.func53, Tryd.ntmps53
  go_wp2_with fail
  refine bodyPost_ret (v := .agg #[.int .i64 c, .bool true, .int .i64 n]) (by simp [results, Tryd.results53, go_sem]) rfl ⟨rfl, ?_⟩
  go_grown
set_option maxHeartbeats 4000000 in
theorem noneF (w : World) : Calls Tryd.prog 51 #[] w fun e w' => e = .returned (.agg #[.int .i64 0, .bool false, .int .i64 0]) ∧ Below w.heap.size w w' := by
  go_enter Tryd.func51, Tryd.ntmps51
  go_wp2_with fail
  refine bodyPost_ret (v := .agg #[.int .i64 0, .bool false, .int .i64 0]) (by simp [results, Tryd.results51, go_sem]) rfl ⟨rfl, ?_⟩
  go_grown
set_option maxHeartbeats 4000000 in
theorem sameFaultC (c : Int) (p : Bool) (n : Int) (w : World) : Calls Tryd.prog 48 #[.agg #[.int .i64 c, .bool p, .int .i64 n], .agg #[.int .i64 c, .bool p, .int .i64 n]] w fun e w' => e = .returned (.bool true) ∧ Below w.heap.size w w' := by
  have e1 : (c == c) = true := by simp
  have e2 : (n == n) = true := by simp
  cases p
  all_goals
    go_enter Tryd.func48, Tryd.ntmps48
    go_wp2_with fail
    go_ret
    exact ⟨rfl, by go_grown⟩
/-- An error, as plain data. -/
inductive ErrIs (E : Nat → Addr) (w : World) : Value → Int → Bool → Int → Prop
  | fine : ErrIs E w .nilIface 0 false 0
  | bare (k : Nat) (hk : k < 7) : ErrIs E w (.iface 97 (.pointer (some (E k)))) (101 + (k : Int)) false 0
  | placed (k : Nat) (hk : k < 7) (B : Nat) (n : Int) (hr : w.heap[B]? = some (.cells #[.int .i64 n, .iface 97 (.pointer (some (E k)))] 92 (0, 0))) : ErrIs E w (.iface 88 (.pointer (some ⟨B, 0, none⟩))) (101 + (k : Int)) true n
theorem ErrIs.below {E : Nat → Addr} {w w' : World} {v : Value} {c n : Int} {p : Bool} (h : ErrIs E w v c p n) (hb : Below w.heap.size w w') : ErrIs E w' v c p n := by
  cases h with
  | fine => exact .fine
  | bare k hk => exact .bare k hk
  | placed k hk B n hr => exact .placed k hk B n ((hb.block _ (Array.getElem?_eq_some_iff.1 hr).1).trans hr)
theorem assertNo (a : Addr) (w : World) : (Instr.typeAssert (.iface 97 (.pointer (some a))) 27 88 true).run Tryd.prog w = .ok (.tuple #[.pointer none, .bool false]) w := by kernel_rfl
theorem assertYes (a : Addr) (w : World) : (Instr.typeAssert (.iface 88 (.pointer (some a))) 27 88 true).run Tryd.prog w = .ok (.tuple #[.pointer (some a), .bool true]) w := by kernel_rfl
set_option maxHeartbeats 4000000 in
theorem faultC {E : Nat → Addr} {w : World} (h : Ers E w) {v : Value} {c n : Int} {p : Bool} (he : ErrIs E w v c p n) :
    Calls Tryd.prog 49 #[v] w fun e w' => e = .returned (.agg #[.int .i64 c, .bool p, .int .i64 n]) ∧ Below w.heap.size w w' := by
  have H := Lib.hid h
  clear h
  cases he with
  | fine =>
    go_enter Tryd.func49, Tryd.ntmps49
    go_wp2_with fail
    have B1 := Lib.hid (Bx.new w #[.int .i64 0, .bool false, .int .i64 0] 73)
    generalize World.alloc w _ = W0 at *
    refine (noneF _).mono ?_
    rintro e w1 ⟨rfl, hb⟩
    have B5 := Lib.hid (B1.out.below hb)
    clear hb B1
    have x0 := B5.out.cell 0 rfl
    have x1 := B5.out.cell 1 rfl
    have x2 := B5.out.cell 2 rfl
    have xf := B5.out.froz
    go_wp2_with fail
    have B6 := Lib.hid (((B5.out.set 0 (.int .i64 (0))).set 1 (.bool false)).set 2 (.int .i64 (0)))
    clear x0 x1 x2 xf
    generalize World.setCell _ _ _ = W3 at *
    have q0 : W3.cell? ⟨w.heap.size, 0, none⟩ = some (.int .i64 (0)) := B6.out.cell 0 rfl
    have q1 : W3.cell? ⟨w.heap.size, 1, none⟩ = some (.bool false) := B6.out.cell 1 rfl
    have q2 : W3.cell? ⟨w.heap.size, 2, none⟩ = some (.int .i64 (0)) := B6.out.cell 2 rfl
    refine bodyPost_ret (v := .agg #[.int .i64 (0), .bool false, .int .i64 (0)]) (by simp [results, Tryd.results49, go_sem, q0, q1, q2]) rfl ⟨rfl, B6.out.lo⟩
  | bare k hk =>
    go_enter Tryd.func49, Tryd.ntmps49
    go_wp2_with fail
    have B1 := Lib.hid (Bx.new w #[.int .i64 0, .bool false, .int .i64 0] 73)
    generalize World.alloc w _ = W0 at *
    rw [assertNo]
    go_wp2_with fail
    refine (sentinelC (H.out.below B1.out.lo) k hk).mono ?_
    rintro e w1 ⟨rfl, hb⟩
    have B2 := Lib.hid (B1.out.below hb)
    clear hb B1
    go_wp2_with fail
    refine (bareC _ _).mono ?_
    rintro e w1 ⟨rfl, hb⟩
    have B5 := Lib.hid (B2.out.below hb)
    clear hb B2
    have x0 := B5.out.cell 0 rfl
    have x1 := B5.out.cell 1 rfl
    have x2 := B5.out.cell 2 rfl
    have xf := B5.out.froz
    go_wp2_with fail
    have B6 := Lib.hid (((B5.out.set 0 (.int .i64 (101 + (k : Int)))).set 1 (.bool false)).set 2 (.int .i64 (0)))
    clear x0 x1 x2 xf
    generalize World.setCell _ _ _ = W3 at *
    have q0 : W3.cell? ⟨w.heap.size, 0, none⟩ = some (.int .i64 (101 + (k : Int))) := B6.out.cell 0 rfl
    have q1 : W3.cell? ⟨w.heap.size, 1, none⟩ = some (.bool false) := B6.out.cell 1 rfl
    have q2 : W3.cell? ⟨w.heap.size, 2, none⟩ = some (.int .i64 (0)) := B6.out.cell 2 rfl
    refine bodyPost_ret (v := .agg #[.int .i64 (101 + (k : Int)), .bool false, .int .i64 (0)]) (by simp [results, Tryd.results49, go_sem, q0, q1, q2]) rfl ⟨rfl, B6.out.lo⟩
  | placed k hk B n hr =>
    have HR := Lib.hid hr
    clear hr
    go_enter Tryd.func49, Tryd.ntmps49
    go_wp2_with fail
    have B1 := Lib.hid (Bx.new w #[.int .i64 0, .bool false, .int .i64 0] 73)
    generalize World.alloc w _ = W0 at *
    rw [assertYes]
    have R1 := Lib.hid ((B1.out.lo.block _ (Array.getElem?_eq_some_iff.1 HR.out).1).trans HR.out)
    have r0 : W0.cell? ⟨B, 0, none⟩ = some (.int .i64 n) := cell_of_row _ _ 0 _ _ _ R1.out
    have r1 : W0.cell? ⟨B, 1, none⟩ = some (.iface 97 (.pointer (some (E k)))) := cell_of_row _ _ 1 _ _ _ R1.out
    go_upto_region 8 with fail
    have H1 := Lib.hid (H.out.below B1.out.lo)
    have hB : W0.heap.size ≤ W0.heap.size := Nat.le_refl _
    have K1 := Lib.hid fun d => sentinelC (H1.out.below (reach_below W0.heap.size W0 d)) k hk
    have K2 := Lib.hid fun (w : World) => placedC (101 + (k : Int)) n (by omega) w
    have s0 := fun d => below_cell (reach_below W0.heap.size W0 d) r0
    have s1 := fun d => below_cell (reach_below W0.heap.size W0 d) r1
    refine wp_region_tailR W0.heap.size 10 (by kernel_rfl) (by kernel_rfl) ?_
    simp only [List.take_succ_cons, List.take_zero, List.drop_succ_cons, List.drop_zero]
    repeat (go_big_quiet_step ((first | (go_at_call 52; with_reducible exact reach_call hB (K1.out _)) | (go_at_call 53; with_reducible exact reach_call hB (K2.out _)))))
    refine wpQuiet_nil ?_
    rintro w' ⟨d, rfl⟩
    have B5 := Lib.hid (B1.out.reach d)
    clear B1 s0 s1 r0 r1 R1 K1 K2 H1
    generalize reach W0.heap.size W0 d = w5 at *
    have x0 := B5.out.cell 0 rfl
    have x1 := B5.out.cell 1 rfl
    have x2 := B5.out.cell 2 rfl
    have xf := B5.out.froz
    go_wp2_with fail
    have B6 := Lib.hid (((B5.out.set 0 (.int .i64 (101 + (k : Int)))).set 1 (.bool true)).set 2 (.int .i64 (n)))
    clear x0 x1 x2 xf
    generalize World.setCell _ _ _ = W3 at *
    have q0 : W3.cell? ⟨w.heap.size, 0, none⟩ = some (.int .i64 (101 + (k : Int))) := B6.out.cell 0 rfl
    have q1 : W3.cell? ⟨w.heap.size, 1, none⟩ = some (.bool true) := B6.out.cell 1 rfl
    have q2 : W3.cell? ⟨w.heap.size, 2, none⟩ = some (.int .i64 (n)) := B6.out.cell 2 rfl
    refine bodyPost_ret (v := .agg #[.int .i64 (101 + (k : Int)), .bool true, .int .i64 (n)]) (by simp [results, Tryd.results49, go_sem, q0, q1, q2]) rfl ⟨rfl, B6.out.lo⟩
set_option maxHeartbeats 4000000 in
theorem sameC {E : Nat → Addr} {w : World} (h : Ers E w) {v : Value} {c n : Int} {p : Bool} (he : ErrIs E w v c p n) :
    Calls Tryd.prog 36 #[v, .agg #[.int .i64 c, .bool p, .int .i64 n]] w fun e w' => e = .returned (.bool true) ∧ Below w.heap.size w w' := by
  have H := Lib.hid h
  have HE := Lib.hid he
  clear h he
  go_enter Tryd.func36, Tryd.ntmps36
  go_upto_region 1 with fail
  have B1 := Lib.hid (Bx.new w #[.int .i64 c, .bool p, .int .i64 n] 73)
  generalize World.alloc w _ = W at *
  have hB : W.heap.size ≤ W.heap.size := Nat.le_refl _
  have H1 := Lib.hid (H.out.below B1.out.lo)
  have E1 := Lib.hid (HE.out.below B1.out.lo)
  have K1 := Lib.hid fun d => faultC (H1.out.below (reach_below W.heap.size W d)) (E1.out.below (reach_below W.heap.size W d))
  have K2 := Lib.hid fun (w : World) => sameFaultC c p n w
  have s0 := fun d => below_cell (reach_below W.heap.size W d) (show W.cell? ⟨w.heap.size, 0, none⟩ = some (.int .i64 c) from B1.out.cell 0 rfl)
  have s1 := fun d => below_cell (reach_below W.heap.size W d) (show W.cell? ⟨w.heap.size, 1, none⟩ = some (.bool p) from B1.out.cell 1 rfl)
  have s2 := fun d => below_cell (reach_below W.heap.size W d) (show W.cell? ⟨w.heap.size, 2, none⟩ = some (.int .i64 n) from B1.out.cell 2 rfl)
  refine wp_region_reach W.heap.size (by kernel_rfl) (by kernel_rfl) ?_
  repeat (go_big_quiet_step ((first | (go_at_call 49; with_reducible exact reach_call hB (K1.out _)) | (go_at_call 48; with_reducible exact reach_call hB (K2.out _)))))
  refine wpQuiet_nil ?_
  rintro w' ⟨d, rfl⟩
  go_wp2_with fail
  go_returns
  exact ⟨rfl, (B1.out.reach d).lo⟩
end Go.Proofs.YtngomgkinaodjaaDoor
