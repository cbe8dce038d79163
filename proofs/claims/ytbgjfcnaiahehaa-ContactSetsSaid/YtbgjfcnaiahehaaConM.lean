/- ContactFresh and ContactSets hold: each call returns true. Conditions: the arguments are numbers of 64 bits, bools and slices of bools. -/
import Derived.Test.YtbgjfcnaiahehaaConH
namespace Go.Proofs.Ytbgjfcnaiahehaa
open Go.RowKit
set_option linter.unusedVariables false
theorem Only.drew (B : Nat) (w : World) : Only B w w.drew := .of_below B (Below.refl _ _).drew
/-- One that has seen nothing. -/
def Dull (k : CK) : Prop := -2 ≤ k.s ∧ k.s ≤ 1000 ∧ k.g = 0 ∧ k.p = false ∧ k.q = false
theorem Dull.step {k : CK} (h : Dull k) (t : Bool) (v : Int) : Dull (k.step t v false) := by
  obtain ⟨h1, h2, h3, h4, h5⟩ := h
  obtain ⟨r1, r2, _, _, _, _⟩ := k.run t v false h1 h2 (by omega)
  obtain ⟨b1, b2, _, _, b5⟩ := k.blind t v h3
  exact ⟨r1, r2, b5, b1.trans h4, b2.trans h5⟩
set_option maxRecDepth 100000 in
set_option maxHeartbeats 4000000 in
theorem walkContactFresh (a0 a1 : Int) (a2 : Option Addr) (len2 cap2 : Nat) (z2 : Nat → Bool) (a3 : Bool) (w : World) (_w0 : (Lit.int .i64 a0).wf = true) (_w1 : (Lit.int .i64 a1).wf = true) (w2 : CameB w a2 len2 cap2 z2) :
    Calls Try.prog 5 #[.int .i64 a0, .int .i64 a1, .slice a2 len2 cap2, .bool a3] w fun e w' => e = .returned (.bool true) ∧ Below w.heap.size w w' := by
  have C1 := Lib.hid fun i hi => w2.at i hi
  clear w2 _w0 _w1
  by_cases h1 : 100 < len2
  · go_enter Try.func5, Try.ntmps5
    go_wp2_with fail
    refine (first16 _).mono ?_
    rintro e w0 ⟨rfl, hb0⟩
    have T0 := Lib.hid hb0
    clear hb0
    go_wp2_with fail
    go_ret
    exact ⟨rfl, T0.out⟩
  cases a3
  · go_enter Try.func5, Try.ntmps5
    go_wp2_with fail
    refine (first16 _).mono ?_
    rintro e w0 ⟨rfl, hb0⟩
    have T0 := Lib.hid hb0
    clear hb0
    go_wp2_with fail
    refine (newC a0 a1 _).mono ?_
    rintro e w1 ⟨rfl, H1, hb⟩
    have F1 := Lib.hid H1
    have T1 := Lib.hid (T0.out.trans (hb.mono T0.out.size))
    have SB := Lib.hid T0.out.size
    clear H1 hb T0
    generalize w0.heap.size = B at *
    have LB := Lib.hid F1.out.lt
    have NS := Lib.hid (Sm.new w1 0 false)
    have F2 := Lib.hid (F1.out.alloc (.cells #[.int .i64 0, .bool false] 27))
    have T2 := Lib.hid (T1.out.alloc T1.out.size (.cells #[.int .i64 0, .bool false] 27))
    clear F1 T1
    go_wp2_with fail
    generalize w1.heap.size = S at *
    have NE := Lib.hid (Nat.ne_of_gt LB.out)
    go_loopw [12] (fun v wr => ∃ i : Nat, ∃ k : CK, i ≤ len2 ∧ v = .int .i64 i ∧ Dull k ∧ Ct wr B k ∧ Sm wr S 0 false ∧ Below w.heap.size w wr) (fun v _ => len2 - (intOf v).toNat)
    case atStart => exact ⟨0, _, by omega, rfl, ⟨show (-2 : Int) ≤ -2 by omega, show (-2 : Int) ≤ 1000 by omega, rfl, rfl, rfl⟩, F2.out, NS.out, T2.out⟩
    case round =>
      obtain ⟨i, k, hi, rfl, hk, hf, hn, hb⟩ := hrel
      clear F2 NS T2
      have F := Lib.hid hf
      have M := Lib.hid hn
      have T := Lib.hid hb
      have KK := Lib.hid hk
      clear hf hn hb hk
      by_cases hl : i < len2
      · obtain ⟨x1, rfl, c1⟩ := C1.out i hl
        have c2 : wr.drew.cell? (x1.add i) = some (.bool (z2 i)) := below_cell T.out.drew c1
        have m0 : wr.drew.cell? ⟨S, 0, none⟩ = some (.int .i64 0) := M.out.cells.1
        have m1 : wr.drew.cell? ⟨S, 1, none⟩ = some (.bool false) := M.out.cells.2.1
        generalize z2 i = x at *
        have KS := Lib.hid (stepC B k x 0 false KK.out.1 KK.out.2.1 (by have := KK.out.2.2.1; omega) (by have := KK.out.2.2.1; omega) wr.drew F.out.drew)
        have KD := Lib.hid (KK.out.step x 0)
        have KB := Lib.hid (k.blind x 0 KK.out.2.2.1)
        clear c1
        go_wp2_with fail
        refine wp_region_still_tail 6 (by kernel_rfl) (by kernel_rfl) ?_
        change wpStill _ _ (World.drew _) (fun a' => wpList _ _ _ _ a' (World.drew _)) _ _
        simp only [List.take_succ_cons, List.take_zero, List.drop_succ_cons, List.drop_zero]
        repeat still_step
        refine wpStill_nil ?_
        clear c2 m0 m1
        go_wp2_with fail
        refine KS.out.mono ?_
        rintro e w5 ⟨rfl, H5, hb⟩
        have F5 := Lib.hid H5
        have M5 := Lib.hid ((show Sm wr.drew S 0 false from M.out).only hb NE.out)
        have T5 := Lib.hid ((T.out.drew).trans (hb.below SB.out T.out.drew.size))
        clear H5 hb
        go_wp2_with fail
        refine (jamC B _ _ F5.out).mono ?_
        rintro e w6 ⟨he, hb⟩
        rw [KD.out.2.2.2.1, KD.out.2.2.2.2] at he
        subst he
        have F6 := Lib.hid (F5.out.below hb)
        have M6 := Lib.hid (M5.out.below hb)
        have T6 := Lib.hid (T5.out.trans (hb.mono T5.out.size))
        clear hb F5 M5 T5
        go_wp2_with fail
        refine (openC B _ _ F6.out).mono ?_
        rintro e w7 ⟨he, hb⟩
        rw [KB.out.2.2.1] at he
        subst he
        have F7 := Lib.hid (F6.out.below hb)
        have M7 := Lib.hid (M6.out.below hb)
        have T7 := Lib.hid (T6.out.trans (hb.mono T6.out.size))
        clear hb F6 M6 T6
        go_wp2_with fail
        refine (closedC B _ _ F7.out).mono ?_
        rintro e w8 ⟨he, rfl⟩
        rw [KB.out.2.2.2.1] at he
        subst he
        go_wp2_with fail
        go_roundw
        case rel => exact ⟨i + 1, _, by omega, by go_num, KD.out, F7.out, M7.out, T7.out⟩
        case measure => simp [intOf]; omega
      · go_wp2_with fail
        go_ret
        exact ⟨rfl, T.out⟩
  · go_enter Try.func5, Try.ntmps5
    go_wp2_with fail
    refine (first16 _).mono ?_
    rintro e w0 ⟨rfl, hb0⟩
    have T0 := Lib.hid hb0
    clear hb0
    go_wp2_with fail
    refine (newC a0 a1 _).mono ?_
    rintro e w1 ⟨rfl, H1, hb⟩
    have F1 := Lib.hid H1
    have T1 := Lib.hid (T0.out.trans (hb.mono T0.out.size))
    have SB := Lib.hid T0.out.size
    clear H1 hb T0
    generalize w0.heap.size = B at *
    have LB := Lib.hid F1.out.lt
    have NS := Lib.hid (Sm.new w1 1 false)
    have F2 := Lib.hid (F1.out.alloc (.cells #[.int .i64 1, .bool false] 27))
    have T2 := Lib.hid (T1.out.alloc T1.out.size (.cells #[.int .i64 1, .bool false] 27))
    clear F1 T1
    go_wp2_with fail
    generalize w1.heap.size = S at *
    have NE := Lib.hid (Nat.ne_of_gt LB.out)
    go_loopw [12] (fun v wr => ∃ i : Nat, ∃ k : CK, i ≤ len2 ∧ v = .int .i64 i ∧ Dull k ∧ Ct wr B k ∧ Sm wr S 1 false ∧ Below w.heap.size w wr) (fun v _ => len2 - (intOf v).toNat)
    case atStart => exact ⟨0, _, by omega, rfl, ⟨show (-2 : Int) ≤ -2 by omega, show (-2 : Int) ≤ 1000 by omega, rfl, rfl, rfl⟩, F2.out, NS.out, T2.out⟩
    case round =>
      obtain ⟨i, k, hi, rfl, hk, hf, hn, hb⟩ := hrel
      clear F2 NS T2
      have F := Lib.hid hf
      have M := Lib.hid hn
      have T := Lib.hid hb
      have KK := Lib.hid hk
      clear hf hn hb hk
      by_cases hl : i < len2
      · obtain ⟨x1, rfl, c1⟩ := C1.out i hl
        have c2 : wr.drew.cell? (x1.add i) = some (.bool (z2 i)) := below_cell T.out.drew c1
        have m0 : wr.drew.cell? ⟨S, 0, none⟩ = some (.int .i64 1) := M.out.cells.1
        have m1 : wr.drew.cell? ⟨S, 1, none⟩ = some (.bool false) := M.out.cells.2.1
        generalize z2 i = x at *
        have KS := Lib.hid (stepC B k x 1 false KK.out.1 KK.out.2.1 (by have := KK.out.2.2.1; omega) (by have := KK.out.2.2.1; omega) wr.drew F.out.drew)
        have KD := Lib.hid (KK.out.step x 1)
        have KB := Lib.hid (k.blind x 1 KK.out.2.2.1)
        clear c1
        go_wp2_with fail
        refine wp_region_still_tail 6 (by kernel_rfl) (by kernel_rfl) ?_
        change wpStill _ _ (World.drew _) (fun a' => wpList _ _ _ _ a' (World.drew _)) _ _
        simp only [List.take_succ_cons, List.take_zero, List.drop_succ_cons, List.drop_zero]
        repeat still_step
        refine wpStill_nil ?_
        clear c2 m0 m1
        go_wp2_with fail
        refine KS.out.mono ?_
        rintro e w5 ⟨rfl, H5, hb⟩
        have F5 := Lib.hid H5
        have M5 := Lib.hid ((show Sm wr.drew S 1 false from M.out).only hb NE.out)
        have T5 := Lib.hid ((T.out.drew).trans (hb.below SB.out T.out.drew.size))
        clear H5 hb
        go_wp2_with fail
        refine (jamC B _ _ F5.out).mono ?_
        rintro e w6 ⟨he, hb⟩
        rw [KD.out.2.2.2.1, KD.out.2.2.2.2] at he
        subst he
        have F6 := Lib.hid (F5.out.below hb)
        have M6 := Lib.hid (M5.out.below hb)
        have T6 := Lib.hid (T5.out.trans (hb.mono T5.out.size))
        clear hb F5 M5 T5
        go_wp2_with fail
        refine (openC B _ _ F6.out).mono ?_
        rintro e w7 ⟨he, hb⟩
        rw [KB.out.2.2.1] at he
        subst he
        have F7 := Lib.hid (F6.out.below hb)
        have M7 := Lib.hid (M6.out.below hb)
        have T7 := Lib.hid (T6.out.trans (hb.mono T6.out.size))
        clear hb F6 M6 T6
        go_wp2_with fail
        refine (closedC B _ _ F7.out).mono ?_
        rintro e w8 ⟨he, rfl⟩
        rw [KB.out.2.2.2.1] at he
        subst he
        go_wp2_with fail
        go_roundw
        case rel => exact ⟨i + 1, _, by omega, by go_num, KD.out, F7.out, M7.out, T7.out⟩
        case measure => simp [intOf]; omega
      · go_wp2_with fail
        go_ret
        exact ⟨rfl, T.out⟩
end Go.Proofs.Ytbgjfcnaiahehaa
