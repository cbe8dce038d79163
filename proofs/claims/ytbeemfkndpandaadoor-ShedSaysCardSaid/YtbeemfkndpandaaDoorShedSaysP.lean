/- ShedSays returns true for every argument, and leaves its arguments as they were. No condition beside the given statement's own: the package-level variables that the row lists are tied to the program's text. -/
import Derived.Test.YtbeemfkndpandaaDoorRows
import Derived.Test.YtbeemfkndpandaaDoorCards
import Derived.Test.YtbeemfkndpandaaDoorTie
import Derived.Test.YtbeemfkndpandaaDoorGraphT
import Derived.LaidMore
import Derived.SevenTiedAt
import Derived.Stop.Joined
import Derived.Test.YtbeemfkndpandaaDoorShedV
import Derived.Test.YtbeemfkndpandaaDoorCame
import Derived.Test.YtbeemfkndpandaaDoorFlat
import Derived.WalkKit
import Derived.ProofKit
import Derived.OpenShut
import Derived.ShutString
import Derived.ChangeOld
import Derived.Below
import Derived.Deep.Grids
namespace Go.Proofs.YtbeemfkndpandaaDoor.shedSays
open Go.ChangeShapes Go.WideShapes Go.ChangeAt Go.RowKit
open Go.ChangeMaps (open_string shut_string)
set_option linter.unusedVariables false
theorem own : ownKnob Tryd.prog.godebug = none := by kernel_rfl
theorem laidOut : laidOutB Tryd.prog = true := by kernel_rfl
set_option maxRecDepth 100000 in
theorem lifted (os : Os) (started : os.Started) (H : Type) (enc : TypeId × Value → H) :
    ReturnsInHanded {} Tryd.checked os 3 .any (fun w args => (Rows.shedSaysSpec.pre enc Tryd.prog Tryd.f3 [] false w args ∧ laidMetH Tryd.prog laidEnds w) ∧ sizedMet enc Tryd.prog Tryd.f3 (OpenSpec.ofChange Rows.shedSaysSpec) false w args) (Rows.shedSaysSpec.post enc Tryd.prog Tryd.f3 false true false false) := by
  refine returnsInHanded_of_change_and (C := Tryd.checked) (X := fun w _ => laidMetH Tryd.prog laidEnds w) (fun _ _ _ hh h => h.of_heap hh) own started (by kernel_rfl) Tryd.func3
    (ChangeSpec.witness_shaped (enc := enc) (C := Tryd.checked) (os := os) (X := fun w _ => laidMetH Tryd.prog laidEnds w) false (World.doorLaid Tryd.prog 400 os) #[.int .i64 0, .int .i64 0, .int .i64 0, .int .i64 0, .int .i64 0, .int .i64 0, .int .i64 0, .bool false, .agg #[.bool false, .bool false], .agg #[.int .i64 0, .int .i64 0], .agg #[.int .i64 0, .int .i64 0, .int .i64 0, .int .i64 0]] 8 rfl (World.shaped_of_RefB (by kernel_rfl) (by kernel_rfl)) (by kernel_rfl) (by kernel_rfl) (by kernel_rfl) (ends_door_met os _)) ?_
  intro W base args ds gs before hval0 hW _ _ hL _
  have hval : ∀ (j : Nat) t v, Tryd.f3.params[j]? = some t → args[j]? = some v → Value.okWide Tryd.prog W .any base t v := hval0
  have hW' := hW
  obtain ⟨p, q, hA0, hV, rfl, hfz, hnd⟩ := hW
  have hA : DataW.TrodAll enc Tryd.prog W 0 (fun _ => true) true Tryd.f3.params.toList args.toList ds p := hA0
  rw [Tryd.params3] at hA hval
  obtain ⟨v0, vs0, d0, ds0, p0, q0, hargs, rfl, rfl, h0, r0⟩ := trodAll_cons hA
  obtain ⟨v1, vs1, d1, ds1, p1, q1, rfl, rfl, rfl, h1, r1⟩ := trodAll_cons r0
  obtain ⟨v2, vs2, d2, ds2, p2, q2, rfl, rfl, rfl, h2, r2⟩ := trodAll_cons r1
  obtain ⟨v3, vs3, d3, ds3, p3, q3, rfl, rfl, rfl, h3, r3⟩ := trodAll_cons r2
  obtain ⟨v4, vs4, d4, ds4, p4, q4, rfl, rfl, rfl, h4, r4⟩ := trodAll_cons r3
  obtain ⟨v5, vs5, d5, ds5, p5, q5, rfl, rfl, rfl, h5, r5⟩ := trodAll_cons r4
  obtain ⟨v6, vs6, d6, ds6, p6, q6, rfl, rfl, rfl, h6, r6⟩ := trodAll_cons r5
  obtain ⟨v7, vs7, d7, ds7, p7, q7, rfl, rfl, rfl, h7, r7⟩ := trodAll_cons r6
  obtain ⟨v8, vs8, d8, ds8, p8, q8, rfl, rfl, rfl, h8, r8⟩ := trodAll_cons r7
  obtain ⟨v9, vs9, d9, ds9, p9, q9, rfl, rfl, rfl, h9, r9⟩ := trodAll_cons r8
  obtain ⟨v10, vs10, d10, ds10, p10, q10, rfl, rfl, rfl, h10, r10⟩ := trodAll_cons r9
  obtain ⟨rfl, rfl, rfl⟩ := trodAll_nil r10
  obtain rfl : args = #[v0, v1, v2, v3, v4, v5, v6, v7, v8, v9, v10] := by cases args; simp_all
  obtain ⟨rfl, rfl⟩ := trodVars_none hV
  obtain ⟨a0, rfl, rfl, rfl, w0⟩ := open_int Tryd.underlying3 (hval 0 3 v0 rfl rfl) h0
  obtain ⟨a1, rfl, rfl, rfl, w1⟩ := open_int Tryd.underlying3 (hval 1 3 v1 rfl rfl) h1
  obtain ⟨a2, rfl, rfl, rfl, w2⟩ := open_int Tryd.underlying3 (hval 2 3 v2 rfl rfl) h2
  obtain ⟨a3, rfl, rfl, rfl, w3⟩ := open_int Tryd.underlying3 (hval 3 3 v3 rfl rfl) h3
  obtain ⟨a4, rfl, rfl, rfl, w4⟩ := open_int Tryd.underlying3 (hval 4 3 v4 rfl rfl) h4
  obtain ⟨a5, rfl, rfl, rfl, w5⟩ := open_int Tryd.underlying3 (hval 5 3 v5 rfl rfl) h5
  obtain ⟨a6, rfl, rfl, rfl, w6⟩ := open_int Tryd.underlying3 (hval 6 3 v6 rfl rfl) h6
  obtain ⟨a7, rfl, rfl, rfl⟩ := open_bool Tryd.underlying4 (hval 7 4 v7 rfl rfl) h7
  obtain ⟨c8, rfl, sz8⟩ := okWide_arr Tryd.underlying22 (hval 8 22 v8 rfl rfl)
  have k8 := h8
  have lt8 : ∀ x ∈ p8, x.block < W.heap.size := by obtain ⟨m, hm⟩ := k8; exact DataW.trod_lt m _ _ _ hm
  obtain ⟨m8, hm8⟩ := h8
  have o8 := flat_ok 6 22 [.bool, .bool] (by kernel_rfl) _ _ _ hm8
  generalize hcs8 : (Value.agg c8).cells.toList = L8 at o8
  obtain ⟨_, _, rfl, ⟨a8_0, rfl⟩, o8_0⟩ := oks_cons o8
  obtain ⟨_, _, rfl, ⟨a8_1, rfl⟩, o8_1⟩ := oks_cons o8_0
  obtain rfl := oks_nil o8_1
  obtain rfl : c8 = #[.bool a8_0, .bool a8_1] := by apply Array.ext'; simpa [Value.cells] using hcs8
  clear hcs8 hm8 sz8
  obtain ⟨c9, rfl, sz9⟩ := okWide_arr Tryd.underlying23 (hval 9 23 v9 rfl rfl)
  have k9 := h9
  have lt9 : ∀ x ∈ p9, x.block < W.heap.size := by obtain ⟨m, hm⟩ := k9; exact DataW.trod_lt m _ _ _ hm
  obtain ⟨m9, hm9⟩ := h9
  have o9 := flat_ok 6 23 [.int .i64, .int .i64] (by kernel_rfl) _ _ _ hm9
  generalize hcs9 : (Value.agg c9).cells.toList = L9 at o9
  obtain ⟨_, _, rfl, ⟨a9_0, rfl, w9_0⟩, o9_0⟩ := oks_cons o9
  obtain ⟨_, _, rfl, ⟨a9_1, rfl, w9_1⟩, o9_1⟩ := oks_cons o9_0
  obtain rfl := oks_nil o9_1
  obtain rfl : c9 = #[.int .i64 a9_0, .int .i64 a9_1] := by apply Array.ext'; simpa [Value.cells] using hcs9
  clear hcs9 hm9 sz9
  obtain ⟨c10, rfl, sz10⟩ := okWide_arr Tryd.underlying26 (hval 10 26 v10 rfl rfl)
  have k10 := h10
  have lt10 : ∀ x ∈ p10, x.block < W.heap.size := by obtain ⟨m, hm⟩ := k10; exact DataW.trod_lt m _ _ _ hm
  obtain ⟨m10, hm10⟩ := h10
  have o10 := flat_ok 6 26 [.int .i64, .int .i64, .int .i64, .int .i64] (by kernel_rfl) _ _ _ hm10
  generalize hcs10 : (Value.agg c10).cells.toList = L10 at o10
  obtain ⟨_, _, rfl, ⟨a10_0, rfl, w10_0⟩, o10_0⟩ := oks_cons o10
  obtain ⟨_, _, rfl, ⟨a10_1, rfl, w10_1⟩, o10_1⟩ := oks_cons o10_0
  obtain ⟨_, _, rfl, ⟨a10_2, rfl, w10_2⟩, o10_2⟩ := oks_cons o10_1
  obtain ⟨_, _, rfl, ⟨a10_3, rfl, w10_3⟩, o10_3⟩ := oks_cons o10_2
  obtain rfl := oks_nil o10_3
  obtain rfl : c10 = #[.int .i64 a10_0, .int .i64 a10_1, .int .i64 a10_2, .int .i64 a10_3] := by apply Array.ext'; simpa [Value.cells] using hcs10
  clear hcs10 hm10 sz10
  clear hA0 hval0
  refine (Go.Proofs.YtbeemfkndpandaaDoor.walkShedSays a0 a1 a2 a3 a4 a5 a6 a7 a8_0 a8_1 a9_0 a9_1 a10_0 a10_1 a10_2 a10_3 W w0 w1 w2 w3 w4 w5 w6 w9_0 w9_1 w10_0 w10_1 w10_2 w10_3 (tab_of_laid hL)).mono fun e W' ⟨he, bel⟩ => ?_
  subst he
  exact ⟨_, rfl, _, _, _, [], _, [], hW', trodAll_mk1 (shut_bool Tryd.underlying4 _), (trodAll_cons_mk (shut_int Tryd.underlying3 w0) (trodAll_cons_mk (shut_int Tryd.underlying3 w1) (trodAll_cons_mk (shut_int Tryd.underlying3 w2) (trodAll_cons_mk (shut_int Tryd.underlying3 w3) (trodAll_cons_mk (shut_int Tryd.underlying3 w4) (trodAll_cons_mk (shut_int Tryd.underlying3 w5) (trodAll_cons_mk (shut_int Tryd.underlying3 w6) (trodAll_cons_mk (shut_bool Tryd.underlying4 a7) (trodAll_cons_mk (Below.trod laidOut (by kernel_rfl) (of_decide_eq_true (by kernel_rfl)) k8 bel lt8) (trodAll_cons_mk (Below.trod laidOut (by kernel_rfl) (of_decide_eq_true (by kernel_rfl)) k9 bel lt9) (trodAll_cons_mk (Below.trod laidOut (by kernel_rfl) (of_decide_eq_true (by kernel_rfl)) k10 bel lt10) trodAll_mk0))))))))))), rfl, bel.frame _, fun h => by cases h⟩
theorem over : Rows.shedSaysRow.holds Tryd.pinned (OpenSpec.ofChange Rows.shedSaysSpec) :=
  OpenClaim.holds_of_wide 3 Tryd.f3 rfl rfl rfl rfl rfl rfl rfl ⟨rfl, rfl, rfl, rfl, rfl⟩ rfl rfl rfl rfl rfl (by kernel_rfl) Tryd.func3 (by kernel_rfl)
    (of_decide_eq_true (by kernel_rfl)) (by unfold Func.isWrapper; first | (rw [if_pos (by decide +kernel)]; kernel_rfl) | (rw [if_neg (by decide +kernel)]; exact ⟨rfl, rfl⟩))
    (fun os started H enc _ => lifted os started H enc)
theorem proved : Rows.ShedSaysSaid := over
/-- THE CARD: the row's statement, its listed variables tied to the program's text. -/
theorem card : Rows.ShedSaysCardSaid :=
  Claim7.holds_tied_plain_at .later [] [.data] true (true, "b778282588b830765d194572f129c322bf10f745170cf5f37c4e858440bd7c0c") true
    proved (fun _ h => by cases h) (by kernel_rfl) (fun _ h => by cases h) shedSays_row_tie rfl ⟨rfl, rfl⟩ (by kernel_rfl) rfl
    (fun f fn hf hfn => by
      obtain rfl : f = 3 := Option.some.inj ((show Tryd.prog.funcNamed "dynamo/dynamolaw25.ShedSays" = some 3 by kernel_rfl).symm.trans hf) |>.symm
      obtain rfl : fn = Tryd.f3 := (Option.some.inj (Tryd.func3.symm.trans hfn)).symm
      exact ⟨by kernel_rfl, fun j t ht => by
        rw [Tryd.params3] at ht
        have hm : t ∈ [3, 3, 3, 3, 3, 3, 3, 4, 22, 23, 26] := List.mem_toArray.1 (Array.mem_of_getElem? ht)
        have hall : ([3, 3, 3, 3, 3, 3, 3, 4, 22, 23, 26].all fun u => !Tryd.prog.wantsStandIn u) = true := by kernel_rfl
        exact (show Tryd.prog.wantsStandIn t = false by simpa using List.all_eq_true.1 hall t hm)⟩)
    (by kernel_rfl)
#print axioms card
end Go.Proofs.YtbeemfkndpandaaDoor.shedSays
