/- ShedCharges returns true for every argument, and leaves its arguments as they were. No condition beside the given statement's own: the package-level variables that the row lists are tied to the program's text. -/
import Derived.Test.YtbeemfkndpandaaDoorRows
import Derived.Test.YtbeemfkndpandaaDoorCards
import Derived.Test.YtbeemfkndpandaaDoorTie
import Derived.Test.YtbeemfkndpandaaDoorGraphT
import Derived.LaidMore
import Derived.SevenTiedAt
import Derived.Stop.Joined
import Derived.Test.YtbeemfkndpandaaDoorShedX
import Derived.Test.YtbeemfkndpandaaDoorCame
import Derived.Test.YtbeemfkndpandaaDoorFlat
import Derived.WalkKit
import Derived.ProofKit
import Derived.OpenShut
import Derived.ShutString
import Derived.ChangeOld
import Derived.Below
import Derived.Deep.Grids
namespace Go.Proofs.YtbeemfkndpandaaDoor.shedCharges
open Go.ChangeShapes Go.WideShapes Go.ChangeAt Go.RowKit
open Go.ChangeMaps (open_string shut_string)
set_option linter.unusedVariables false
theorem own : ownKnob Tryd.prog.godebug = none := by kernel_rfl
theorem laidOut : laidOutB Tryd.prog = true := by kernel_rfl
set_option maxRecDepth 100000 in
theorem lifted (os : Os) (started : os.Started) (H : Type) (enc : TypeId × Value → H) :
    ReturnsInHanded {} Tryd.checked os 9 .any (fun w args => (Rows.shedChargesSpec.pre enc Tryd.prog Tryd.f9 [] false w args ∧ laidMetH Tryd.prog laidEnds w) ∧ sizedMet enc Tryd.prog Tryd.f9 (OpenSpec.ofChange Rows.shedChargesSpec) false w args) (Rows.shedChargesSpec.post enc Tryd.prog Tryd.f9 false true false false) := by
  refine returnsInHanded_of_change_and (C := Tryd.checked) (X := fun w _ => laidMetH Tryd.prog laidEnds w) (fun _ _ _ hh h => h.of_heap hh) own started (by kernel_rfl) Tryd.func9
    (ChangeSpec.witness_shaped (enc := enc) (C := Tryd.checked) (os := os) (X := fun w _ => laidMetH Tryd.prog laidEnds w) false (World.doorLaid Tryd.prog 400 os) #[.int .i64 0, .agg #[.bool false, .bool false], .agg #[.bool false, .bool false], .agg #[.int .i64 0, .int .i64 0]] 8 rfl (World.shaped_of_RefB (by kernel_rfl) (by kernel_rfl)) (by kernel_rfl) (by kernel_rfl) (by kernel_rfl) (ends_door_met os _)) ?_
  intro W base args ds gs before hval0 hW _ _ hL _
  have hval : ∀ (j : Nat) t v, Tryd.f9.params[j]? = some t → args[j]? = some v → Value.okWide Tryd.prog W .any base t v := hval0
  have hW' := hW
  obtain ⟨p, q, hA0, hV, rfl, hfz, hnd⟩ := hW
  have hA : DataW.TrodAll enc Tryd.prog W 0 (fun _ => true) true Tryd.f9.params.toList args.toList ds p := hA0
  rw [Tryd.params9] at hA hval
  obtain ⟨v0, vs0, d0, ds0, p0, q0, hargs, rfl, rfl, h0, r0⟩ := trodAll_cons hA
  obtain ⟨v1, vs1, d1, ds1, p1, q1, rfl, rfl, rfl, h1, r1⟩ := trodAll_cons r0
  obtain ⟨v2, vs2, d2, ds2, p2, q2, rfl, rfl, rfl, h2, r2⟩ := trodAll_cons r1
  obtain ⟨v3, vs3, d3, ds3, p3, q3, rfl, rfl, rfl, h3, r3⟩ := trodAll_cons r2
  obtain ⟨rfl, rfl, rfl⟩ := trodAll_nil r3
  obtain rfl : args = #[v0, v1, v2, v3] := by cases args; simp_all
  obtain ⟨rfl, rfl⟩ := trodVars_none hV
  obtain ⟨a0, rfl, rfl, rfl, w0⟩ := open_int Tryd.underlying3 (hval 0 3 v0 rfl rfl) h0
  obtain ⟨c1, rfl, sz1⟩ := okWide_arr Tryd.underlying22 (hval 1 22 v1 rfl rfl)
  have k1 := h1
  have lt1 : ∀ x ∈ p1, x.block < W.heap.size := by obtain ⟨m, hm⟩ := k1; exact DataW.trod_lt m _ _ _ hm
  obtain ⟨m1, hm1⟩ := h1
  have o1 := flat_ok 6 22 [.bool, .bool] (by kernel_rfl) _ _ _ hm1
  generalize hcs1 : (Value.agg c1).cells.toList = L1 at o1
  obtain ⟨_, _, rfl, ⟨a1_0, rfl⟩, o1_0⟩ := oks_cons o1
  obtain ⟨_, _, rfl, ⟨a1_1, rfl⟩, o1_1⟩ := oks_cons o1_0
  obtain rfl := oks_nil o1_1
  obtain rfl : c1 = #[.bool a1_0, .bool a1_1] := by apply Array.ext'; simpa [Value.cells] using hcs1
  clear hcs1 hm1 sz1
  obtain ⟨c2, rfl, sz2⟩ := okWide_arr Tryd.underlying22 (hval 2 22 v2 rfl rfl)
  have k2 := h2
  have lt2 : ∀ x ∈ p2, x.block < W.heap.size := by obtain ⟨m, hm⟩ := k2; exact DataW.trod_lt m _ _ _ hm
  obtain ⟨m2, hm2⟩ := h2
  have o2 := flat_ok 6 22 [.bool, .bool] (by kernel_rfl) _ _ _ hm2
  generalize hcs2 : (Value.agg c2).cells.toList = L2 at o2
  obtain ⟨_, _, rfl, ⟨a2_0, rfl⟩, o2_0⟩ := oks_cons o2
  obtain ⟨_, _, rfl, ⟨a2_1, rfl⟩, o2_1⟩ := oks_cons o2_0
  obtain rfl := oks_nil o2_1
  obtain rfl : c2 = #[.bool a2_0, .bool a2_1] := by apply Array.ext'; simpa [Value.cells] using hcs2
  clear hcs2 hm2 sz2
  obtain ⟨c3, rfl, sz3⟩ := okWide_arr Tryd.underlying54 (hval 3 54 v3 rfl rfl)
  have k3 := h3
  have lt3 : ∀ x ∈ p3, x.block < W.heap.size := by obtain ⟨m, hm⟩ := k3; exact DataW.trod_lt m _ _ _ hm
  obtain ⟨m3, hm3⟩ := h3
  have o3 := flat_ok 6 54 [.int .i64, .int .i64] (by kernel_rfl) _ _ _ hm3
  generalize hcs3 : (Value.agg c3).cells.toList = L3 at o3
  obtain ⟨_, _, rfl, ⟨a3_0, rfl, w3_0⟩, o3_0⟩ := oks_cons o3
  obtain ⟨_, _, rfl, ⟨a3_1, rfl, w3_1⟩, o3_1⟩ := oks_cons o3_0
  obtain rfl := oks_nil o3_1
  obtain rfl : c3 = #[.int .i64 a3_0, .int .i64 a3_1] := by apply Array.ext'; simpa [Value.cells] using hcs3
  clear hcs3 hm3 sz3
  clear hA0 hval0
  refine (Go.Proofs.YtbeemfkndpandaaDoor.walkShedCharges a0 a1_0 a1_1 a2_0 a2_1 a3_0 a3_1 W w0 w3_0 w3_1 (tab_of_laid hL)).mono fun e W' ⟨he, bel⟩ => ?_
  subst he
  exact ⟨_, rfl, _, _, _, [], _, [], hW', trodAll_mk1 (shut_bool Tryd.underlying4 _), (trodAll_cons_mk (shut_int Tryd.underlying3 w0) (trodAll_cons_mk (Below.trod laidOut (by kernel_rfl) (of_decide_eq_true (by kernel_rfl)) k1 bel lt1) (trodAll_cons_mk (Below.trod laidOut (by kernel_rfl) (of_decide_eq_true (by kernel_rfl)) k2 bel lt2) (trodAll_cons_mk (Below.trod laidOut (by kernel_rfl) (of_decide_eq_true (by kernel_rfl)) k3 bel lt3) trodAll_mk0)))), rfl, bel.frame _, fun h => by cases h⟩
theorem over : Rows.shedChargesRow.holds Tryd.pinned (OpenSpec.ofChange Rows.shedChargesSpec) :=
  OpenClaim.holds_of_wide 9 Tryd.f9 rfl rfl rfl rfl rfl rfl rfl ⟨rfl, rfl, rfl, rfl, rfl⟩ rfl rfl rfl rfl rfl (by kernel_rfl) Tryd.func9 (by kernel_rfl)
    (of_decide_eq_true (by kernel_rfl)) (by unfold Func.isWrapper; first | (rw [if_pos (by decide +kernel)]; kernel_rfl) | (rw [if_neg (by decide +kernel)]; exact ⟨rfl, rfl⟩))
    (fun os started H enc _ => lifted os started H enc)
theorem proved : Rows.ShedChargesSaid := over
/-- THE CARD: the row's statement, its listed variables tied to the program's text. -/
theorem card : Rows.ShedChargesCardSaid :=
  Claim7.holds_tied_plain_at .later [] [.data] true (true, "b778282588b830765d194572f129c322bf10f745170cf5f37c4e858440bd7c0c") true
    proved (fun _ h => by cases h) (by kernel_rfl) (fun _ h => by cases h) shedCharges_row_tie rfl ⟨rfl, rfl⟩ (by kernel_rfl) rfl
    (fun f fn hf hfn => by
      obtain rfl : f = 9 := Option.some.inj ((show Tryd.prog.funcNamed "dynamo/dynamolaw25.ShedCharges" = some 9 by kernel_rfl).symm.trans hf) |>.symm
      obtain rfl : fn = Tryd.f9 := (Option.some.inj (Tryd.func9.symm.trans hfn)).symm
      exact ⟨by kernel_rfl, fun j t ht => by
        rw [Tryd.params9] at ht
        have hm : t ∈ [3, 22, 22, 54] := List.mem_toArray.1 (Array.mem_of_getElem? ht)
        have hall : ([3, 22, 22, 54].all fun u => !Tryd.prog.wantsStandIn u) = true := by kernel_rfl
        exact (show Tryd.prog.wantsStandIn t = false by simpa using List.all_eq_true.1 hall t hm)⟩)
    (by kernel_rfl)
#print axioms card
end Go.Proofs.YtbeemfkndpandaaDoor.shedCharges
