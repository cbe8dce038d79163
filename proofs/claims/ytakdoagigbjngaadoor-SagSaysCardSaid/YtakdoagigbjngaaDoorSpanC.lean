/- What the functions of package span, and the document's own on spans, return; what was there before the call is as it was. Conditions: the numbers of a span are numbers of 64 bits. -/
import Derived.Test.YtakdoagigbjngaaDoorNum
import Derived.Deep.QuietTactic
import Derived.BigQuiet
import Derived.StillTailTactics
import Derived.Below
import Derived.Lib.Hide
namespace Go.Proofs.YtakdoagigbjngaaDoor
open Go.RowKit
set_option maxRecDepth 10000
theorem satId (a : Int) (h : I64 a) : sat a = a := by unfold sat; unfold I64 at h; omega
def hasB (lo hi x : Int) : Bool := decide (lo ≤ x) && decide (x ≤ hi)
def inB (a b c d : Int) : Bool := decide (c ≤ a) && decide (b ≤ d)
def sameB (a b c d : Int) : Bool := decide (a = c) && decide (b = d)
theorem sameB_self (a b : Int) : sameB a b a b = true := by simp [sameB]
theorem bcell {W w1 : World} (hb : Below W.heap.size W w1) : (∀ b o, b < W.heap.size → w1.cell? ⟨b, o, none⟩ = W.cell? ⟨b, o, none⟩) ∧ (∀ b o, b < W.heap.size → w1.frozen? ⟨b, o, none⟩ = W.frozen? ⟨b, o, none⟩) :=
  ⟨fun b o h => hb.cell (p := ⟨b, o, none⟩) h, fun b o h => hb.frozen (p := ⟨b, o, none⟩) h⟩
theorem spanOf (a : Int) (b : Int) (w : World) :
    Calls Tryd.prog 37 #[.int .i64 a, .int .i64 b] w fun e w' => e = .returned (.agg #[.int .i64 (min a b), .int .i64 (max a b)]) ∧ Below w.heap.size w w' := by
  go_enter Tryd.func37, Tryd.ntmps37
  go_wp2
  all_goals
    refine bodyPost_ret (v := .agg #[.int .i64 (min a b), .int .i64 (max a b)]) (by simp [results, Tryd.results37, go_sem] <;> omega) rfl ⟨rfl, ?_⟩
    go_grown
theorem refOf (a : Int) (b : Int) (w : World) :
    Calls Tryd.prog 61 #[.int .i64 a, .int .i64 b] w fun e w' => e = .returned (.agg #[.int .i64 (min a b), .int .i64 (max a b)]) ∧ Below w.heap.size w w' := by
  go_enter Tryd.func61, Tryd.ntmps61
  go_wp2
  all_goals
    refine bodyPost_ret (v := .agg #[.int .i64 (min a b), .int .i64 (max a b)]) (by simp [results, Tryd.results61, go_sem] <;> omega) rfl ⟨rfl, ?_⟩
    go_grown
theorem st {P : Program} {f : FuncId} {args : Array Value} {w : World} {v : Value} (h : Calls P f args w fun e w' => e = .returned v ∧ w = w') : Calls P f args w fun e w' => e = .returned v ∧ w' = w :=
  h.mono fun _ _ h => ⟨h.1, h.2.symm⟩
theorem spanAdd (a : Int) (b : Int) (c : Int) (d : Int) (ha : I64 a) (hb : I64 b) (hc : I64 c) (hd : I64 d) (w : World) :
    Calls Tryd.prog 39 #[.agg #[.int .i64 a, .int .i64 b], .agg #[.int .i64 c, .int .i64 d]] w fun e w' => e = .returned (.agg #[.int .i64 (sat (a + c)), .int .i64 (sat (b + d))]) ∧ Below w.heap.size w w' := by
  go_enter Tryd.func39, Tryd.ntmps39
  go_wp2
  refine wp_region_still_tail 10 (by kernel_rfl) (by kernel_rfl) ?_
  change wpStill _ _ (World.drew _) (fun a' => wpList _ _ _ _ a' (World.drew _)) _ _
  simp only [List.take_succ_cons, List.take_zero, List.drop_succ_cons, List.drop_zero]
  repeat still_step
  still_call (st (fixedAdd _ _ ha hc _))
  repeat still_step
  still_call (st (fixedAdd _ _ hb hd _))
  repeat still_step
  refine wpStill_nil ?_
  go_wp2
  refine bodyPost_ret (v := .agg #[.int .i64 (sat (a + c)), .int .i64 (sat (b + d))]) (by simp [results, Tryd.results39, go_sem]) rfl ⟨rfl, ?_⟩
  go_grown
theorem refAddSpan (a : Int) (b : Int) (c : Int) (d : Int) (ha : I64 a) (hb : I64 b) (hc : I64 c) (hd : I64 d) (w : World) :
    Calls Tryd.prog 43 #[.agg #[.int .i64 a, .int .i64 b], .agg #[.int .i64 c, .int .i64 d]] w fun e w' => e = .returned (.agg #[.int .i64 (sat (a + c)), .int .i64 (sat (b + d))]) ∧ Below w.heap.size w w' := by
  go_enter Tryd.func43, Tryd.ntmps43
  go_wp2
  refine wp_region_still_tail 10 (by kernel_rfl) (by kernel_rfl) ?_
  change wpStill _ _ (World.drew _) (fun a' => wpList _ _ _ _ a' (World.drew _)) _ _
  simp only [List.take_succ_cons, List.take_zero, List.drop_succ_cons, List.drop_zero]
  repeat still_step
  still_call (st (refAdd _ _ ha hc _))
  repeat still_step
  still_call (st (refAdd _ _ hb hd _))
  repeat still_step
  refine wpStill_nil ?_
  go_wp2
  refine bodyPost_ret (v := .agg #[.int .i64 (sat (a + c)), .int .i64 (sat (b + d))]) (by simp [results, Tryd.results43, go_sem]) rfl ⟨rfl, ?_⟩
  go_grown
theorem spanSub (a : Int) (b : Int) (c : Int) (d : Int) (ha : I64 a) (hb : I64 b) (hc : I64 c) (hd : I64 d) (w : World) :
    Calls Tryd.prog 74 #[.agg #[.int .i64 a, .int .i64 b], .agg #[.int .i64 c, .int .i64 d]] w fun e w' => e = .returned (.agg #[.int .i64 (sat (a - d)), .int .i64 (sat (b - c))]) ∧ Below w.heap.size w w' := by
  go_enter Tryd.func74, Tryd.ntmps74
  go_wp2
  refine wp_region_still_tail 10 (by kernel_rfl) (by kernel_rfl) ?_
  change wpStill _ _ (World.drew _) (fun a' => wpList _ _ _ _ a' (World.drew _)) _ _
  simp only [List.take_succ_cons, List.take_zero, List.drop_succ_cons, List.drop_zero]
  repeat still_step
  still_call (st (fixedSub _ _ ha hd _))
  repeat still_step
  still_call (st (fixedSub _ _ hb hc _))
  repeat still_step
  refine wpStill_nil ?_
  go_wp2
  refine bodyPost_ret (v := .agg #[.int .i64 (sat (a - d)), .int .i64 (sat (b - c))]) (by simp [results, Tryd.results74, go_sem]) rfl ⟨rfl, ?_⟩
  go_grown
theorem refSubSpan (a : Int) (b : Int) (c : Int) (d : Int) (ha : I64 a) (hb : I64 b) (hc : I64 c) (hd : I64 d) (w : World) :
    Calls Tryd.prog 77 #[.agg #[.int .i64 a, .int .i64 b], .agg #[.int .i64 c, .int .i64 d]] w fun e w' => e = .returned (.agg #[.int .i64 (sat (a - d)), .int .i64 (sat (b - c))]) ∧ Below w.heap.size w w' := by
  go_enter Tryd.func77, Tryd.ntmps77
  go_wp2
  refine wp_region_still_tail 10 (by kernel_rfl) (by kernel_rfl) ?_
  change wpStill _ _ (World.drew _) (fun a' => wpList _ _ _ _ a' (World.drew _)) _ _
  simp only [List.take_succ_cons, List.take_zero, List.drop_succ_cons, List.drop_zero]
  repeat still_step
  still_call (st (refSub _ _ ha hd _))
  repeat still_step
  still_call (st (refSub _ _ hb hc _))
  repeat still_step
  refine wpStill_nil ?_
  go_wp2
  refine bodyPost_ret (v := .agg #[.int .i64 (sat (a - d)), .int .i64 (sat (b - c))]) (by simp [results, Tryd.results77, go_sem]) rfl ⟨rfl, ?_⟩
  go_grown
theorem spanShrink (a : Int) (b : Int) (k : Int) (ha : I64 a) (hb : I64 b) (w : World) :
    Calls Tryd.prog 36 #[.agg #[.int .i64 a, .int .i64 b], .int .i64 k] w fun e w' => e = .returned (.agg #[.int .i64 (downI a k), .int .i64 (upI b k)]) ∧ Below w.heap.size w w' := by
  go_enter Tryd.func36, Tryd.ntmps36
  go_wp2
  refine wp_region_still_tail 8 (by kernel_rfl) (by kernel_rfl) ?_
  change wpStill _ _ (World.drew _) (fun a' => wpList _ _ _ _ a' (World.drew _)) _ _
  simp only [List.take_succ_cons, List.take_zero, List.drop_succ_cons, List.drop_zero]
  repeat still_step
  still_call (st (fixedDown _ _ ha _))
  repeat still_step
  still_call (st (fixedUp _ _ hb _))
  repeat still_step
  refine wpStill_nil ?_
  go_wp2
  refine bodyPost_ret (v := .agg #[.int .i64 (downI a k), .int .i64 (upI b k)]) (by simp [results, Tryd.results36, go_sem]) rfl ⟨rfl, ?_⟩
  go_grown
theorem spanHull (a : Int) (b : Int) (c : Int) (d : Int) (w : World) :
    Calls Tryd.prog 31 #[.agg #[.int .i64 a, .int .i64 b], .agg #[.int .i64 c, .int .i64 d]] w fun e w' => e = .returned (.agg #[.int .i64 (min a c), .int .i64 (max b d)]) ∧ Below w.heap.size w w' := by
  go_enter Tryd.func31, Tryd.ntmps31
  go_wp2
  all_goals
    refine bodyPost_ret (v := .agg #[.int .i64 (min a c), .int .i64 (max b d)]) (by simp [results, Tryd.results31, go_sem] <;> omega) rfl ⟨rfl, ?_⟩
    go_grown
theorem refHull (a : Int) (b : Int) (c : Int) (d : Int) (w : World) :
    Calls Tryd.prog 33 #[.agg #[.int .i64 a, .int .i64 b], .agg #[.int .i64 c, .int .i64 d]] w fun e w' => e = .returned (.agg #[.int .i64 (min a c), .int .i64 (max b d)]) ∧ Below w.heap.size w w' := by
  go_enter Tryd.func33, Tryd.ntmps33
  go_wp2
  all_goals
    refine bodyPost_ret (v := .agg #[.int .i64 (min a c), .int .i64 (max b d)]) (by simp [results, Tryd.results33, go_sem] <;> omega) rfl ⟨rfl, ?_⟩
    go_grown
theorem spanMeetYes (a b c d : Int) (hm : max a c ≤ min b d) (w : World) :
    Calls Tryd.prog 53 #[.agg #[.int .i64 a, .int .i64 b], .agg #[.int .i64 c, .int .i64 d]] w fun e w' => e = .returned (.tuple #[.agg #[.int .i64 (max a c), .int .i64 (min b d)], .bool true]) ∧ Below w.heap.size w w' := by
  go_enter Tryd.func53, Tryd.ntmps53
  go_wp2
  all_goals
    refine bodyPost_ret (v := .tuple #[.agg #[.int .i64 (max a c), .int .i64 (min b d)], .bool true]) (by simp [results, Tryd.results53, go_sem] <;> omega) rfl ⟨rfl, ?_⟩
    go_grown
theorem spanMeetNo (a b c d : Int) (hm : min b d < max a c) (w : World) :
    Calls Tryd.prog 53 #[.agg #[.int .i64 a, .int .i64 b], .agg #[.int .i64 c, .int .i64 d]] w fun e w' => e = .returned (.tuple #[.agg #[.int .i64 0, .int .i64 0], .bool false]) ∧ Below w.heap.size w w' := by
  go_enter Tryd.func53, Tryd.ntmps53
  go_wp2
  all_goals
    refine bodyPost_ret (v := .tuple #[.agg #[.int .i64 0, .int .i64 0], .bool false]) (by simp [results, Tryd.results53, go_sem] <;> omega) rfl ⟨rfl, ?_⟩
    go_grown
theorem refMeetYes (a b c d : Int) (hm : max a c ≤ min b d) (w : World) :
    Calls Tryd.prog 29 #[.agg #[.int .i64 a, .int .i64 b], .agg #[.int .i64 c, .int .i64 d]] w fun e w' => e = .returned (.tuple #[.agg #[.int .i64 (max a c), .int .i64 (min b d)], .bool true]) ∧ Below w.heap.size w w' := by
  go_enter Tryd.func29, Tryd.ntmps29
  go_wp2
  all_goals
    refine bodyPost_ret (v := .tuple #[.agg #[.int .i64 (max a c), .int .i64 (min b d)], .bool true]) (by simp [results, Tryd.results29, go_sem] <;> omega) rfl ⟨rfl, ?_⟩
    go_grown
theorem refMeetNo (a b c d : Int) (hm : min b d < max a c) (w : World) :
    Calls Tryd.prog 29 #[.agg #[.int .i64 a, .int .i64 b], .agg #[.int .i64 c, .int .i64 d]] w fun e w' => e = .returned (.tuple #[.agg #[.int .i64 0, .int .i64 0], .bool false]) ∧ Below w.heap.size w w' := by
  go_enter Tryd.func29, Tryd.ntmps29
  go_wp2
  all_goals
    refine bodyPost_ret (v := .tuple #[.agg #[.int .i64 0, .int .i64 0], .bool false]) (by simp [results, Tryd.results29, go_sem] <;> omega) rfl ⟨rfl, ?_⟩
    go_grown
theorem spanWiden (a : Int) (b : Int) (k : Int) (ha : I64 a) (hb : I64 b) (hk : I64 k) (w : World) :
    Calls Tryd.prog 38 #[.agg #[.int .i64 a, .int .i64 b], .int .i64 k] w fun e w' => e = .returned (.agg #[.int .i64 (sat (a - max k 0)), .int .i64 (sat (b + max k 0))]) ∧ Below w.heap.size w w' := by
  have hk0 : I64 (max k 0) := by unfold I64 at *; omega
  by_cases hk1 : k < 0
  · have e1 : max k 0 = 0 := by omega
    rw [e1] at hk0 ⊢
    clear e1
    go_enter Tryd.func38, Tryd.ntmps38
    go_wp2
    refine wp_region_still_tail 8 (by kernel_rfl) (by kernel_rfl) ?_
    change wpStill _ _ (World.drew _) (fun a' => wpList _ _ _ _ a' (World.drew _)) _ _
    simp only [List.take_succ_cons, List.take_zero, List.drop_succ_cons, List.drop_zero]
    repeat still_step
    still_call (st (fixedSub _ _ ha hk0 _))
    repeat still_step
    still_call (st (fixedAdd _ _ hb hk0 _))
    repeat still_step
    refine wpStill_nil ?_
    go_wp2
    refine bodyPost_ret (v := .agg #[.int .i64 (sat (a - 0)), .int .i64 (sat (b + 0))]) (by simp [results, Tryd.results38, go_sem]) rfl ⟨rfl, ?_⟩
    go_grown
  · have e1 : max k 0 = k := by omega
    rw [e1] at hk0 ⊢
    clear e1
    go_enter Tryd.func38, Tryd.ntmps38
    go_wp2
    refine wp_region_still_tail 8 (by kernel_rfl) (by kernel_rfl) ?_
    change wpStill _ _ (World.drew _) (fun a' => wpList _ _ _ _ a' (World.drew _)) _ _
    simp only [List.take_succ_cons, List.take_zero, List.drop_succ_cons, List.drop_zero]
    repeat still_step
    still_call (st (fixedSub _ _ ha hk0 _))
    repeat still_step
    still_call (st (fixedAdd _ _ hb hk0 _))
    repeat still_step
    refine wpStill_nil ?_
    go_wp2
    refine bodyPost_ret (v := .agg #[.int .i64 (sat (a - k)), .int .i64 (sat (b + k))]) (by simp [results, Tryd.results38, go_sem]) rfl ⟨rfl, ?_⟩
    go_grown
theorem refWiden (a : Int) (b : Int) (k : Int) (ha : I64 a) (hb : I64 b) (hk : I64 k) (w : World) :
    Calls Tryd.prog 42 #[.agg #[.int .i64 a, .int .i64 b], .int .i64 k] w fun e w' => e = .returned (.agg #[.int .i64 (sat (a - max k 0)), .int .i64 (sat (b + max k 0))]) ∧ Below w.heap.size w w' := by
  by_cases hk1 : k < 0
  · have e1 : max k 0 = 0 := by omega
    rw [e1, Int.sub_zero, Int.add_zero, satId a ha, satId b hb]
    clear e1
    go_enter Tryd.func42, Tryd.ntmps42
    go_wp2
    refine bodyPost_ret (v := .agg #[.int .i64 a, .int .i64 b]) (by simp [results, Tryd.results42, go_sem]) rfl ⟨rfl, ?_⟩
    go_grown
  · have e1 : max k 0 = k := by omega
    rw [e1]
    clear e1
    go_enter Tryd.func42, Tryd.ntmps42
    go_wp2
    refine wp_region_still_tail 8 (by kernel_rfl) (by kernel_rfl) ?_
    change wpStill _ _ (World.drew _) (fun a' => wpList _ _ _ _ a' (World.drew _)) _ _
    simp only [List.take_succ_cons, List.take_zero, List.drop_succ_cons, List.drop_zero]
    repeat still_step
    still_call (st (refSub _ _ ha hk _))
    repeat still_step
    still_call (st (refAdd _ _ hb hk _))
    repeat still_step
    refine wpStill_nil ?_
    go_wp2
    refine bodyPost_ret (v := .agg #[.int .i64 (sat (a - k)), .int .i64 (sat (b + k))]) (by simp [results, Tryd.results42, go_sem]) rfl ⟨rfl, ?_⟩
    go_grown
theorem refHas (a : Int) (b : Int) (x : Int) (w : World) :
    Calls Tryd.prog 82 #[.agg #[.int .i64 a, .int .i64 b], .int .i64 x] w fun e w' => e = .returned (.bool (hasB a b x)) ∧ Below w.heap.size w w' := by
  go_enter Tryd.func82, Tryd.ntmps82
  go_wp2
  all_goals
    go_ret
    refine ⟨ret_bool ?_, by go_grown⟩
    simp [hasB] <;> omega
theorem refIn (a : Int) (b : Int) (c : Int) (d : Int) (w : World) :
    Calls Tryd.prog 20 #[.agg #[.int .i64 a, .int .i64 b], .agg #[.int .i64 c, .int .i64 d]] w fun e w' => e = .returned (.bool (inB a b c d)) ∧ Below w.heap.size w w' := by
  go_enter Tryd.func20, Tryd.ntmps20
  go_wp2
  all_goals
    go_ret
    refine ⟨ret_bool ?_, by go_grown⟩
    simp [inB] <;> omega
theorem sameSpan (a : Int) (b : Int) (c : Int) (d : Int) (w : World) :
    Calls Tryd.prog 15 #[.agg #[.int .i64 a, .int .i64 b], .agg #[.int .i64 c, .int .i64 d]] w fun e w' => e = .returned (.bool (sameB a b c d)) ∧ Below w.heap.size w w' := by
  go_enter Tryd.func15, Tryd.ntmps15
  go_wp2
  all_goals
    go_ret
    refine ⟨ret_bool ?_, by go_grown⟩
    first | (simp [sameB]; done) | (simp [sameB]; omega) | (simp_all [sameB]; rfl)
theorem spanClamp (a : Int) (b : Int) (lo : Int) (hi : Int) (w : World) :
    Calls Tryd.prog 75 #[.agg #[.int .i64 a, .int .i64 b], .int .i64 lo, .int .i64 hi] w fun e w' => e = .returned (.agg #[.int .i64 (clampI a lo hi), .int .i64 (clampI b lo hi)]) ∧ Below w.heap.size w w' := by
  go_enter Tryd.func75, Tryd.ntmps75
  go_wp2
  refine wp_region_still_tail 10 (by kernel_rfl) (by kernel_rfl) ?_
  change wpStill _ _ (World.drew _) (fun a' => wpList _ _ _ _ a' (World.drew _)) _ _
  simp only [List.take_succ_cons, List.take_zero, List.drop_succ_cons, List.drop_zero]
  repeat still_step
  still_call (st (fixedClamp _ _ _ _))
  repeat still_step
  still_call (st (fixedClamp _ _ _ _))
  repeat still_step
  refine wpStill_nil ?_
  go_wp2
  refine bodyPost_ret (v := .agg #[.int .i64 (clampI a lo hi), .int .i64 (clampI b lo hi)]) (by simp [results, Tryd.results75, go_sem]) rfl ⟨rfl, ?_⟩
  go_grown
theorem refClampSpan (a : Int) (b : Int) (lo : Int) (hi : Int) (w : World) :
    Calls Tryd.prog 49 #[.agg #[.int .i64 a, .int .i64 b], .int .i64 lo, .int .i64 hi] w fun e w' => e = .returned (.agg #[.int .i64 (clampI a lo hi), .int .i64 (clampI b lo hi)]) ∧ Below w.heap.size w w' := by
  go_enter Tryd.func49, Tryd.ntmps49
  go_wp2
  refine wp_region_still_tail 10 (by kernel_rfl) (by kernel_rfl) ?_
  change wpStill _ _ (World.drew _) (fun a' => wpList _ _ _ _ a' (World.drew _)) _ _
  simp only [List.take_succ_cons, List.take_zero, List.drop_succ_cons, List.drop_zero]
  repeat still_step
  still_call (st (refClamp _ _ _ _))
  repeat still_step
  still_call (st (refClamp _ _ _ _))
  repeat still_step
  refine wpStill_nil ?_
  go_wp2
  refine bodyPost_ret (v := .agg #[.int .i64 (clampI a lo hi), .int .i64 (clampI b lo hi)]) (by simp [results, Tryd.results49, go_sem]) rfl ⟨rfl, ?_⟩
  go_grown
def SpAt (w : World) (B : Nat) (a b : Int) : Prop := w.cell? ⟨B, 0, none⟩ = some (.int .i64 a) ∧ w.cell? ⟨B, 1, none⟩ = some (.int .i64 b) ∧ B < w.heap.size
theorem SpAt.keep {W w1 : World} {B : Nat} {a b : Int} (h : SpAt W B a b) (hb : Below W.heap.size W w1) : SpAt w1 B a b :=
  ⟨(hb.cell (p := ⟨B, 0, none⟩) h.2.2).trans h.1, (hb.cell (p := ⟨B, 1, none⟩) h.2.2).trans h.2.1, Nat.lt_of_lt_of_le h.2.2 hb.size⟩
theorem SpAt.alloc {W : World} {B : Nat} {a b : Int} (h : SpAt W B a b) (o : Obj) : SpAt (W.alloc o) B a b :=
  h.keep ((Below.refl _ _).alloc (Nat.le_refl _) o)
theorem SpAt.new (W : World) (a b : Int) (T : TypeId) : SpAt (W.alloc (.cells #[.int .i64 a, .int .i64 b] T)) W.heap.size a b := by
  refine ⟨?_, ?_, by simp⟩ <;> simp [go_sem]
theorem below_step {w w2 w3 : World} (t : Below w.heap.size w w2) (hb : Below w2.heap.size w2 w3) : Below w.heap.size w w3 := t.trans (hb.mono t.size)
theorem below_stepA {w w2 w3 : World} {o : Obj} (t : Below w.heap.size w w2) (hb : Below (w2.alloc o).heap.size (w2.alloc o) w3) : Below w.heap.size w w3 :=
  (t.alloc t.size o).trans (hb.mono (by have := t.size; simp; omega))
end Go.Proofs.YtakdoagigbjngaaDoor
