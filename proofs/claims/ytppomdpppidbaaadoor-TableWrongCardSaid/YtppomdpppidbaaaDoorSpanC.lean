/- What the functions of package span, and the document's own on spans, return; what was there before the call is as it was. Conditions: the numbers of a span are numbers of 64 bits. -/
import Derived.Test.YtppomdpppidbaaaDoorNum
import Derived.Deep.QuietTactic
import Derived.BigQuiet
import Derived.StillTailTactics
import Derived.Below
import Derived.Lib.Hide
namespace Go.Proofs.YtppomdpppidbaaaDoor
open Go.RowKit
set_option maxRecDepth 10000
theorem satId (a : Int) (h : I64 a) : sat a = a := by unfold sat; unfold I64 at h; omega
def hasB (lo hi x : Int) : Bool := decide (lo ≤ x) && decide (x ≤ hi)
def inB (a b c d : Int) : Bool := decide (c ≤ a) && decide (b ≤ d)
def sameB (a b c d : Int) : Bool := decide (a = c) && decide (b = d)
theorem sameB_self (a b : Int) : sameB a b a b = true := by simp [sameB]
theorem bcell {W w1 : World} (hb : Below W.heap.size W w1) : (∀ b o, b < W.heap.size → w1.cell? ⟨b, o, none⟩ = W.cell? ⟨b, o, none⟩) ∧ (∀ b o, b < W.heap.size → w1.frozen? ⟨b, o, none⟩ = W.frozen? ⟨b, o, none⟩) :=
  ⟨fun b o h => hb.cell (p := ⟨b, o, none⟩) h, fun b o h => hb.frozen (p := ⟨b, o, none⟩) h⟩
theorem spanOf (a : Int) (b : Int) (w : World) :
    Calls Tryd.prog 25 #[.int .i64 a, .int .i64 b] w fun e w' => e = .returned (.agg #[.int .i64 (min a b), .int .i64 (max a b)]) ∧ Below w.heap.size w w' := by
  go_enter Tryd.func25, Tryd.ntmps25
  go_wp2
  all_goals
    refine bodyPost_ret (v := .agg #[.int .i64 (min a b), .int .i64 (max a b)]) (by simp [results, Tryd.results25, go_sem] <;> omega) rfl ⟨rfl, ?_⟩
    go_grown
theorem refOf (a : Int) (b : Int) (w : World) :
    Calls Tryd.prog 33 #[.int .i64 a, .int .i64 b] w fun e w' => e = .returned (.agg #[.int .i64 (min a b), .int .i64 (max a b)]) ∧ Below w.heap.size w w' := by
  go_enter Tryd.func33, Tryd.ntmps33
  go_wp2
  all_goals
    refine bodyPost_ret (v := .agg #[.int .i64 (min a b), .int .i64 (max a b)]) (by simp [results, Tryd.results33, go_sem] <;> omega) rfl ⟨rfl, ?_⟩
    go_grown
theorem st {P : Program} {f : FuncId} {args : Array Value} {w : World} {v : Value} (h : Calls P f args w fun e w' => e = .returned v ∧ w = w') : Calls P f args w fun e w' => e = .returned v ∧ w' = w :=
  h.mono fun _ _ h => ⟨h.1, h.2.symm⟩
theorem sameSpan (a : Int) (b : Int) (c : Int) (d : Int) (w : World) :
    Calls Tryd.prog 15 #[.agg #[.int .i64 a, .int .i64 b], .agg #[.int .i64 c, .int .i64 d]] w fun e w' => e = .returned (.bool (sameB a b c d)) ∧ Below w.heap.size w w' := by
  go_enter Tryd.func15, Tryd.ntmps15
  go_wp2
  all_goals
    go_ret
    refine ⟨ret_bool ?_, by go_grown⟩
    first | (simp [sameB]; done) | (simp [sameB]; omega) | (simp_all [sameB]; rfl)
def SpAt (w : World) (B : Nat) (a b : Int) : Prop := w.cell? ⟨B, 0, none⟩ = some (.int .i64 a) ∧ w.cell? ⟨B, 1, none⟩ = some (.int .i64 b) ∧ B < w.heap.size
theorem SpAt.keep {W w1 : World} {B : Nat} {a b : Int} (h : SpAt W B a b) (hb : Below W.heap.size W w1) : SpAt w1 B a b :=
  ⟨(hb.cell (p := ⟨B, 0, none⟩) h.2.2).trans h.1, (hb.cell (p := ⟨B, 1, none⟩) h.2.2).trans h.2.1, Nat.lt_of_lt_of_le h.2.2 hb.size⟩
theorem SpAt.alloc {W : World} {B : Nat} {a b : Int} (h : SpAt W B a b) (o : Obj) : SpAt (W.alloc o) B a b :=
  h.keep ((Below.refl _ _).alloc (Nat.le_refl _) o)
theorem SpAt.new (W : World) (a b : Int) (T : TypeId) : SpAt (W.alloc (.cells #[.int .i64 a, .int .i64 b] T)) W.heap.size a b := by
  refine ⟨?_, ?_, by simp⟩ <;> simp [go_sem]
theorem below_step {w w2 w3 : World} (t : Below w.heap.size w w2) (hb : Below w2.heap.size w2 w3) : Below w.heap.size w w3 := t.trans (hb.mono t.size)
theorem below_stepA {w w2 w3 : World} {o : Obj} (t : Below w.heap.size w w2) (hb : Below (w2.alloc o).heap.size (w2.alloc o) w3) : Below w.heap.size w w3 :=
  (t.alloc t.size o).trans (hb.mono (by have := t.size; simp; omega))
end Go.Proofs.YtppomdpppidbaaaDoor
