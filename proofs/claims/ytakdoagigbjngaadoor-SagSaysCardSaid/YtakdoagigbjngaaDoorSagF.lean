/- The chapter's examples of volts and charges. Conditions: none. -/
import Derived.Test.YtakdoagigbjngaaDoorSagR
import Derived.Test.YtakdoagigbjngaaDoorCfg
namespace Go.Proofs.YtakdoagigbjngaaDoor
open Go.RowKit
set_option linter.unusedVariables false
def ocvX : Nat → Int
  | 0 => 0
  | 1 => 20000
  | 2 => 80000
  | _ => 100000
def ocvY : Nat → Int
  | 0 => 20000
  | 1 => 23000
  | 2 => 25000
  | _ => 28000
theorem ocv_ok : TabOk 4 ocvX ocvY := by
  refine ⟨by omega, by omega, fun i h => ?_, fun i h => ?_, fun i h => ?_, fun i h => ?_⟩
  · match i, h with
    | 0, _ | 1, _ | 2, _ | 3, _ => decide
  · match i, h with
    | 0, _ | 1, _ | 2, _ | 3, _ => decide
  · match i, h with
    | 0, _ | 1, _ | 2, _ => decide
  · match i, h with
    | 0, _ | 1, _ | 2, _ => decide
theorem ocv_pts {w : World} {O : Nat} (h : Ocv w O) : Pts w ⟨O, 0, none⟩ 4 ocvX ocvY := by
  unfold Ocv ocvA at h
  intro i hi
  match i, hi with
  | 0, _ | 1, _ | 2, _ | 3, _ => exact ⟨cell_of_row _ _ _ _ _ _ h, cell_of_row _ _ _ _ _ _ h⟩
theorem tmod_b (a : Int) (b : Int) (hb : 0 < b) : -b < a.tmod b ∧ a.tmod b < b := by
  have h1 := Int.tmod_lt_of_pos a hb
  have h2 := Int.tmod_lt_of_pos (-a) hb
  rw [Int.neg_tmod] at h2
  omega
theorem mod_pos (a : Int) (b : Int) (hb : 0 < b) : 0 ≤ (a.tmod b + b).tmod b ∧ (a.tmod b + b).tmod b < b := by
  have h1 := tmod_b a b hb
  exact ⟨Int.tmod_nonneg _ (by omega), Int.tmod_lt_of_pos _ hb⟩
/-- What a configuration says of volts and charges. -/
structure CA (A : Array Value) (O : Nat) (e : Int) : Prop where
  hs : A.size = 27
  g5 : A[5]? = some (.int .i64 100000)
  g7 : A[7]? = some (.int .i64 500)
  g9 : A[9]? = some (.int .i64 10000)
  g16 : A[16]? = some (.int .i64 20)
  g17 : A[17]? = some (.int .i64 e)
  g20 : A[20]? = some (.slice (some ⟨O, 0, none⟩) 4 4)
  one : A.all (·.oneCell') = true
theorem CA.of (c : CF) (O : Nat) (fa : Option Addr) (fl fc : Nat) : CA (cfgA c (.slice (some ⟨O, 0, none⟩) 4 4) (.slice fa fl fc)) O 100 :=
  ⟨rfl, rfl, rfl, rfl, rfl, rfl, rfl, cfgA_one rfl rfl⟩
theorem CA.hi {A : Array Value} {O : Nat} {e : Int} (h : CA A O e) : (Tryd.prog.info? 28).map (·.size) = some A.size := by rw [h.hs]; kernel_rfl
/-- A configuration in its box at B, its table of charges, and all that was there. -/
structure LC (w wr : World) (B : Nat) (A : Array Value) (O : Nat) : Prop where
  row : wr.heap[B]? = some (.cells A 28 (0, 0))
  pts : Pts wr ⟨O, 0, none⟩ 4 ocvX ocvY
  lo : Below w.heap.size w wr
theorem LC.below {w wr w' : World} {B O : Nat} {A : Array Value} (h : LC w wr B A O) (hb : Below wr.heap.size wr w') : LC w w' B A O :=
  ⟨(hb.block _ (Array.getElem?_eq_some_iff.1 h.row).1).trans h.row, h.pts.below hb, h.lo.trans (hb.mono h.lo.size)⟩
theorem LC.alloc {w wr : World} {B O : Nat} {A : Array Value} (h : LC w wr B A O) (o : Obj) : LC w (wr.alloc o) B A O :=
  h.below ((Below.refl _ _).alloc (Nat.le_refl _) o)
theorem LC.cell {w wr : World} {B O : Nat} {A : Array Value} (h : LC w wr B A O) (i : Nat) {v : Value} (hv : A[i]? = some v) : wr.cell? ⟨B, i, none⟩ = some v := by
  have := h.row
  simp [World.cell?, this, hv]
/-- The configuration's own words. -/
theorem configL (n m k : Int) (w : World) :
    Calls Tryd.prog 12 #[.int .i64 n, .int .i64 m, .int .i64 k] w fun e w' => ∃ A O, e = .returned (.agg A) ∧ CA A O 100 ∧ Pts w' ⟨O, 0, none⟩ 4 ocvX ocvY ∧ Below w.heap.size w w' := by
  refine (configC n m k w).mono ?_
  rintro e w1 ⟨O, fa, fl, fc, rfl, hO, hocv, hb1⟩
  exact ⟨_, O, rfl, CA.of _ O fa fl fc, ocv_pts hocv, hb1⟩
set_option maxRecDepth 20000 in
set_option maxHeartbeats 4000000 in
theorem sagFirst (w : World) : Calls Tryd.prog 11 #[] w fun e w' => e = .returned (.bool true) ∧ Below w.heap.size w w' := by
  go_enter Tryd.func11, Tryd.ntmps11
  go_wp2_with fail
  refine (configL 0 0 0 _).mono ?_
  rintro e w1 ⟨A, O, rfl, ca, hp1, hb1⟩
  have CC := Lib.hid ca
  have PP := Lib.hid hp1
  have HB := Lib.hid hb1
  have hs := ca.hs
  have hi := ca.hi
  clear ca hp1 hb1
  go_wp2_with fail
  refine upon_fresh (cells := A) rfl (by rw [hs]; rfl) CC.out.one ?_
  intro W bW sW hW
  have L0 := Lib.hid (show LC w W w1.heap.size A O from ⟨hW, PP.out.below bW, HB.out.trans (bW.mono HB.out.size)⟩)
  clear bW hW PP HB
  dsimp only [Act.put]
  go_wp2_with (refine wpList_load_row_g (by kernel_rfl) 28 _ rfl w1.heap.size rfl 28 _ (0, 0) _ L0.out.row Tryd.underlying28 rfl hi ?_)
  refine (sagChargeNo A 0 0 false false CC.out.g9 rfl _).mono ?_
  rintro e w2 ⟨rfl, hb⟩
  have L1 := Lib.hid (L0.out.below hb)
  clear hb L0
  go_wp2_with (refine wpList_load_row_g (by kernel_rfl) 28 _ rfl w1.heap.size rfl 28 _ (0, 0) _ (L1.out.alloc _).row Tryd.underlying28 rfl hi ?_)
  refine (sagRestC A 100 0 100 CC.out.g16 CC.out.g17 (by omega) (by omega) (by omega) _).mono ?_
  rintro e w3 ⟨rfl, hb⟩
  have L2 := Lib.hid ((L1.out.alloc _).below hb)
  clear hb L1
  rw [show restL 100 0 100 = 0 by decide, show restH 100 0 100 = 200 by decide]
  go_wp2_with fail
  go_returns
  exact ⟨rfl, (L2.out.alloc _).lo⟩
end Go.Proofs.YtakdoagigbjngaaDoor
