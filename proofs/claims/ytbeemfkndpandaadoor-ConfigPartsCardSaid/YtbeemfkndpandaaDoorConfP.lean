/- Tables that do not begin at none or end at all, feeders and bounds that are none, are told by their number. Conditions: the seven errors lie apart. -/
import Derived.Test.YtbeemfkndpandaaDoorConfE
import Derived.Test.YtbeemfkndpandaaDoorNumb
import Derived.Deep.CutBlock
import Derived.Deep.DeepCutAuto
import Derived.Deep.AppendLies
namespace Go.Proofs.YtbeemfkndpandaaDoor
open Go.RowKit
set_option linter.unusedVariables false
set_option maxRecDepth 20000
theorem amiss_of {l : List Bool} (i : Nat) (hi : i < 27) (h1 : l.take i = List.replicate i true) (h2 : l[i]? = some false) : Amiss (fun j => l[j]?.getD false) 106 true ((i : Int) + 1) := by
  refine .bad i (by omega) (by show (_ : Option Bool).getD false = false; rw [h2]; rfl) (fun j hj => ?_)
  show (_ : Option Bool).getD false = true
  rw [← List.getElem?_take_of_lt hj, h1, List.getElem?_replicate, if_pos hj]; rfl
/-- A configuration whose field number want is the first that is amiss lies in block B. -/
def PartI (w4 wx : World) (B : Nat) (want : Int) : Prop :=
  ∃ (g : CG) (a : Option Addr) (n cp : Nat) (x y : Nat → Int) (b : Option Addr) (m cq : Nat) (bu lo pr : Nat → Int) (o f : Bool),
    Rw wx B g (.slice a n cp) (.slice b m cq) ∧ (o = true ↔ ocvOk n x y g.Cap) ∧ (f = true ↔ fedOk m bu lo pr) ∧ n < 4611686018427387904 ∧ m < 4611686018427387904 ∧ PtsG wx a n x y ∧ FedG wx b m bu lo pr ∧
    Amiss (fun i => (okL g o f)[i]?.getD false) 106 true want ∧ Below w4.heap.size w4 wx
theorem Below.okE {c : CF} (h : CB c) : inB c.D 1 100 = true ∧ inB c.B 1 100 = true ∧ inB c.S 1 100 = true ∧ inB c.P 1 100 = true ∧ inB c.H 1 100 = true ∧ inB c.err 0 500000 = true ∧ inB c.eland 0 1073741824 = true ∧ inB c.margin 500 1073741824 = true := by
  obtain ⟨d, b, s, p, hh, e, l, g⟩ := h
  exact ⟨inB_true (by omega) (by omega), inB_true (by omega) (by omega), inB_true (by omega) (by omega), inB_true (by omega) (by omega), inB_true (by omega) (by omega), inB_true (by omega) (by omega), inB_true (by omega) (by omega), inB_true (by omega) (by omega)⟩
theorem owns_cell {w : World} {base : Nat} {e : TypeId} {size g n cap : Nat} {xs : List Value} (h : w.ownsRow base e size (.slice (some ⟨g, 0, none⟩) n cap) n xs) (j : Nat) (v : Value) (hj : j < n * size) (hv : xs[j]? = some v) : w.cell? ⟨g, j, none⟩ = some v := by
  rcases h.2 with ⟨e, _⟩ | ⟨g', cap', cur, e, hb, hg, hn, hc, hs, ht⟩
  · cases e
  · cases e
    rw [← ht, List.getElem?_take_of_lt hj] at hv
    exact (cell_of_row _ _ j _ _ _ hg).trans (by simpa using hv)
theorem pointI : (Tryd.prog.info? 67).map (fun i => (i.zero, i.size, i.bytes)) = some (some (.agg #[.int .i64 0, .int .i64 0]), 2, 16) := by kernel_rfl
def x5 : Nat → Int
  | 0 => -1
  | i + 1 => oxF i
def y5 : Nat → Int
  | 0 => 0
  | i + 1 => oyF i
theorem pts5 {w : World} {base g cap : Nat} (h : w.ownsRow base 67 2 (.slice (some ⟨g, 0, none⟩) 5 cap) 5 ([.int .i64 (-1), .int .i64 0] ++ ocvA.toList)) : PtsG w (some ⟨g, 0, none⟩) 5 x5 y5 := by
  intro i hi
  refine ⟨_, rfl, ?_⟩
  rw [add0]
  have q := owns_cell h
  rcases (show i = 0 ∨ i = 1 ∨ i = 2 ∨ i = 3 ∨ i = 4 by omega) with rfl | rfl | rfl | rfl | rfl
  · exact ⟨q 0 _ (by omega) rfl, q 1 _ (by omega) rfl⟩
  · exact ⟨q 2 _ (by omega) rfl, q 3 _ (by omega) rfl⟩
  · exact ⟨q 4 _ (by omega) rfl, q 5 _ (by omega) rfl⟩
  · exact ⟨q 6 _ (by omega) rfl, q 7 _ (by omega) rfl⟩
  · exact ⟨q 8 _ (by omega) rfl, q 9 _ (by omega) rfl⟩
theorem fed1 {w : World} {base g cap : Nat} {p q r : Int} (h : w.ownsRow base 50 3 (.slice (some ⟨g, 0, none⟩) 1 cap) 1 ([] ++ [.int .i64 p, .int .i64 q, .int .i64 r])) : FedG w (some ⟨g, 0, none⟩) 1 (fun _ => p) (fun _ => q) (fun _ => r) := by
  intro i hi
  refine ⟨_, rfl, ?_⟩
  rw [add0]
  have k := owns_cell h
  obtain rfl : i = 0 := by omega
  exact ⟨k 0 _ (by omega) rfl, k 1 _ (by omega) rfl, k 2 _ (by omega) rfl⟩
def Z17 : Array Value := Array.replicate 51 (.int .i64 0)
theorem fedZ {w : World} {g : Nat} (h : w.heap[g]? = some (.cells Z17 50 (0, 0))) : FedG w (some ⟨g, 0, none⟩) 17 (fun _ => 0) (fun _ => 0) (fun _ => 0) := by
  intro i hi
  refine ⟨_, rfl, ?_⟩
  rw [add0]
  have k : ∀ j, j < 51 → w.cell? ⟨g, j, none⟩ = some (.int .i64 0) := by
    intro j hj
    refine (cell_of_row _ _ j _ _ _ h).trans ?_
    unfold Z17
    rw [Array.getElem?_replicate, if_pos hj]
  exact ⟨k (i * 3) (by omega), k (i * 3 + 1) (by omega), k (i * 3 + 2) (by omega)⟩
theorem add_block (p : Addr) (k : Nat) : (p.add k).block = p.block := by
  unfold Addr.add
  split <;> rfl
theorem cell_set {w : World} {B j : Nat} {v u : Value} {p : Addr} (h : w.cell? p = some u) (hp : p.block ≠ B) : (w.setCell ⟨B, j, none⟩ v).cell? p = some u :=
  (World.cell?_of_block (heap_setCell_other w ⟨B, j, none⟩ p.block v hp)).trans h
theorem PtsG.set {w : World} {a : Option Addr} {n B j : Nat} {v : Value} {x y : Nat → Int} (h : PtsG w a n x y) (hB : ∀ p, a = some p → p.block ≠ B) : PtsG (w.setCell ⟨B, j, none⟩ v) a n x y := by
  intro i hi
  obtain ⟨p, e, h1, h2⟩ := h i hi
  exact ⟨p, e, cell_set h1 (by rw [add_block]; exact hB p e), cell_set h2 (by show (p.add _).block ≠ B; rw [add_block]; exact hB p e)⟩
theorem FedG.set {w : World} {a : Option Addr} {n B j : Nat} {v : Value} {x y z : Nat → Int} (h : FedG w a n x y z) (hB : ∀ p, a = some p → p.block ≠ B) : FedG (w.setCell ⟨B, j, none⟩ v) a n x y z := by
  intro i hi
  obtain ⟨p, e, h1, h2, h3⟩ := h i hi
  exact ⟨p, e, cell_set h1 (by rw [add_block]; exact hB p e), cell_set h2 (by show (p.add _).block ≠ B; rw [add_block]; exact hB p e), cell_set h3 (by show (p.add _).block ≠ B; rw [add_block]; exact hB p e)⟩
theorem owns_ge {w : World} {base : Nat} {e : TypeId} {size g n cap : Nat} {xs : List Value} (h : w.ownsRow base e size (.slice (some ⟨g, 0, none⟩) n cap) n xs) : base ≤ g := by
  rcases h.2 with ⟨e, _⟩ | ⟨g', cap', cur, e, hb, _⟩
  · cases e
  · cases e; exact hb
theorem bad22 {c : CF} (h : CB c) : Amiss (fun i => (okL { c.cg with GenMax := -1 } true true)[i]?.getD false) 106 true 22 := by
  obtain ⟨e1, e2, e3, e4, e5, e6, e7, e8⟩ := Below.okE h
  refine amiss_of 21 (by omega) ?_ ?_ <;> (simp only [okL, CF.cg, e1, e2, e3, e4, e5, e6, e7, e8]; kernel_rfl)
theorem bad23 {c : CF} (h : CB c) : Amiss (fun i => (okL { c.cg with BatMax := 1073741825 } true true)[i]?.getD false) 106 true 23 := by
  obtain ⟨e1, e2, e3, e4, e5, e6, e7, e8⟩ := Below.okE h
  refine amiss_of 22 (by omega) ?_ ?_ <;> (simp only [okL, CF.cg, e1, e2, e3, e4, e5, e6, e7, e8]; kernel_rfl)
theorem bad24 {c : CF} (h : CB c) : Amiss (fun i => (okL { c.cg with ExtMax := -1 } true true)[i]?.getD false) 106 true 24 := by
  obtain ⟨e1, e2, e3, e4, e5, e6, e7, e8⟩ := Below.okE h
  refine amiss_of 23 (by omega) ?_ ?_ <;> (simp only [okL, CF.cg, e1, e2, e3, e4, e5, e6, e7, e8]; kernel_rfl)
theorem bad25 {c : CF} (h : CB c) : Amiss (fun i => (okL { c.cg with Eland := 1073741825 } true true)[i]?.getD false) 106 true 25 := by
  obtain ⟨e1, e2, e3, e4, e5, e6, e7, e8⟩ := Below.okE h
  refine amiss_of 24 (by omega) ?_ ?_ <;> (simp only [okL, CF.cg, e1, e2, e3, e4, e5, e6, e8]; kernel_rfl)
theorem bad26 {c : CF} (h : CB c) : Amiss (fun i => (okL { c.cg with Margin := 499 } true true)[i]?.getD false) 106 true 26 := by
  obtain ⟨e1, e2, e3, e4, e5, e6, e7, e8⟩ := Below.okE h
  refine amiss_of 25 (by omega) ?_ ?_ <;> (simp only [okL, CF.cg, e1, e2, e3, e4, e5, e6, e7]; kernel_rfl)
theorem bad19 {c : CF} (h : CB c) : Amiss (fun i => (okL { c.cg with AmpErr := 500001, Eland := -1 } true true)[i]?.getD false) 106 true 19 := by
  obtain ⟨e1, e2, e3, e4, e5, e6, e7, e8⟩ := Below.okE h
  refine amiss_of 18 (by omega) ?_ ?_ <;> (simp only [okL, CF.cg, e1, e2, e3, e4, e5, e8]; kernel_rfl)
theorem bad21 {c : CF} (h : CB c) : Amiss (fun i => (okL c.cg false true)[i]?.getD false) 106 true 21 := by
  obtain ⟨e1, e2, e3, e4, e5, e6, e7, e8⟩ := Below.okE h
  refine amiss_of 20 (by omega) ?_ ?_ <;> (simp only [okL, CF.cg, e1, e2, e3, e4, e5, e6, e7, e8]; kernel_rfl)
theorem bad27 {c : CF} (h : CB c) : Amiss (fun i => (okL c.cg true false)[i]?.getD false) 106 true 27 := by
  obtain ⟨e1, e2, e3, e4, e5, e6, e7, e8⟩ := Below.okE h
  refine amiss_of 26 (by omega) ?_ ?_ <;> (simp only [okL, CF.cg, e1, e2, e3, e4, e5, e6, e7, e8]; kernel_rfl)
theorem noOcv {n : Nat} {x y : Nat → Int} {cap : Int} (h : ¬ ocvOk n x y cap) : (false = true) ↔ ocvOk n x y cap := by simp [h]
theorem noFed {n : Nat} {bu lo pr : Nat → Int} (h : ¬ fedOk n bu lo pr) : (false = true) ↔ fedOk n bu lo pr := by simp [h]
set_option maxHeartbeats 8000000 in
theorem walkConfigParts (a0 : Int) (a1 : Int) (a2 : Int) (a3 : Int) (w : World) (w0 : (Lit.int .i64 a0).wf = true) (w1 : (Lit.int .i64 a1).wf = true) (w2 : (Lit.int .i64 a2).wf = true) (w3 : (Lit.int .i64 a3).wf = true) (hE : ∃ E, Ers E w) :
    Calls Tryd.prog 12 #[.int .i64 a0, .int .i64 a1, .int .i64 a2, .int .i64 a3] w fun e w' => e = .returned (.bool true) ∧ Below w.heap.size w w' := by
  obtain ⟨E, hE⟩ := hE
  have HE := Lib.hid hE
  clear w0 w1 w2 w3 hE
  obtain ⟨i0, hi0, hz0, hz1, hz2⟩ := info_parts feederI
  obtain ⟨j0, hj0, hy0, hy1, hy2⟩ := info_parts pointI
  obtain ⟨t, ht, t1, t2⟩ : ∃ t : Int, a3 % 12 = t ∧ 0 ≤ t ∧ t < 12 := ⟨_, rfl, by omega, by omega⟩
  have KN := Lib.hid fun (w : World) => numbC a3 12 (by omega) (by omega) w
  rw [ht] at KN
  have TT := Lib.hid (And.intro t1 t2)
  clear ht t1 t2
  go_enter Tryd.func12, Tryd.ntmps12
  go_wp2_with fail
  refine (first27 w HE.out).mono ?_
  rintro e wa ⟨rfl, hba⟩
  have HA := Lib.hid hba
  clear hba
  go_wp2_with fail
  refine (configF a0 a1 a2 wa).mono ?_
  rintro e w4 ⟨O, fa, fc, rfl, hO, ho, hf, hb⟩
  have L4 := Lib.hid (HA.out.trans (hb.mono HA.out.size))
  have CC := Lib.hid (CB.of (a0 % 1048576) (a1 % 1048576) (a2 % 1048576) (by omega) (by omega) (by omega))
  have HO := Lib.hid ho
  have HF := Lib.hid hf
  have hk : 0 ≤ a2 % 1048576 := by omega
  have hn : (a1 % 1048576 / 20 % 7).toNat ≤ 6 := by omega
  unfold cfgV
  rw [cgA_of]
  clear hb ho hf hO
  generalize (a1 % 1048576 / 20 % 7).toNat = fn at *
  generalize cfgOf (a0 % 1048576) (a1 % 1048576) (a2 % 1048576) = c at *
  generalize a2 % 1048576 = k at *
  have NN := Lib.hid (And.intro hk hn)
  clear hk hn
  go_wp2_with fail
  refine upon_fresh (by simp) rfl (by kernel_rfl) ?_
  intro W1 b1 s1 h1
  have R2 := Lib.hid (show Rw W1 w4.heap.size c.cg (.slice (some ⟨O, 0, none⟩) 4 4) (.slice fa fn fc) from h1)
  have L2 := Lib.hid b1
  have O2 := Lib.hid (HO.out.below b1 (Array.getElem?_eq_some_iff.1 HO.out).1)
  have F2 := Lib.hid (HF.out.below b1)
  replace s1 : W1.heap.size = w4.heap.size + 1 := s1
  have hO1 : O < w4.heap.size := (Array.getElem?_eq_some_iff.1 HO.out).1
  clear h1 b1
  go_upto_block 0 with (go_at_call 26; refine (KN.out _).mono ?_; rintro e w' ⟨rfl, rfl⟩)
  go_cut [11] (fun s wx => ∃ want : Int, s = .int .i64 want ∧ PartI w4 wx w4.heap.size want)
  case first =>
    clear KN HE
    obtain ⟨t1, t2⟩ := TT.out
    clear TT
    rcases (show t = 0 ∨ t = 1 ∨ t = 2 ∨ t = 3 ∨ t = 4 ∨ t = 5 ∨ t = 6 ∨ t = 7 ∨ t = 8 ∨ t = 9 ∨ t = 10 ∨ t = 11 by omega) with rfl | rfl | rfl | rfl | rfl | rfl | rfl | rfl | rfl | rfl | rfl | rfl
    · have c20 : W1.cell? ⟨w4.heap.size, 20, none⟩ = some (.slice (some ⟨O, 0, none⟩) 4 4) := R2.out.cell 20 rfl
      have hal := (Below.refl W1.heap.size W1).alloc (Nat.le_refl _) (.cells #[.int .i64 (-1), .int .i64 0] 67)
      have c20' := below_cell hal c20
      have R3 := Lib.hid (R2.out.below hal (by omega))
      have O3 := Lib.hid (HO.out.below (L2.out.trans (hal.mono L2.out.size)) hO1)
      have N3 := heap_alloc_new W1 (.cells #[.int .i64 (-1), .int .i64 0] 67)
      rw [s1] at N3
      have N4 := Lib.hid N3
      have M3 := Lib.hid (L2.out.trans (hal.mono L2.out.size))
      clear hal N3
      go_wp2_with (at_builtin
                   refine wpList_append_lies _ rfl _ _ 28 rfl (w4.heap.size + 1) 67 j0 (.agg #[.int .i64 0, .int .i64 0]) 2 16 Tryd.underlying28 hj0 hy0 hy1 hy2 rfl (by decide) (.slice (some ⟨w4.heap.size + 1, 0, none⟩) 1 1) 1 [.int .i64 (-1), .int .i64 0] rfl ⟨rfl, .inr ⟨_, 1, _, rfl, Nat.le_refl _, N4.out, by omega, by decide, rfl, rfl⟩⟩ ⟨O, 0, none⟩ 4 4 ocvA.toList rfl rfl (fun j u hu => by rw [add0]; exact (cell_of_row _ _ j _ _ _ O3.out).trans (by simpa using hu)) (by simp [ocvA, Value.oneCell']) (by decide) (by decide) (by decide) (by simp [s1]) _ rfl ?_
                   intro g cap w3 hown hgrow hat hlt
                   have R5 := Lib.hid (show Rw w3 w4.heap.size c.cg (.slice (some ⟨O, 0, none⟩) 4 4) (.slice fa fn fc) from (hgrow.block w4.heap.size (by simp <;> omega) (by simp [Value.ownBlock])).trans R3.out)
                   have L5 := Lib.hid (M3.out.grown hgrow (by simp <;> omega) (fun q hq => by cases hq; show w4.heap.size ≤ w4.heap.size + 1; omega))
                   have P5 := Lib.hid (pts5 hown)
                   have G5 := Lib.hid (owns_ge hown)
                   have c20'' : w3.cell? ⟨w4.heap.size, 20, none⟩ = some (.slice (some ⟨O, 0, none⟩) 4 4) := R5.out.cell 20 rfl
                   have f20 : w3.frozen? ⟨w4.heap.size, 20, none⟩ = false := R5.out.froz 20
                   clear hown hgrow hat hlt c20 c20')
      go_meet
      exact ⟨21, rfl, c.cg, _, 5, cap, x5, y5, fa, fn, fc, busI k, loadI k, prioI k, false, true, R5.out.set 20 _ rfl, noOcv (fun h => absurd (show (-1 : Int) = 0 from h.2.1) (by decide)), by simp; exact madeFed k NN.out.1 fn (by have := NN.out.2; omega), by omega, by have := NN.out.2; omega,
        P5.out.set (fun p hp => by cases hp; have := G5.out; show g ≠ _; omega), (HF.out.below (below_set L5.out (Nat.le_refl _))).g, bad21 CC.out, below_set L5.out (Nat.le_refl _)⟩
    · have c20 : W1.cell? ⟨w4.heap.size, 20, none⟩ = some (.slice (some ⟨O, 0, none⟩) 4 4) := R2.out.cell 20 rfl
      have f20 : W1.frozen? ⟨w4.heap.size, 20, none⟩ = false := R2.out.froz 20
      go_wp2_with fail
      go_meet
      exact ⟨21, rfl, c.cg, _, 3, 4, oxF, oyF, fa, fn, fc, busI k, loadI k, prioI k, false, true, R2.out.set 20 _ rfl, noOcv (fun h => absurd (show (80000 : Int) = 100000 from h.2.2) (by decide)), by simp; exact madeFed k NN.out.1 fn (by have := NN.out.2; omega), by omega, by have := NN.out.2; omega, fun i hi => (HO.out.below (below_set L2.out (Nat.le_refl _)) hO1).pts i (by omega), (HF.out.below (below_set L2.out (Nat.le_refl _))).g, bad21 CC.out, (below_set L2.out (Nat.le_refl _))⟩
    · have c20 : W1.cell? ⟨w4.heap.size, 20, none⟩ = some (.slice (some ⟨O, 0, none⟩) 4 4) := R2.out.cell 20 rfl
      have f20 : W1.frozen? ⟨w4.heap.size, 20, none⟩ = false := R2.out.froz 20
      go_wp2_with fail
      go_meet
      exact ⟨21, rfl, c.cg, none, 0, 0, oxF, oyF, fa, fn, fc, busI k, loadI k, prioI k, false, true, R2.out.set 20 _ rfl, noOcv (fun h => absurd h.1.n2 (by decide)), by simp; exact madeFed k NN.out.1 fn (by have := NN.out.2; omega), by omega, by have := NN.out.2; omega, fun i hi => absurd hi (by omega), (HF.out.below (below_set L2.out (Nat.le_refl _))).g, bad21 CC.out, (below_set L2.out (Nat.le_refl _))⟩
    · have c21 : W1.cell? ⟨w4.heap.size, 21, none⟩ = some (.int .i64 3000) := R2.out.cell 21 rfl
      have f21 : W1.frozen? ⟨w4.heap.size, 21, none⟩ = false := R2.out.froz 21
      go_wp2_with fail
      go_meet
      exact ⟨22, rfl, { c.cg with GenMax := -1 }, _, 4, 4, oxF, oyF, fa, fn, fc, busI k, loadI k, prioI k, true, true, R2.out.set 21 _ rfl, by simp; exact madeOcv, by simp; exact madeFed k NN.out.1 fn (by have := NN.out.2; omega), by omega, by have := NN.out.2; omega, (HO.out.below (below_set L2.out (Nat.le_refl _)) hO1).pts, (HF.out.below (below_set L2.out (Nat.le_refl _))).g, bad22 CC.out, (below_set L2.out (Nat.le_refl _))⟩
    · have c22 : W1.cell? ⟨w4.heap.size, 22, none⟩ = some (.int .i64 500) := R2.out.cell 22 rfl
      have f22 : W1.frozen? ⟨w4.heap.size, 22, none⟩ = false := R2.out.froz 22
      go_wp2_with fail
      go_meet
      exact ⟨23, rfl, { c.cg with BatMax := 1073741825 }, _, 4, 4, oxF, oyF, fa, fn, fc, busI k, loadI k, prioI k, true, true, R2.out.set 22 _ rfl, by simp; exact madeOcv, by simp; exact madeFed k NN.out.1 fn (by have := NN.out.2; omega), by omega, by have := NN.out.2; omega, (HO.out.below (below_set L2.out (Nat.le_refl _)) hO1).pts, (HF.out.below (below_set L2.out (Nat.le_refl _))).g, bad23 CC.out, (below_set L2.out (Nat.le_refl _))⟩
    · have c23 : W1.cell? ⟨w4.heap.size, 23, none⟩ = some (.int .i64 3000) := R2.out.cell 23 rfl
      have f23 : W1.frozen? ⟨w4.heap.size, 23, none⟩ = false := R2.out.froz 23
      go_wp2_with fail
      go_meet
      exact ⟨24, rfl, { c.cg with ExtMax := -1 }, _, 4, 4, oxF, oyF, fa, fn, fc, busI k, loadI k, prioI k, true, true, R2.out.set 23 _ rfl, by simp; exact madeOcv, by simp; exact madeFed k NN.out.1 fn (by have := NN.out.2; omega), by omega, by have := NN.out.2; omega, (HO.out.below (below_set L2.out (Nat.le_refl _)) hO1).pts, (HF.out.below (below_set L2.out (Nat.le_refl _))).g, bad24 CC.out, (below_set L2.out (Nat.le_refl _))⟩
    · have c24 : W1.cell? ⟨w4.heap.size, 24, none⟩ = some (.int .i64 c.eland) := R2.out.cell 24 rfl
      have f24 : W1.frozen? ⟨w4.heap.size, 24, none⟩ = false := R2.out.froz 24
      go_wp2_with fail
      go_meet
      exact ⟨25, rfl, { c.cg with Eland := 1073741825 }, _, 4, 4, oxF, oyF, fa, fn, fc, busI k, loadI k, prioI k, true, true, R2.out.set 24 _ rfl, by simp; exact madeOcv, by simp; exact madeFed k NN.out.1 fn (by have := NN.out.2; omega), by omega, by have := NN.out.2; omega, (HO.out.below (below_set L2.out (Nat.le_refl _)) hO1).pts, (HF.out.below (below_set L2.out (Nat.le_refl _))).g, bad25 CC.out, (below_set L2.out (Nat.le_refl _))⟩
    · have c7 : W1.cell? ⟨w4.heap.size, 7, none⟩ = some (.int .i64 500) := R2.out.cell 7 rfl
      have f7 : W1.frozen? ⟨w4.heap.size, 7, none⟩ = false := R2.out.froz 7
      have c25 : W1.cell? ⟨w4.heap.size, 25, none⟩ = some (.int .i64 c.margin) := R2.out.cell 25 rfl
      have f25 : W1.frozen? ⟨w4.heap.size, 25, none⟩ = false := R2.out.froz 25
      go_wp2_with fail
      go_meet
      exact ⟨26, rfl, { c.cg with Margin := 499 }, _, 4, 4, oxF, oyF, fa, fn, fc, busI k, loadI k, prioI k, true, true, R2.out.set 25 _ rfl, by simp; exact madeOcv, by simp; exact madeFed k NN.out.1 fn (by have := NN.out.2; omega), by omega, by have := NN.out.2; omega, (HO.out.below (below_set L2.out (Nat.le_refl _)) hO1).pts, (HF.out.below (below_set L2.out (Nat.le_refl _))).g, bad26 CC.out, (below_set L2.out (Nat.le_refl _))⟩
    · have mk := run_makeSlice (P := Tryd.prog) (w := W1) 29 50 i0 (.agg #[.int .i64 0, .int .i64 0, .int .i64 0]) Tryd.underlying29 hi0 hz0 .i64 .i64 17 17 (by decide) (by decide) (by rw [hz1]; decide) (by rw [hz2]; decide) (by decide)
      rw [hz1, show madeCells (Value.agg #[.int .i64 0, .int .i64 0, .int .i64 0]).cells ((17 : Int).toNat * 3) = Z17 by kernel_rfl] at mk
      simp only [show (17 : Int).toNat = 17 from rfl] at mk
      rw [s1] at mk
      have c26 : W1.cell? ⟨w4.heap.size, 26, none⟩ = some (.slice fa fn fc) := R2.out.cell 26 rfl
      have f26 : W1.frozen? ⟨w4.heap.size, 26, none⟩ = false := R2.out.froz 26
      have S3 := R2.out.set 26 (.slice (some ⟨w4.heap.size + 1, 0, none⟩) 17 17) (c' := c.cg) (oc' := (.slice (some ⟨O, 0, none⟩) 4 4)) (fe' := .slice (some ⟨w4.heap.size + 1, 0, none⟩) 17 17) rfl
      have sz : (W1.setCell ⟨w4.heap.size, 26, none⟩ (.slice (some ⟨w4.heap.size + 1, 0, none⟩) 17 17)).heap.size = w4.heap.size + 1 := by simp [s1]
      have hal := (Below.refl _ (W1.setCell ⟨w4.heap.size, 26, none⟩ (.slice (some ⟨w4.heap.size + 1, 0, none⟩) 17 17))).alloc (Nat.le_refl _) (.cells Z17 50)
      have R3 := Lib.hid (S3.below hal (by omega))
      have L3 := below_set (j := 26) (v := .slice (some ⟨w4.heap.size + 1, 0, none⟩) 17 17) L2.out (Nat.le_refl _)
      have M3 := Lib.hid (L3.trans (hal.mono L3.size))
      have N3 := heap_alloc_new (W1.setCell ⟨w4.heap.size, 26, none⟩ (.slice (some ⟨w4.heap.size + 1, 0, none⟩) 17 17)) (.cells Z17 50)
      rw [sz] at N3
      have N4 := Lib.hid N3
      clear hal N3 S3 sz L3
      go_wp2_with fail
      go_meet
      exact ⟨27, rfl, c.cg, _, 4, 4, oxF, oyF, _, 17, 17, fun _ => 0, fun _ => 0, fun _ => 0, true, false, R3.out, by simp; exact madeOcv, noFed (fun h => absurd h.1 (by decide)), by omega, by omega, (HO.out.below M3.out hO1).pts, fedZ N4.out, bad27 CC.out, M3.out⟩
    · have hal := (Below.refl W1.heap.size W1).alloc (Nat.le_refl _) (.cells #[] 50)
      have s2 : (W1.alloc (.cells #[] 50)).heap.size = w4.heap.size + 2 := by simp [s1]
      have hal2 := hal.alloc (show W1.heap.size ≤ (W1.alloc (.cells #[] 50)).heap.size by simp) (.cells #[.int .i64 3, .int .i64 0, .int .i64 0] 50)
      have N3 := heap_alloc_new W1 (.cells #[] 50)
      rw [s1] at N3
      have N4 := Lib.hid (((Below.refl (w4.heap.size + 2) (W1.alloc (.cells #[] 50))).alloc (by rw [s2]; exact Nat.le_refl _) (.cells #[.int .i64 3, .int .i64 0, .int .i64 0] 50)).block (w4.heap.size + 1) (by omega) |>.trans N3)
      have N5 := heap_alloc_new (W1.alloc (.cells #[] 50)) (.cells #[.int .i64 3, .int .i64 0, .int .i64 0] 50)
      rw [s2] at N5
      have N6 := Lib.hid N5
      have R3 := Lib.hid (R2.out.below hal2 (by omega))
      have M3 := Lib.hid (L2.out.trans (hal2.mono L2.out.size))
      have S2 := Lib.hid s2
      clear hal hal2 N3 N5 s2
      go_wp2_with (at_builtin
                   refine wpList_append_lies _ rfl _ _ 29 rfl (w4.heap.size + 1) 50 i0 (.agg #[.int .i64 0, .int .i64 0, .int .i64 0]) 3 24 Tryd.underlying29 hi0 hz0 hz1 hz2 rfl (by decide) (.slice (some ⟨w4.heap.size + 1, 0, none⟩) 0 0) 0 [] rfl ⟨rfl, .inr ⟨_, 0, _, rfl, Nat.le_refl _, N4.out, Nat.le_refl _, by decide, rfl, rfl⟩⟩ ⟨w4.heap.size + 2, 0, none⟩ 1 1 [.int .i64 3, .int .i64 0, .int .i64 0] rfl rfl (World.news_of_block N6.out) (by simp [Value.oneCell']) (by decide) (by decide) (by decide) (by simp [s1]) _ rfl ?_
                   intro g cap w3 hown hgrow hat hlt
                   have R5 := Lib.hid (show Rw w3 w4.heap.size c.cg (.slice (some ⟨O, 0, none⟩) 4 4) (.slice fa fn fc) from (hgrow.block w4.heap.size (by simp <;> omega) (by simp [Value.ownBlock])).trans R3.out)
                   have L5 := Lib.hid (M3.out.grown hgrow (by simp <;> omega) (fun q hq => by cases hq; show w4.heap.size ≤ w4.heap.size + 1; omega))
                   have P5 := Lib.hid (fed1 hown)
                   have G5 := Lib.hid (owns_ge hown)
                   have c26 : w3.cell? ⟨w4.heap.size, 26, none⟩ = some (.slice fa fn fc) := R5.out.cell 26 rfl
                   have f26 : w3.frozen? ⟨w4.heap.size, 26, none⟩ = false := R5.out.froz 26
                   clear hown hgrow hat hlt)
      go_meet
      exact ⟨27, rfl, c.cg, _, 4, 4, oxF, oyF, _, 1, cap, fun _ => 3, fun _ => 0, fun _ => 0, true, false, R5.out.set 26 _ rfl, by simp; exact madeOcv, noFed (fun h => absurd (h.2 0 (by omega)) (by decide)), by omega, by omega, (HO.out.below (below_set L5.out (Nat.le_refl _)) hO1).pts, P5.out.set (fun p hp => by cases hp; have := G5.out; show g ≠ _; omega), bad27 CC.out, below_set L5.out (Nat.le_refl _)⟩
    · have hal := (Below.refl W1.heap.size W1).alloc (Nat.le_refl _) (.cells #[] 50)
      have s2 : (W1.alloc (.cells #[] 50)).heap.size = w4.heap.size + 2 := by simp [s1]
      have hal2 := hal.alloc (show W1.heap.size ≤ (W1.alloc (.cells #[] 50)).heap.size by simp) (.cells #[.int .i64 6, .int .i64 0, .int .i64 101] 50)
      have N3 := heap_alloc_new W1 (.cells #[] 50)
      rw [s1] at N3
      have N4 := Lib.hid (((Below.refl (w4.heap.size + 2) (W1.alloc (.cells #[] 50))).alloc (by rw [s2]; exact Nat.le_refl _) (.cells #[.int .i64 6, .int .i64 0, .int .i64 101] 50)).block (w4.heap.size + 1) (by omega) |>.trans N3)
      have N5 := heap_alloc_new (W1.alloc (.cells #[] 50)) (.cells #[.int .i64 6, .int .i64 0, .int .i64 101] 50)
      rw [s2] at N5
      have N6 := Lib.hid N5
      have R3 := Lib.hid (R2.out.below hal2 (by omega))
      have M3 := Lib.hid (L2.out.trans (hal2.mono L2.out.size))
      have S2 := Lib.hid s2
      clear hal hal2 N3 N5 s2
      go_wp2_with (at_builtin
                   refine wpList_append_lies _ rfl _ _ 29 rfl (w4.heap.size + 1) 50 i0 (.agg #[.int .i64 0, .int .i64 0, .int .i64 0]) 3 24 Tryd.underlying29 hi0 hz0 hz1 hz2 rfl (by decide) (.slice (some ⟨w4.heap.size + 1, 0, none⟩) 0 0) 0 [] rfl ⟨rfl, .inr ⟨_, 0, _, rfl, Nat.le_refl _, N4.out, Nat.le_refl _, by decide, rfl, rfl⟩⟩ ⟨w4.heap.size + 2, 0, none⟩ 1 1 [.int .i64 6, .int .i64 0, .int .i64 101] rfl rfl (World.news_of_block N6.out) (by simp [Value.oneCell']) (by decide) (by decide) (by decide) (by simp [s1]) _ rfl ?_
                   intro g cap w3 hown hgrow hat hlt
                   have R5 := Lib.hid (show Rw w3 w4.heap.size c.cg (.slice (some ⟨O, 0, none⟩) 4 4) (.slice fa fn fc) from (hgrow.block w4.heap.size (by simp <;> omega) (by simp [Value.ownBlock])).trans R3.out)
                   have L5 := Lib.hid (M3.out.grown hgrow (by simp <;> omega) (fun q hq => by cases hq; show w4.heap.size ≤ w4.heap.size + 1; omega))
                   have P5 := Lib.hid (fed1 hown)
                   have G5 := Lib.hid (owns_ge hown)
                   have c26 : w3.cell? ⟨w4.heap.size, 26, none⟩ = some (.slice fa fn fc) := R5.out.cell 26 rfl
                   have f26 : w3.frozen? ⟨w4.heap.size, 26, none⟩ = false := R5.out.froz 26
                   clear hown hgrow hat hlt)
      go_meet
      exact ⟨27, rfl, c.cg, _, 4, 4, oxF, oyF, _, 1, cap, fun _ => 6, fun _ => 0, fun _ => 101, true, false, R5.out.set 26 _ rfl, by simp; exact madeOcv, noFed (fun h => absurd (h.2 0 (by omega)) (by decide)), by omega, by omega, (HO.out.below (below_set L5.out (Nat.le_refl _)) hO1).pts, P5.out.set (fun p hp => by cases hp; have := G5.out; show g ≠ _; omega), bad27 CC.out, below_set L5.out (Nat.le_refl _)⟩
    · have c18 : W1.cell? ⟨w4.heap.size, 18, none⟩ = some (.int .i64 c.err) := R2.out.cell 18 rfl
      have f18 : W1.frozen? ⟨w4.heap.size, 18, none⟩ = false := R2.out.froz 18
      have c24 : W1.cell? ⟨w4.heap.size, 24, none⟩ = some (.int .i64 c.eland) := R2.out.cell 24 rfl
      have f24 : W1.frozen? ⟨w4.heap.size, 24, none⟩ = false := R2.out.froz 24
      go_wp2_with fail
      go_meet
      exact ⟨19, rfl, { c.cg with AmpErr := 500001, Eland := -1 }, _, 4, 4, oxF, oyF, fa, fn, fc, busI k, loadI k, prioI k, true, true, ((R2.out.set (c' := { c.cg with AmpErr := 500001 }) (oc' := (.slice (some ⟨O, 0, none⟩) 4 4)) (fe' := (.slice fa fn fc)) 18 _ rfl).set 24 _ rfl), by simp; exact madeOcv, by simp; exact madeFed k NN.out.1 fn (by have := NN.out.2; omega), by omega, by have := NN.out.2; omega, (HO.out.below (below_set (below_set L2.out (Nat.le_refl _)) (Nat.le_refl _)) hO1).pts, (HF.out.below (below_set (below_set L2.out (Nat.le_refl _)) (Nat.le_refl _))).g, bad19 CC.out, (below_set (below_set L2.out (Nat.le_refl _)) (Nat.le_refl _))⟩
  case rest =>
    obtain ⟨want, rfl, g, a, n, cp, x, y, b, m, cq, bu, lo, pr, o, f, hR, ho, hf, hn, hm, hp, hg, hA, hL⟩ := hcut
    have RC := Lib.hid hR
    have HW := Lib.hid (L4.out.trans (hL.mono L4.out.size))
    have HH := Lib.hid (HE.out.below HW.out)
    have AM := Lib.hid hA
    have KC := Lib.hid (checkConf g a n cp x y b m cq bu lo pr o f ho hf hn hm wc HH.out hp hg)
    clear hR ho hf hn hm hp hg hA hL R2 L2 O2 F2 s1 hO1
    go_wp2_with (refine wpList_load_row_g (by kernel_rfl) 31 _ rfl w4.heap.size rfl 31 _ (0, 0) _ RC.out Tryd.underlying31 rfl (by kernel_rfl) ?_)
    refine KC.out.mono ?_
    rintro e w6 ⟨v, cc, p6, k6, rfl, hv, hd, hb⟩
    have HV := Lib.hid hv
    have HD := Lib.hid hd
    have H6 := Lib.hid (HH.out.below hb)
    have L6 := Lib.hid (HW.out.trans (hb.mono HW.out.size))
    clear hv hd hb
    go_wp2_with fail
    refine (placedC 106 want (by omega) w6).mono ?_
    rintro e w7 ⟨rfl, hb⟩
    have H7 := Lib.hid (H6.out.below hb)
    have V7 := Lib.hid (HV.out.below hb)
    have L7 := Lib.hid (L6.out.trans (hb.mono L6.out.size))
    clear hb
    have SA := Lib.hid (sameA H7.out V7.out HD.out AM.out)
    go_wp2_with fail
    refine SA.out.mono ?_
    rintro e w8 ⟨rfl, hb⟩
    have L8 := Lib.hid (L7.out.trans (hb.mono L7.out.size))
    clear hb
    go_wp2_with fail
    go_returns
    exact ⟨rfl, L8.out⟩
end Go.Proofs.YtbeemfkndpandaaDoor
