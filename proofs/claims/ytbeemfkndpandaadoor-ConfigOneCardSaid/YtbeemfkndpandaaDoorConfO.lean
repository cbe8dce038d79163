/- One number out of its range is told by its own number. Conditions: the seven errors lie apart. -/
import Derived.Test.YtbeemfkndpandaaDoorConfE
import Derived.Test.YtbeemfkndpandaaDoorNumb
import Derived.Deep.CutBlock
import Derived.Deep.DeepCutAuto
namespace Go.Proofs.YtbeemfkndpandaaDoor
open Go.RowKit
set_option linter.unusedVariables false
set_option maxRecDepth 20000
def setN (v : Int) (c : CG) : Nat → CG
  | 0 => { c with D := v }
  | 1 => { c with B := v }
  | 2 => { c with S := v }
  | 3 => { c with P := v }
  | 4 => { c with H := v }
  | 5 => { c with Cap := v }
  | 6 => { c with Qmin := v }
  | 7 => { c with Imax := v }
  | 8 => { c with Trip := v }
  | 9 => { c with Vmin := v }
  | 10 => { c with Vdark := v }
  | 11 => { c with CellMin := v }
  | 12 => { c with CellMax := v }
  | 13 => { c with CellGap := v }
  | 14 => { c with TempMax := v }
  | 15 => { c with Coil := v }
  | _ => { c with Ohm := v }
def lowN : Nat → Int
  | 0 => 0
  | 1 => 0
  | 2 => 0
  | 3 => 0
  | 4 => 0
  | 5 => 0
  | 6 => -1
  | 7 => 0
  | 8 => 0
  | 9 => 0
  | 10 => 0
  | 11 => -1
  | 12 => 2999
  | 13 => -1
  | 14 => -501
  | 15 => 0
  | _ => -1
def lowA : Array Value := #[.int .i64 0, .int .i64 0, .int .i64 0, .int .i64 0, .int .i64 0, .int .i64 0, .int .i64 (-1), .int .i64 0, .int .i64 0, .int .i64 0, .int .i64 0, .int .i64 (-1), .int .i64 2999, .int .i64 (-1), .int .i64 (-501), .int .i64 0, .int .i64 (-1)]
theorem lowA_at (i : Nat) (h : i < 17) : lowA[i]? = some (.int .i64 (lowN i)) := by
  rcases (show i = 0 ∨ i = 1 ∨ i = 2 ∨ i = 3 ∨ i = 4 ∨ i = 5 ∨ i = 6 ∨ i = 7 ∨ i = 8 ∨ i = 9 ∨ i = 10 ∨ i = 11 ∨ i = 12 ∨ i = 13 ∨ i = 14 ∨ i = 15 ∨ i = 16 by omega) with rfl | rfl | rfl | rfl | rfl | rfl | rfl | rfl | rfl | rfl | rfl | rfl | rfl | rfl | rfl | rfl | rfl <;> rfl
def highN : Nat → Int
  | 0 => 101
  | 1 => 101
  | 2 => 101
  | 3 => 101
  | 4 => 101
  | 5 => 1073741825
  | 6 => 100001
  | 7 => 500001
  | 8 => 500001
  | 9 => 60001
  | 10 => 60001
  | 11 => 6001
  | 12 => 6001
  | 13 => 6001
  | 14 => 1501
  | 15 => 30001
  | _ => 100001
def highA : Array Value := #[.int .i64 101, .int .i64 101, .int .i64 101, .int .i64 101, .int .i64 101, .int .i64 1073741825, .int .i64 100001, .int .i64 500001, .int .i64 500001, .int .i64 60001, .int .i64 60001, .int .i64 6001, .int .i64 6001, .int .i64 6001, .int .i64 1501, .int .i64 30001, .int .i64 100001]
theorem highA_at (i : Nat) (h : i < 17) : highA[i]? = some (.int .i64 (highN i)) := by
  rcases (show i = 0 ∨ i = 1 ∨ i = 2 ∨ i = 3 ∨ i = 4 ∨ i = 5 ∨ i = 6 ∨ i = 7 ∨ i = 8 ∨ i = 9 ∨ i = 10 ∨ i = 11 ∨ i = 12 ∨ i = 13 ∨ i = 14 ∨ i = 15 ∨ i = 16 by omega) with rfl | rfl | rfl | rfl | rfl | rfl | rfl | rfl | rfl | rfl | rfl | rfl | rfl | rfl | rfl | rfl | rfl <;> rfl
def oneN (ov : Bool) (i : Nat) : Int := if ov then highN i else lowN i
theorem oneBad {c : CF} (h : CB c) (ov o : Bool) (i : Nat) (hi : i < 17) : (okL (setN (oneN ov i) c.cg i) o true).take i = List.replicate i true ∧ (okL (setN (oneN ov i) c.cg i) o true)[i]? = some false := by
  obtain ⟨d, b, s, p, hh, e, l, g⟩ := h
  have e1 : inB c.D 1 100 = true := inB_true (by omega) (by omega)
  have e2 : inB c.B 1 100 = true := inB_true (by omega) (by omega)
  have e3 : inB c.S 1 100 = true := inB_true (by omega) (by omega)
  have e4 : inB c.P 1 100 = true := inB_true (by omega) (by omega)
  have e5 : inB c.H 1 100 = true := inB_true (by omega) (by omega)
  rcases (show i = 0 ∨ i = 1 ∨ i = 2 ∨ i = 3 ∨ i = 4 ∨ i = 5 ∨ i = 6 ∨ i = 7 ∨ i = 8 ∨ i = 9 ∨ i = 10 ∨ i = 11 ∨ i = 12 ∨ i = 13 ∨ i = 14 ∨ i = 15 ∨ i = 16 by omega) with rfl | rfl | rfl | rfl | rfl | rfl | rfl | rfl | rfl | rfl | rfl | rfl | rfl | rfl | rfl | rfl | rfl
  all_goals
    cases ov <;> (simp only [okL, setN, CF.cg, e1, e2, e3, e4, e5]; exact ⟨by kernel_rfl, by kernel_rfl⟩)
theorem oneAmiss {c : CF} (h : CB c) (ov o : Bool) (i : Nat) (hi : i < 17) : Amiss (fun j => (okL (setN (oneN ov i) c.cg i) o true)[j]?.getD false) 106 true ((i : Int) + 1) := by
  obtain ⟨h1, h2⟩ := oneBad h ov o i hi
  refine .bad i (by omega) (by show (_ : Option Bool).getD false = false; rw [h2]; rfl) (fun j hj => ?_)
  show (_ : Option Bool).getD false = true
  rw [← List.getElem?_take_of_lt hj, h1, List.getElem?_replicate, if_pos hj]; rfl
set_option maxHeartbeats 8000000 in
theorem walkConfigOne (a0 : Int) (a1 : Int) (a2 : Int) (a3 : Int) (a4 : Bool) (w : World) (w0 : (Lit.int .i64 a0).wf = true) (w1 : (Lit.int .i64 a1).wf = true) (w2 : (Lit.int .i64 a2).wf = true) (w3 : (Lit.int .i64 a3).wf = true) (hE : ∃ E, Ers E w) :
    Calls Tryd.prog 11 #[.int .i64 a0, .int .i64 a1, .int .i64 a2, .int .i64 a3, .bool a4] w fun e w' => e = .returned (.bool true) ∧ Below w.heap.size w w' := by
  obtain ⟨E, hE⟩ := hE
  have HE := Lib.hid hE
  clear w0 w1 w2 w3 hE
  obtain ⟨i, hi, hi2⟩ : ∃ i : Nat, a3 % 17 = i ∧ i < 17 := ⟨(a3 % 17).toNat, by omega, by omega⟩
  have KN := Lib.hid fun (w : World) => numbC a3 17 (by omega) (by omega) w
  rw [hi] at KN
  clear hi
  obtain ⟨t, ht⟩ : ∃ t : Int, t = (i : Int) + 1 := ⟨_, rfl⟩
  have HT := Lib.hid ht
  have v1 : IntKind.i64.wrap ((i : Int) + 1) = t := by rw [← ht]; exact IntWalk.i64_in _ (by omega)
  have v2 : IntKind.i64.wrap (t - 1) = (i : Int) := by rw [ht, show (i : Int) + 1 - 1 = i by omega]; exact IntWalk.i64_in _ (by omega)
  have i17 : (i : Int) < 17 := by omega
  clear ht
  go_enter Tryd.func11, Tryd.ntmps11
  go_wp2_with fail
  refine (first27 w HE.out).mono ?_
  rintro e wa ⟨rfl, hba⟩
  have HA := Lib.hid hba
  clear hba
  go_wp2_with fail
  refine (configF a0 a1 a2 wa).mono ?_
  rintro e w4 ⟨O, fa, fc, rfl, hO, ho, hf, hb⟩
  have L4 := Lib.hid (HA.out.trans (hb.mono HA.out.size))
  have CC := Lib.hid (CB.of (a0 % 1048576) (a1 % 1048576) (a2 % 1048576) (by omega) (by omega) (by omega))
  have HO := Lib.hid ho
  have HF := Lib.hid hf
  have hk : 0 ≤ a2 % 1048576 := by omega
  have hn : (a1 % 1048576 / 20 % 7).toNat ≤ 6 := by omega
  unfold cfgV
  rw [cgA_of]
  clear hb ho hf hO
  generalize (a1 % 1048576 / 20 % 7).toNat = fn at *
  generalize cfgOf (a0 % 1048576) (a1 % 1048576) (a2 % 1048576) = c at *
  generalize a2 % 1048576 = k at *
  go_wp2_with fail
  refine upon_fresh (by simp) rfl (by kernel_rfl) ?_
  intro W1 b1 s1 h1
  have R8 := Lib.hid (show Rw W1 w4.heap.size c.cg (.slice (some ⟨O, 0, none⟩) 4 4) (.slice fa fn fc) from h1)
  have L1 := Lib.hid b1
  replace s1 : W1.heap.size = w4.heap.size + 1 := s1
  clear h1 b1
  go_wp2_with fail
  refine (KN.out _).mono ?_
  rintro e w' ⟨rfl, rfl⟩
  go_upto_region 8 with fail
  generalize hW : World.alloc (World.alloc W1 _) _ = W2
  have B2 : Bx2 W1 W2 lowA 2 highA 2 := by rw [← hW]; exact Bx2.new W1 lowA 2 highA 2
  have c1 : W2.cell? ⟨w4.heap.size + 1, i, none⟩ = some (.int .i64 (oneN false i)) := by have := B2.cell1 i (lowA_at i hi2); rwa [s1] at this
  have c2 : W2.cell? ⟨w4.heap.size + 1 + 1, i, none⟩ = some (.int .i64 (oneN true i)) := by have := B2.cell2 i (highA_at i hi2); rwa [s1] at this
  have R2 := Lib.hid (R8.out.below B2.lo (by omega))
  have L2 := Lib.hid (L1.out.trans (B2.lo.mono L1.out.size))
  clear hW B2 R8 L1 s1
  cases a4
  · go_upto_block 0 with fail
    clear c1 c2 v1 v2 i17
    go_cut [] (fun wx => Rw wx w4.heap.size (setN (oneN false i) c.cg i) (.slice (some ⟨O, 0, none⟩) 4 4) (.slice fa fn fc) ∧ Below w4.heap.size w4 wx)
    case first =>
      clear KN HE HO HF CC
      generalize oneN false i = v at *
      rcases (show i = 0 ∨ i = 1 ∨ i = 2 ∨ i = 3 ∨ i = 4 ∨ i = 5 ∨ i = 6 ∨ i = 7 ∨ i = 8 ∨ i = 9 ∨ i = 10 ∨ i = 11 ∨ i = 12 ∨ i = 13 ∨ i = 14 ∨ i = 15 ∨ i = 16 by omega) with rfl | rfl | rfl | rfl | rfl | rfl | rfl | rfl | rfl | rfl | rfl | rfl | rfl | rfl | rfl | rfl | rfl
      · obtain rfl : t = 1 := by have := HT.out; omega
        have fx : W2.frozen? ⟨w4.heap.size, 0, none⟩ = false := R2.out.froz 0
        have cx : W2.cell? ⟨w4.heap.size, 0, none⟩ = some (.int .i64 c.cg.D) := R2.out.cell 0 rfl
        go_wp2_with fail
        go_meet
        exact ⟨R2.out.set 0 (.int .i64 v) rfl, below_set L2.out (Nat.le_refl _)⟩
      · obtain rfl : t = 2 := by have := HT.out; omega
        have fx : W2.frozen? ⟨w4.heap.size, 1, none⟩ = false := R2.out.froz 1
        have cx : W2.cell? ⟨w4.heap.size, 1, none⟩ = some (.int .i64 c.cg.B) := R2.out.cell 1 rfl
        go_wp2_with fail
        go_meet
        exact ⟨R2.out.set 1 (.int .i64 v) rfl, below_set L2.out (Nat.le_refl _)⟩
      · obtain rfl : t = 3 := by have := HT.out; omega
        have fx : W2.frozen? ⟨w4.heap.size, 2, none⟩ = false := R2.out.froz 2
        have cx : W2.cell? ⟨w4.heap.size, 2, none⟩ = some (.int .i64 c.cg.S) := R2.out.cell 2 rfl
        go_wp2_with fail
        go_meet
        exact ⟨R2.out.set 2 (.int .i64 v) rfl, below_set L2.out (Nat.le_refl _)⟩
      · obtain rfl : t = 4 := by have := HT.out; omega
        have fx : W2.frozen? ⟨w4.heap.size, 3, none⟩ = false := R2.out.froz 3
        have cx : W2.cell? ⟨w4.heap.size, 3, none⟩ = some (.int .i64 c.cg.P) := R2.out.cell 3 rfl
        go_wp2_with fail
        go_meet
        exact ⟨R2.out.set 3 (.int .i64 v) rfl, below_set L2.out (Nat.le_refl _)⟩
      · obtain rfl : t = 5 := by have := HT.out; omega
        have fx : W2.frozen? ⟨w4.heap.size, 4, none⟩ = false := R2.out.froz 4
        have cx : W2.cell? ⟨w4.heap.size, 4, none⟩ = some (.int .i64 c.cg.H) := R2.out.cell 4 rfl
        go_wp2_with fail
        go_meet
        exact ⟨R2.out.set 4 (.int .i64 v) rfl, below_set L2.out (Nat.le_refl _)⟩
      · obtain rfl : t = 6 := by have := HT.out; omega
        have fx : W2.frozen? ⟨w4.heap.size, 5, none⟩ = false := R2.out.froz 5
        have cx : W2.cell? ⟨w4.heap.size, 5, none⟩ = some (.int .i64 c.cg.Cap) := R2.out.cell 5 rfl
        go_wp2_with fail
        go_meet
        exact ⟨R2.out.set 5 (.int .i64 v) rfl, below_set L2.out (Nat.le_refl _)⟩
      · obtain rfl : t = 7 := by have := HT.out; omega
        have fx : W2.frozen? ⟨w4.heap.size, 6, none⟩ = false := R2.out.froz 6
        have cx : W2.cell? ⟨w4.heap.size, 6, none⟩ = some (.int .i64 c.cg.Qmin) := R2.out.cell 6 rfl
        go_wp2_with fail
        go_meet
        exact ⟨R2.out.set 6 (.int .i64 v) rfl, below_set L2.out (Nat.le_refl _)⟩
      · obtain rfl : t = 8 := by have := HT.out; omega
        have fx : W2.frozen? ⟨w4.heap.size, 7, none⟩ = false := R2.out.froz 7
        have cx : W2.cell? ⟨w4.heap.size, 7, none⟩ = some (.int .i64 c.cg.Imax) := R2.out.cell 7 rfl
        go_wp2_with fail
        go_meet
        exact ⟨R2.out.set 7 (.int .i64 v) rfl, below_set L2.out (Nat.le_refl _)⟩
      · obtain rfl : t = 9 := by have := HT.out; omega
        have fx : W2.frozen? ⟨w4.heap.size, 8, none⟩ = false := R2.out.froz 8
        have cx : W2.cell? ⟨w4.heap.size, 8, none⟩ = some (.int .i64 c.cg.Trip) := R2.out.cell 8 rfl
        go_wp2_with fail
        go_meet
        exact ⟨R2.out.set 8 (.int .i64 v) rfl, below_set L2.out (Nat.le_refl _)⟩
      · obtain rfl : t = 10 := by have := HT.out; omega
        have fx : W2.frozen? ⟨w4.heap.size, 9, none⟩ = false := R2.out.froz 9
        have cx : W2.cell? ⟨w4.heap.size, 9, none⟩ = some (.int .i64 c.cg.Vmin) := R2.out.cell 9 rfl
        go_wp2_with fail
        go_meet
        exact ⟨R2.out.set 9 (.int .i64 v) rfl, below_set L2.out (Nat.le_refl _)⟩
      · obtain rfl : t = 11 := by have := HT.out; omega
        have fx : W2.frozen? ⟨w4.heap.size, 10, none⟩ = false := R2.out.froz 10
        have cx : W2.cell? ⟨w4.heap.size, 10, none⟩ = some (.int .i64 c.cg.Vdark) := R2.out.cell 10 rfl
        go_wp2_with fail
        go_meet
        exact ⟨R2.out.set 10 (.int .i64 v) rfl, below_set L2.out (Nat.le_refl _)⟩
      · obtain rfl : t = 12 := by have := HT.out; omega
        have fx : W2.frozen? ⟨w4.heap.size, 11, none⟩ = false := R2.out.froz 11
        have cx : W2.cell? ⟨w4.heap.size, 11, none⟩ = some (.int .i64 c.cg.CellMin) := R2.out.cell 11 rfl
        go_wp2_with fail
        go_meet
        exact ⟨R2.out.set 11 (.int .i64 v) rfl, below_set L2.out (Nat.le_refl _)⟩
      · obtain rfl : t = 13 := by have := HT.out; omega
        have fx : W2.frozen? ⟨w4.heap.size, 12, none⟩ = false := R2.out.froz 12
        have cx : W2.cell? ⟨w4.heap.size, 12, none⟩ = some (.int .i64 c.cg.CellMax) := R2.out.cell 12 rfl
        go_wp2_with fail
        go_meet
        exact ⟨R2.out.set 12 (.int .i64 v) rfl, below_set L2.out (Nat.le_refl _)⟩
      · obtain rfl : t = 14 := by have := HT.out; omega
        have fx : W2.frozen? ⟨w4.heap.size, 13, none⟩ = false := R2.out.froz 13
        have cx : W2.cell? ⟨w4.heap.size, 13, none⟩ = some (.int .i64 c.cg.CellGap) := R2.out.cell 13 rfl
        go_wp2_with fail
        go_meet
        exact ⟨R2.out.set 13 (.int .i64 v) rfl, below_set L2.out (Nat.le_refl _)⟩
      · obtain rfl : t = 15 := by have := HT.out; omega
        have fx : W2.frozen? ⟨w4.heap.size, 14, none⟩ = false := R2.out.froz 14
        have cx : W2.cell? ⟨w4.heap.size, 14, none⟩ = some (.int .i64 c.cg.TempMax) := R2.out.cell 14 rfl
        go_wp2_with fail
        go_meet
        exact ⟨R2.out.set 14 (.int .i64 v) rfl, below_set L2.out (Nat.le_refl _)⟩
      · obtain rfl : t = 16 := by have := HT.out; omega
        have fx : W2.frozen? ⟨w4.heap.size, 15, none⟩ = false := R2.out.froz 15
        have cx : W2.cell? ⟨w4.heap.size, 15, none⟩ = some (.int .i64 c.cg.Coil) := R2.out.cell 15 rfl
        go_wp2_with fail
        go_meet
        exact ⟨R2.out.set 15 (.int .i64 v) rfl, below_set L2.out (Nat.le_refl _)⟩
      · obtain rfl : t = 17 := by have := HT.out; omega
        have fx : W2.frozen? ⟨w4.heap.size, 16, none⟩ = false := R2.out.froz 16
        have cx : W2.cell? ⟨w4.heap.size, 16, none⟩ = some (.int .i64 c.cg.Ohm) := R2.out.cell 16 rfl
        go_wp2_with fail
        go_meet
        exact ⟨R2.out.set 16 (.int .i64 v) rfl, below_set L2.out (Nat.le_refl _)⟩
    case rest =>
      obtain ⟨h1, h2⟩ := hcut
      have RC := Lib.hid h1
      have LC := Lib.hid h2
      clear h1 h2 R2 L2
      obtain ⟨o, ho⟩ : ∃ o : Bool, o = true ↔ ocvOk 4 oxF oyF (setN (oneN false i) c.cg i).Cap := by
        by_cases h : ocvOk 4 oxF oyF (setN (oneN false i) c.cg i).Cap
        · exact ⟨true, by simp [h]⟩
        · exact ⟨false, by simp [h]⟩
      have AM := Lib.hid (oneAmiss CC.out false o i hi2)
      have HW := Lib.hid (L4.out.trans (LC.out.mono L4.out.size))
      have HH := Lib.hid (HE.out.below HW.out)
      have KC := Lib.hid (checkConf (setN (oneN false i) c.cg i) _ 4 4 oxF oyF fa fn fc (busI k) (loadI k) (prioI k) o true ho (by simp; exact madeFed k hk fn (by omega)) (by omega) (by omega) wc HH.out (HO.out.below LC.out (Array.getElem?_eq_some_iff.1 HO.out).1).pts (HF.out.below LC.out).g)
      clear ho hk hn
      go_wp2_with (refine wpList_load_row_g (by kernel_rfl) 31 _ rfl w4.heap.size rfl 31 _ (0, 0) _ RC.out Tryd.underlying31 rfl (by kernel_rfl) ?_)
      refine KC.out.mono ?_
      rintro e w6 ⟨v, cc, p6, k6, rfl, hv, hd, hb⟩
      have HV := Lib.hid hv
      have HD := Lib.hid hd
      have H6 := Lib.hid (HH.out.below hb)
      have L6 := Lib.hid (HW.out.trans (hb.mono HW.out.size))
      clear hv hd hb
      go_wp2_with fail
      refine (placedC 106 t (by omega) w6).mono ?_
      rintro e w7 ⟨rfl, hb⟩
      have H7 := Lib.hid (H6.out.below hb)
      have V7 := Lib.hid (HV.out.below hb)
      have L7 := Lib.hid (L6.out.trans (hb.mono L6.out.size))
      clear hb
      have SA := Lib.hid (sameA H7.out V7.out HD.out (by have := AM.out; rw [← HT.out] at this; exact this))
      go_wp2_with fail
      refine SA.out.mono ?_
      rintro e w8 ⟨rfl, hb⟩
      have L8 := Lib.hid (L7.out.trans (hb.mono L7.out.size))
      clear hb
      go_wp2_with fail
      go_returns
      exact ⟨rfl, L8.out⟩
  · go_upto_block 0 with fail
    clear c1 c2 v1 v2 i17
    go_cut [] (fun wx => Rw wx w4.heap.size (setN (oneN true i) c.cg i) (.slice (some ⟨O, 0, none⟩) 4 4) (.slice fa fn fc) ∧ Below w4.heap.size w4 wx)
    case first =>
      clear KN HE HO HF CC
      generalize oneN true i = v at *
      rcases (show i = 0 ∨ i = 1 ∨ i = 2 ∨ i = 3 ∨ i = 4 ∨ i = 5 ∨ i = 6 ∨ i = 7 ∨ i = 8 ∨ i = 9 ∨ i = 10 ∨ i = 11 ∨ i = 12 ∨ i = 13 ∨ i = 14 ∨ i = 15 ∨ i = 16 by omega) with rfl | rfl | rfl | rfl | rfl | rfl | rfl | rfl | rfl | rfl | rfl | rfl | rfl | rfl | rfl | rfl | rfl
      · obtain rfl : t = 1 := by have := HT.out; omega
        have fx : W2.frozen? ⟨w4.heap.size, 0, none⟩ = false := R2.out.froz 0
        have cx : W2.cell? ⟨w4.heap.size, 0, none⟩ = some (.int .i64 c.cg.D) := R2.out.cell 0 rfl
        go_wp2_with fail
        go_meet
        exact ⟨R2.out.set 0 (.int .i64 v) rfl, below_set L2.out (Nat.le_refl _)⟩
      · obtain rfl : t = 2 := by have := HT.out; omega
        have fx : W2.frozen? ⟨w4.heap.size, 1, none⟩ = false := R2.out.froz 1
        have cx : W2.cell? ⟨w4.heap.size, 1, none⟩ = some (.int .i64 c.cg.B) := R2.out.cell 1 rfl
        go_wp2_with fail
        go_meet
        exact ⟨R2.out.set 1 (.int .i64 v) rfl, below_set L2.out (Nat.le_refl _)⟩
      · obtain rfl : t = 3 := by have := HT.out; omega
        have fx : W2.frozen? ⟨w4.heap.size, 2, none⟩ = false := R2.out.froz 2
        have cx : W2.cell? ⟨w4.heap.size, 2, none⟩ = some (.int .i64 c.cg.S) := R2.out.cell 2 rfl
        go_wp2_with fail
        go_meet
        exact ⟨R2.out.set 2 (.int .i64 v) rfl, below_set L2.out (Nat.le_refl _)⟩
      · obtain rfl : t = 4 := by have := HT.out; omega
        have fx : W2.frozen? ⟨w4.heap.size, 3, none⟩ = false := R2.out.froz 3
        have cx : W2.cell? ⟨w4.heap.size, 3, none⟩ = some (.int .i64 c.cg.P) := R2.out.cell 3 rfl
        go_wp2_with fail
        go_meet
        exact ⟨R2.out.set 3 (.int .i64 v) rfl, below_set L2.out (Nat.le_refl _)⟩
      · obtain rfl : t = 5 := by have := HT.out; omega
        have fx : W2.frozen? ⟨w4.heap.size, 4, none⟩ = false := R2.out.froz 4
        have cx : W2.cell? ⟨w4.heap.size, 4, none⟩ = some (.int .i64 c.cg.H) := R2.out.cell 4 rfl
        go_wp2_with fail
        go_meet
        exact ⟨R2.out.set 4 (.int .i64 v) rfl, below_set L2.out (Nat.le_refl _)⟩
      · obtain rfl : t = 6 := by have := HT.out; omega
        have fx : W2.frozen? ⟨w4.heap.size, 5, none⟩ = false := R2.out.froz 5
        have cx : W2.cell? ⟨w4.heap.size, 5, none⟩ = some (.int .i64 c.cg.Cap) := R2.out.cell 5 rfl
        go_wp2_with fail
        go_meet
        exact ⟨R2.out.set 5 (.int .i64 v) rfl, below_set L2.out (Nat.le_refl _)⟩
      · obtain rfl : t = 7 := by have := HT.out; omega
        have fx : W2.frozen? ⟨w4.heap.size, 6, none⟩ = false := R2.out.froz 6
        have cx : W2.cell? ⟨w4.heap.size, 6, none⟩ = some (.int .i64 c.cg.Qmin) := R2.out.cell 6 rfl
        go_wp2_with fail
        go_meet
        exact ⟨R2.out.set 6 (.int .i64 v) rfl, below_set L2.out (Nat.le_refl _)⟩
      · obtain rfl : t = 8 := by have := HT.out; omega
        have fx : W2.frozen? ⟨w4.heap.size, 7, none⟩ = false := R2.out.froz 7
        have cx : W2.cell? ⟨w4.heap.size, 7, none⟩ = some (.int .i64 c.cg.Imax) := R2.out.cell 7 rfl
        go_wp2_with fail
        go_meet
        exact ⟨R2.out.set 7 (.int .i64 v) rfl, below_set L2.out (Nat.le_refl _)⟩
      · obtain rfl : t = 9 := by have := HT.out; omega
        have fx : W2.frozen? ⟨w4.heap.size, 8, none⟩ = false := R2.out.froz 8
        have cx : W2.cell? ⟨w4.heap.size, 8, none⟩ = some (.int .i64 c.cg.Trip) := R2.out.cell 8 rfl
        go_wp2_with fail
        go_meet
        exact ⟨R2.out.set 8 (.int .i64 v) rfl, below_set L2.out (Nat.le_refl _)⟩
      · obtain rfl : t = 10 := by have := HT.out; omega
        have fx : W2.frozen? ⟨w4.heap.size, 9, none⟩ = false := R2.out.froz 9
        have cx : W2.cell? ⟨w4.heap.size, 9, none⟩ = some (.int .i64 c.cg.Vmin) := R2.out.cell 9 rfl
        go_wp2_with fail
        go_meet
        exact ⟨R2.out.set 9 (.int .i64 v) rfl, below_set L2.out (Nat.le_refl _)⟩
      · obtain rfl : t = 11 := by have := HT.out; omega
        have fx : W2.frozen? ⟨w4.heap.size, 10, none⟩ = false := R2.out.froz 10
        have cx : W2.cell? ⟨w4.heap.size, 10, none⟩ = some (.int .i64 c.cg.Vdark) := R2.out.cell 10 rfl
        go_wp2_with fail
        go_meet
        exact ⟨R2.out.set 10 (.int .i64 v) rfl, below_set L2.out (Nat.le_refl _)⟩
      · obtain rfl : t = 12 := by have := HT.out; omega
        have fx : W2.frozen? ⟨w4.heap.size, 11, none⟩ = false := R2.out.froz 11
        have cx : W2.cell? ⟨w4.heap.size, 11, none⟩ = some (.int .i64 c.cg.CellMin) := R2.out.cell 11 rfl
        go_wp2_with fail
        go_meet
        exact ⟨R2.out.set 11 (.int .i64 v) rfl, below_set L2.out (Nat.le_refl _)⟩
      · obtain rfl : t = 13 := by have := HT.out; omega
        have fx : W2.frozen? ⟨w4.heap.size, 12, none⟩ = false := R2.out.froz 12
        have cx : W2.cell? ⟨w4.heap.size, 12, none⟩ = some (.int .i64 c.cg.CellMax) := R2.out.cell 12 rfl
        go_wp2_with fail
        go_meet
        exact ⟨R2.out.set 12 (.int .i64 v) rfl, below_set L2.out (Nat.le_refl _)⟩
      · obtain rfl : t = 14 := by have := HT.out; omega
        have fx : W2.frozen? ⟨w4.heap.size, 13, none⟩ = false := R2.out.froz 13
        have cx : W2.cell? ⟨w4.heap.size, 13, none⟩ = some (.int .i64 c.cg.CellGap) := R2.out.cell 13 rfl
        go_wp2_with fail
        go_meet
        exact ⟨R2.out.set 13 (.int .i64 v) rfl, below_set L2.out (Nat.le_refl _)⟩
      · obtain rfl : t = 15 := by have := HT.out; omega
        have fx : W2.frozen? ⟨w4.heap.size, 14, none⟩ = false := R2.out.froz 14
        have cx : W2.cell? ⟨w4.heap.size, 14, none⟩ = some (.int .i64 c.cg.TempMax) := R2.out.cell 14 rfl
        go_wp2_with fail
        go_meet
        exact ⟨R2.out.set 14 (.int .i64 v) rfl, below_set L2.out (Nat.le_refl _)⟩
      · obtain rfl : t = 16 := by have := HT.out; omega
        have fx : W2.frozen? ⟨w4.heap.size, 15, none⟩ = false := R2.out.froz 15
        have cx : W2.cell? ⟨w4.heap.size, 15, none⟩ = some (.int .i64 c.cg.Coil) := R2.out.cell 15 rfl
        go_wp2_with fail
        go_meet
        exact ⟨R2.out.set 15 (.int .i64 v) rfl, below_set L2.out (Nat.le_refl _)⟩
      · obtain rfl : t = 17 := by have := HT.out; omega
        have fx : W2.frozen? ⟨w4.heap.size, 16, none⟩ = false := R2.out.froz 16
        have cx : W2.cell? ⟨w4.heap.size, 16, none⟩ = some (.int .i64 c.cg.Ohm) := R2.out.cell 16 rfl
        go_wp2_with fail
        go_meet
        exact ⟨R2.out.set 16 (.int .i64 v) rfl, below_set L2.out (Nat.le_refl _)⟩
    case rest =>
      obtain ⟨h1, h2⟩ := hcut
      have RC := Lib.hid h1
      have LC := Lib.hid h2
      clear h1 h2 R2 L2
      obtain ⟨o, ho⟩ : ∃ o : Bool, o = true ↔ ocvOk 4 oxF oyF (setN (oneN true i) c.cg i).Cap := by
        by_cases h : ocvOk 4 oxF oyF (setN (oneN true i) c.cg i).Cap
        · exact ⟨true, by simp [h]⟩
        · exact ⟨false, by simp [h]⟩
      have AM := Lib.hid (oneAmiss CC.out true o i hi2)
      have HW := Lib.hid (L4.out.trans (LC.out.mono L4.out.size))
      have HH := Lib.hid (HE.out.below HW.out)
      have KC := Lib.hid (checkConf (setN (oneN true i) c.cg i) _ 4 4 oxF oyF fa fn fc (busI k) (loadI k) (prioI k) o true ho (by simp; exact madeFed k hk fn (by omega)) (by omega) (by omega) wc HH.out (HO.out.below LC.out (Array.getElem?_eq_some_iff.1 HO.out).1).pts (HF.out.below LC.out).g)
      clear ho hk hn
      go_wp2_with (refine wpList_load_row_g (by kernel_rfl) 31 _ rfl w4.heap.size rfl 31 _ (0, 0) _ RC.out Tryd.underlying31 rfl (by kernel_rfl) ?_)
      refine KC.out.mono ?_
      rintro e w6 ⟨v, cc, p6, k6, rfl, hv, hd, hb⟩
      have HV := Lib.hid hv
      have HD := Lib.hid hd
      have H6 := Lib.hid (HH.out.below hb)
      have L6 := Lib.hid (HW.out.trans (hb.mono HW.out.size))
      clear hv hd hb
      go_wp2_with fail
      refine (placedC 106 t (by omega) w6).mono ?_
      rintro e w7 ⟨rfl, hb⟩
      have H7 := Lib.hid (H6.out.below hb)
      have V7 := Lib.hid (HV.out.below hb)
      have L7 := Lib.hid (L6.out.trans (hb.mono L6.out.size))
      clear hb
      have SA := Lib.hid (sameA H7.out V7.out HD.out (by have := AM.out; rw [← HT.out] at this; exact this))
      go_wp2_with fail
      refine SA.out.mono ?_
      rintro e w8 ⟨rfl, hb⟩
      have L8 := Lib.hid (L7.out.trans (hb.mono L7.out.size))
      clear hb
      go_wp2_with fail
      go_returns
      exact ⟨rfl, L8.out⟩
end Go.Proofs.YtbeemfkndpandaaDoor
