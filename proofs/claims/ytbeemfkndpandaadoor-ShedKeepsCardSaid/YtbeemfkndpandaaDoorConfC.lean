/- Which field of a configuration is amiss first: config.Check. Conditions: the seven errors lie apart. -/
import Derived.Test.YtbeemfkndpandaaDoorConfB
import Derived.Test.YtbeemfkndpandaaDoorLexT
namespace Go.Proofs.YtbeemfkndpandaaDoor
open Go.RowKit
set_option linter.unusedVariables false
set_option maxRecDepth 20000
def okL (c : CG) (o f : Bool) : List Bool := [inB c.D 1 100, inB c.B 1 100, inB c.S 1 100, inB c.P 1 100, inB c.H 1 100, inB c.Cap 1 1073741824, inB c.Qmin 0 c.Cap, inB c.Imax 1 500000, inB c.Trip 1 500000, inB c.Vmin 1 60000, inB c.Vdark 1 60000, inB c.CellMin 0 6000, inB c.CellMax c.CellMin 6000, inB c.CellGap 0 6000, inB c.TempMax (-500) 1500, inB c.Coil 1 30000, inB c.Ohm 0 100000, inB c.SagErr 0 60000, inB c.AmpErr 0 500000, inB c.Drift 0 1073741824, o, inB c.GenMax 0 1073741824, inB c.BatMax 0 1073741824, inB c.ExtMax 0 1073741824, inB c.Eland 0 1073741824, inB c.Margin c.Imax 1073741824, f]
def okA (c : CG) (o f : Bool) : Array Value := ((okL c o f).map Value.bool).toArray
theorem okA_at (c : CG) (o f : Bool) (i : Nat) (h : i < 27) : (okA c o f)[i]? = some (.bool ((okL c o f)[i]?.getD false)) := by
  have hl : (okL c o f).length = 27 := rfl
  unfold okA
  rw [List.getElem?_toArray, List.getElem?_map, List.getElem?_eq_getElem (by omega)]
  rfl
/-- The first field that is amiss. -/
inductive Amiss (b : Nat → Bool) : Int → Bool → Int → Prop
  | bad (i : Nat) (hi : i < 27) (h : b i = false) (hj : ∀ j, j < i → b j = true) : Amiss b 106 true (i + 1)
  | fine (h : ∀ j, j < 27 → b j = true) : Amiss b 0 false 0
theorem Amiss.same {b : Nat → Bool} {c c' k k' : Int} {p p' : Bool} (h : Amiss b c p k) (g : Amiss b c' p' k') : c = c' ∧ p = p' ∧ k = k' := by
  cases h with
  | bad i hi h hj =>
    cases g with
    | fine gj => rw [gj i hi] at h; cases h
    | bad i' gi g gj =>
      rcases Nat.lt_trichotomy i i' with q | q | q
      · rw [gj i q] at h; cases h
      · subst q; exact ⟨rfl, rfl, rfl⟩
      · rw [hj i' q] at g; cases g
  | fine hj =>
    cases g with
    | fine gj => exact ⟨rfl, rfl, rfl⟩
    | bad i' gi g gj => rw [hj i' gi] at g; cases g
theorem ocvK {E : Nat → Addr} (c : CG) (a : Option Addr) (n cp : Nat) (x y : Nat → Int) (fe : Value) (o : Bool) (ho : o = true ↔ ocvOk n x y c.Cap) (hn : n < 4611686018427387904) (w : World) (he : Ers E w) (h : PtsG w a n x y) :
    Calls Tryd.prog 58 #[.agg (cgA c (.slice a n cp) fe)] w fun e w' => e = .returned (.bool o) ∧ Below w.heap.size w w' := by
  refine (ocvC c a n cp x y fe hn w he h).mono ?_
  rintro e w' ⟨r, h1, h2, h3⟩
  have : r = o := Bool.eq_iff_iff.2 (h2.trans ho.symm)
  subst this
  exact ⟨h1, h3⟩
theorem feedersK (c : CG) (oc : Value) (a : Option Addr) (n cp : Nat) (bu lo pr : Nat → Int) (o : Bool) (ho : o = true ↔ fedOk n bu lo pr) (hn : n < 4611686018427387904) (w : World) (h : FedG w a n bu lo pr) :
    Calls Tryd.prog 59 #[.agg (cgA c oc (.slice a n cp))] w fun e w' => e = .returned (.bool o) ∧ Below w.heap.size w w' := by
  refine (feedersC c oc a n cp bu lo pr hn w h).mono ?_
  rintro e w' ⟨r, h1, h2, h3⟩
  have : r = o := Bool.eq_iff_iff.2 (h2.trans ho.symm)
  subst this
  exact ⟨h1, h3⟩
set_option maxHeartbeats 16000000 in
theorem fieldsC {E : Nat → Addr} (c : CG) (a : Option Addr) (n cp : Nat) (x y : Nat → Int) (b : Option Addr) (m cq : Nat) (bu lo pr : Nat → Int) (o f : Bool) (ho : o = true ↔ ocvOk n x y c.Cap) (hf : f = true ↔ fedOk m bu lo pr)
    (hn : n < 4611686018427387904) (hm : m < 4611686018427387904) (w : World) (he : Ers E w) (h : PtsG w a n x y) (g : FedG w b m bu lo pr) :
    Calls Tryd.prog 46 #[.agg (cgA c (.slice a n cp) (.slice b m cq))] w fun e w' => ∃ B, e = .returned (.slice (some ⟨B, 0, none⟩) 27 27) ∧ w'.heap[B]? = some (.cells (okA c o f) 4 (0, 0)) ∧ w.heap.size ≤ B ∧ Below w.heap.size w w' := by
  have H := Lib.hid h
  have G := Lib.hid g
  have HE := Lib.hid he
  clear h he g
  go_enter Tryd.func46, Tryd.ntmps46
  go_upto_region 1 with fail
  have B0 := Lib.hid (Bx.new w (cgA c (.slice a n cp) (.slice b m cq)) 31)
  generalize World.alloc w _ = W at *
  have hB : W.heap.size ≤ W.heap.size := Nat.le_refl _
  have s0 := fun d => below_cell (reach_below W.heap.size W d) (show W.cell? ⟨w.heap.size, 0, none⟩ = some (.int .i64 c.D) from B0.out.cell 0 rfl)
  have s1 := fun d => below_cell (reach_below W.heap.size W d) (show W.cell? ⟨w.heap.size, 1, none⟩ = some (.int .i64 c.B) from B0.out.cell 1 rfl)
  have s2 := fun d => below_cell (reach_below W.heap.size W d) (show W.cell? ⟨w.heap.size, 2, none⟩ = some (.int .i64 c.S) from B0.out.cell 2 rfl)
  have s3 := fun d => below_cell (reach_below W.heap.size W d) (show W.cell? ⟨w.heap.size, 3, none⟩ = some (.int .i64 c.P) from B0.out.cell 3 rfl)
  have s4 := fun d => below_cell (reach_below W.heap.size W d) (show W.cell? ⟨w.heap.size, 4, none⟩ = some (.int .i64 c.H) from B0.out.cell 4 rfl)
  have s5 := fun d => below_cell (reach_below W.heap.size W d) (show W.cell? ⟨w.heap.size, 5, none⟩ = some (.int .i64 c.Cap) from B0.out.cell 5 rfl)
  have s6 := fun d => below_cell (reach_below W.heap.size W d) (show W.cell? ⟨w.heap.size, 6, none⟩ = some (.int .i64 c.Qmin) from B0.out.cell 6 rfl)
  have s7 := fun d => below_cell (reach_below W.heap.size W d) (show W.cell? ⟨w.heap.size, 7, none⟩ = some (.int .i64 c.Imax) from B0.out.cell 7 rfl)
  have s8 := fun d => below_cell (reach_below W.heap.size W d) (show W.cell? ⟨w.heap.size, 8, none⟩ = some (.int .i64 c.Trip) from B0.out.cell 8 rfl)
  have s9 := fun d => below_cell (reach_below W.heap.size W d) (show W.cell? ⟨w.heap.size, 9, none⟩ = some (.int .i64 c.Vmin) from B0.out.cell 9 rfl)
  have s10 := fun d => below_cell (reach_below W.heap.size W d) (show W.cell? ⟨w.heap.size, 10, none⟩ = some (.int .i64 c.Vdark) from B0.out.cell 10 rfl)
  have s11 := fun d => below_cell (reach_below W.heap.size W d) (show W.cell? ⟨w.heap.size, 11, none⟩ = some (.int .i64 c.CellMin) from B0.out.cell 11 rfl)
  have s12 := fun d => below_cell (reach_below W.heap.size W d) (show W.cell? ⟨w.heap.size, 12, none⟩ = some (.int .i64 c.CellMax) from B0.out.cell 12 rfl)
  have s13 := fun d => below_cell (reach_below W.heap.size W d) (show W.cell? ⟨w.heap.size, 13, none⟩ = some (.int .i64 c.CellGap) from B0.out.cell 13 rfl)
  have s14 := fun d => below_cell (reach_below W.heap.size W d) (show W.cell? ⟨w.heap.size, 14, none⟩ = some (.int .i64 c.TempMax) from B0.out.cell 14 rfl)
  have s15 := fun d => below_cell (reach_below W.heap.size W d) (show W.cell? ⟨w.heap.size, 15, none⟩ = some (.int .i64 c.Coil) from B0.out.cell 15 rfl)
  have s16 := fun d => below_cell (reach_below W.heap.size W d) (show W.cell? ⟨w.heap.size, 16, none⟩ = some (.int .i64 c.Ohm) from B0.out.cell 16 rfl)
  have s17 := fun d => below_cell (reach_below W.heap.size W d) (show W.cell? ⟨w.heap.size, 17, none⟩ = some (.int .i64 c.SagErr) from B0.out.cell 17 rfl)
  have s18 := fun d => below_cell (reach_below W.heap.size W d) (show W.cell? ⟨w.heap.size, 18, none⟩ = some (.int .i64 c.AmpErr) from B0.out.cell 18 rfl)
  have s19 := fun d => below_cell (reach_below W.heap.size W d) (show W.cell? ⟨w.heap.size, 19, none⟩ = some (.int .i64 c.Drift) from B0.out.cell 19 rfl)
  have s21 := fun d => below_cell (reach_below W.heap.size W d) (show W.cell? ⟨w.heap.size, 21, none⟩ = some (.int .i64 c.GenMax) from B0.out.cell 21 rfl)
  have s22 := fun d => below_cell (reach_below W.heap.size W d) (show W.cell? ⟨w.heap.size, 22, none⟩ = some (.int .i64 c.BatMax) from B0.out.cell 22 rfl)
  have s23 := fun d => below_cell (reach_below W.heap.size W d) (show W.cell? ⟨w.heap.size, 23, none⟩ = some (.int .i64 c.ExtMax) from B0.out.cell 23 rfl)
  have s24 := fun d => below_cell (reach_below W.heap.size W d) (show W.cell? ⟨w.heap.size, 24, none⟩ = some (.int .i64 c.Eland) from B0.out.cell 24 rfl)
  have s25 := fun d => below_cell (reach_below W.heap.size W d) (show W.cell? ⟨w.heap.size, 25, none⟩ = some (.int .i64 c.Margin) from B0.out.cell 25 rfl)
  have KI := Lib.hid inC
  have KO := Lib.hid fun d => ocvK c a n cp x y (.slice b m cq) o ho hn (reach W.heap.size W d) (HE.out.below (B0.out.reach d).lo) (H.out.below (B0.out.reach d).lo)
  have KF := Lib.hid fun d => feedersK c (.slice a n cp) b m cq bu lo pr f hf hm (reach W.heap.size W d) (G.out.below (B0.out.reach d).lo)
  have HG := Lib.hid (fun (w' : World) (hw : ∃ d, w' = reach W.heap.size W d) => (show w'.heap[w.heap.size]? = some (.cells (cgA c (.slice a n cp) (.slice b m cq)) 31 (0, 0)) by obtain ⟨d, rfl⟩ := hw; exact ((reach_below _ _ d).block _ B0.out.size).trans B0.out.row))
  clear ho hf
  simp only [List.append_eq, List.cons_append, List.nil_append]
  refine wp_region_tailL W.heap.size 85 (by kernel_rfl) (by kernel_rfl) (Nat.le_of_ble_eq_true (by kernel_rfl)) (by kernel_rfl) (by kernel_rfl) (by kernel_rfl) (by kernel_rfl) ?_
  simp only [List.take_succ_cons, List.take_zero, List.drop_succ_cons, List.drop_zero]
  repeat (first | (go_big_quiet_want; refine quiet_load_row 31 _ rfl (w.heap.size) rfl 31 _ (0, 0) _ HG.out Tryd.underlying31 rfl (by kernel_rfl) ?_; go_big_quiet_on; simp only [Act.put, List.setIfInBounds_toArray, List.set_cons_succ, List.set_cons_zero]) | go_big_quiet_step ((first | (go_at_call 57; with_reducible exact reach_call0 (KI.out _ _ _ _)) | (go_at_call 58; with_reducible exact reach_call hB (KO.out _)) | (go_at_call 59; with_reducible exact reach_call hB (KF.out _)))))
  refine wpQuiet_nil ?_
  rintro w' ⟨d, rfl⟩
  have B1 := Lib.hid (B0.out.reach d)
  clear s0 s1 s2 s3 s4 s5 s6 s7 s8 s9 s10 s11 s12 s13 s14 s15 s16 s17 s18 s19 s21 s22 s23 s24 s25 HG KI KO KF HE H G B0
  generalize reach W.heap.size W d = W2 at *
  go_wp2_with fail
  go_ret
  exact ⟨_, rfl, heap_alloc_new _ _, B1.out.lo.size, B1.out.lo.alloc B1.out.lo.size _⟩
theorem row_cell {w : World} {B : Nat} {c : CG} {o f : Bool} (h : w.heap[B]? = some (.cells (okA c o f) 4 (0, 0))) (i : Nat) (hi : i < 27) : w.cell? ⟨B, i, none⟩ = some (.bool ((okL c o f)[i]?.getD false)) :=
  (cell_of_row _ _ i _ _ _ h).trans (okA_at c o f i hi)
set_option maxHeartbeats 16000000 in
theorem checkConf {E : Nat → Addr} (c : CG) (a : Option Addr) (n cp : Nat) (x y : Nat → Int) (b : Option Addr) (m cq : Nat) (bu lo pr : Nat → Int) (o f : Bool) (ho : o = true ↔ ocvOk n x y c.Cap) (hf : f = true ↔ fedOk m bu lo pr)
    (hn : n < 4611686018427387904) (hm : m < 4611686018427387904) (w : World) (he : Ers E w) (h : PtsG w a n x y) (g : FedG w b m bu lo pr) :
    Calls Tryd.prog 30 #[.agg (cgA c (.slice a n cp) (.slice b m cq))] w fun e w' => ∃ v c1 p1 k1, e = .returned v ∧ ErrIs E w' v c1 p1 k1 ∧ Amiss (fun i => (okL c o f)[i]?.getD false) c1 p1 k1 ∧ Below w.heap.size w w' := by
  have H := Lib.hid h
  have G := Lib.hid g
  have HE := Lib.hid he
  have HO := Lib.hid ho
  have HF := Lib.hid hf
  clear h he g ho hf
  go_enter Tryd.func30, Tryd.ntmps30
  go_upto_region 1 with fail
  have B0 := Lib.hid (Bx.new w (cgA c (.slice a n cp) (.slice b m cq)) 31)
  generalize World.alloc w _ = W at *
  go_wp2_with (refine wpList_load_row_g (by kernel_rfl) 31 _ rfl w.heap.size rfl 31 _ (0, 0) _ B0.out.row Tryd.underlying31 rfl (by kernel_rfl) ?_)
  refine (fieldsC c a n cp x y b m cq bu lo pr o f HO.out HF.out hn hm W (HE.out.below B0.out.lo) (H.out.below B0.out.lo) (G.out.below B0.out.lo)).mono ?_
  rintro e w1 ⟨B, rfl, hr, hB1, hb⟩
  have R1 := Lib.hid hr
  have L1 := Lib.hid (B0.out.lo.trans (hb.mono B0.out.lo.size))
  clear hr hb B0
  go_wp2_with fail
  go_loopw [8] (fun s wr => ∃ i : Nat, i ≤ 27 ∧ s = .int .i64 i ∧ wr = w1 ∧ ∀ j, j < i → (okL c o f)[j]?.getD false = true) (fun s _ => 27 - (intOf s).toNat)
  case atStart => exact ⟨0, by omega, rfl, rfl, fun j h => by omega⟩
  case round =>
    obtain ⟨i, hi, rfl, rfl, hj⟩ := hrel
    have HJ := Lib.hid hj
    clear hj
    by_cases hl : i < 27
    · have ci := row_cell R1.out i hl
      have i1 : (i : Int) < 27 := by omega
      obtain ⟨bb, hbb⟩ : ∃ bb, (okL c o f)[i]?.getD false = bb := ⟨_, rfl⟩
      rw [hbb] at ci
      have HB := Lib.hid hbb
      clear hbb
      cases bb
      · have q0 := (HE.out.below L1.out).g5
        unfold errV at q0
        go_wp2_with fail
        go_returns
        exact ⟨_, 106, true, (i : Int) + 1, rfl, .placed 5 (by omega) wr.heap.size _ (heap_alloc_new _ _), .bad i hl HB.out HJ.out, L1.out.alloc L1.out.size _⟩
      · go_wp2_with fail
        go_roundw
        case rel => exact ⟨i + 1, by omega, by go_num, trivial, fun j h => by
          by_cases hj : j = i
          · subst hj; exact HB.out
          · exact HJ.out j (by omega)⟩
        case measure => simp [intOf]; omega
    · go_wp2_with fail
      go_returns
      exact ⟨_, _, _, _, rfl, .fine, .fine (fun j h => HJ.out j (by omega)), L1.out⟩
end Go.Proofs.YtbeemfkndpandaaDoor
