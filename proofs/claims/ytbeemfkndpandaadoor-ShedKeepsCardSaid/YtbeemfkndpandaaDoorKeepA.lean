/- The document's keeper: what a step does, beside the program's. Conditions: six feeders at most. -/
import Derived.Test.YtbeemfkndpandaaDoorBitS
import Derived.Test.YtbeemfkndpandaaDoorOnly
import Derived.Deep.DeepCutAuto
namespace Go.Proofs.YtbeemfkndpandaaDoor
open Go Go.RowKit
set_option linter.unusedVariables false
set_option maxRecDepth 20000
theorem get_setK (arr : Array Value) (i j : Nat) (v : Value) (hi : i < arr.size) : (arr.setIfInBounds i v)[j]? = if i = j then some v else arr[j]? := by
  rw [Array.getElem?_setIfInBounds]
  split <;> simp_all
def updN (f : Nat → Nat) (c x : Nat) : Nat → Nat := fun k => if k = c then x else f k
/-- The document's keeper at block R. -/
structure Kr (w : World) (R H : Nat) (fe : Value) (N : Nat → Nat) (on : Int) : Prop where
  row : ∃ (A : Array Value) (t : TypeId), w.heap[R]? = some (.cells A t (0, 0)) ∧ A.size = 44 ∧ A[4]? = some (.int .i64 (H : Int)) ∧ A[26]? = some fe ∧ A[43]? = some (.int .i64 on) ∧ ∀ j, j < 16 → A[27 + j]? = some (.int .i64 (N j : Int))
theorem Kr.lt {w : World} {R H : Nat} {fe : Value} {N : Nat → Nat} {on : Int} (h : Kr w R H fe N on) : R < w.heap.size := by
  obtain ⟨A, t, h1, _⟩ := h.row
  exact (Array.getElem?_eq_some_iff.1 h1).1
theorem Kr.below {w w' : World} {R H b : Nat} {fe : Value} {N : Nat → Nat} {on : Int} (h : Kr w R H fe N on) (hb : Below b w w') (hl : R < b) : Kr w' R H fe N on := by
  obtain ⟨A, t, h1, h2⟩ := h.row
  exact ⟨A, t, (hb.block R hl).trans h1, h2⟩
theorem Kr.other {w : World} {R H K : Nat} {fe : Value} {N : Nat → Nat} {on : Int} (h : Kr w R H fe N on) (hn : R ≠ K) (j : Nat) (v : Value) : Kr (w.setCell ⟨K, j, none⟩ v) R H fe N on := by
  obtain ⟨A, t, h1, h2⟩ := h.row
  exact ⟨A, t, (heap_setCell_other w ⟨K, j, none⟩ R _ hn).trans h1, h2⟩
theorem Kr.c4 {w : World} {R H : Nat} {fe : Value} {N : Nat → Nat} {on : Int} (h : Kr w R H fe N on) : w.cell? ⟨R, 4, none⟩ = some (.int .i64 (H : Int)) := by
  obtain ⟨A, t, h1, _, h4, _⟩ := h.row
  exact (cell_of_row w R _ A _ _ h1).trans h4
theorem Kr.c26 {w : World} {R H : Nat} {fe : Value} {N : Nat → Nat} {on : Int} (h : Kr w R H fe N on) : w.cell? ⟨R, 26, none⟩ = some fe := by
  obtain ⟨A, t, h1, _, _, h4, _⟩ := h.row
  exact (cell_of_row w R _ A _ _ h1).trans h4
theorem Kr.c43 {w : World} {R H : Nat} {fe : Value} {N : Nat → Nat} {on : Int} (h : Kr w R H fe N on) : w.cell? ⟨R, 43, none⟩ = some (.int .i64 on) := by
  obtain ⟨A, t, h1, _, _, _, h4, _⟩ := h.row
  exact (cell_of_row w R _ A _ _ h1).trans h4
theorem Kr.cN {w : World} {R H : Nat} {fe : Value} {N : Nat → Nat} {on : Int} (h : Kr w R H fe N on) (j : Nat) (hj : j < 16) : w.cell? ⟨R, 27 + j, none⟩ = some (.int .i64 (N j : Int)) := by
  obtain ⟨A, t, h1, _, _, _, _, h4⟩ := h.row
  exact (cell_of_row w R _ A _ _ h1).trans (h4 j hj)
theorem Kr.froz {w : World} {R H : Nat} {fe : Value} {N : Nat → Nat} {on : Int} (h : Kr w R H fe N on) (j : Nat) : w.frozen? ⟨R, j, none⟩ = false := by
  obtain ⟨A, t, h1, _⟩ := h.row
  simp [World.frozen?, h1]
theorem Kr.setN {w : World} {R H : Nat} {fe : Value} {N : Nat → Nat} {on : Int} (h : Kr w R H fe N on) (i x : Nat) (hi : i < 16) : Kr (w.setCell ⟨R, 27 + i, none⟩ (.int .i64 (x : Int))) R H fe (updN N i x) on := by
  obtain ⟨A, t, h1, h2, h3, h4, h5, h6⟩ := h.row
  refine ⟨A.setIfInBounds (27 + i) (.int .i64 (x : Int)), t, by simp [World.setCell, Array.getElem?_modify, h1], by simpa using h2, ?_, ?_, ?_, fun j hj => ?_⟩
  · rw [get_setK _ _ _ _ (by omega), if_neg (by omega)]; exact h3
  · rw [get_setK _ _ _ _ (by omega), if_neg (by omega)]; exact h4
  · rw [get_setK _ _ _ _ (by omega), if_neg (by omega)]; exact h5
  · rw [get_setK _ _ _ _ (by omega)]
    unfold updN
    by_cases e : j = i
    · subst e; rw [if_pos rfl, if_pos rfl]
    · rw [if_neg (by omega), if_neg e]; exact h6 j hj
theorem Kr.setO {w : World} {R H : Nat} {fe : Value} {N : Nat → Nat} {on : Int} (h : Kr w R H fe N on) (x : Int) : Kr (w.setCell ⟨R, 43, none⟩ (.int .i64 x)) R H fe N x := by
  obtain ⟨A, t, h1, h2, h3, h4, h5, h6⟩ := h.row
  refine ⟨A.setIfInBounds 43 (.int .i64 x), t, by simp [World.setCell, Array.getElem?_modify, h1], by simpa using h2, ?_, ?_, ?_, fun j hj => ?_⟩
  · rw [get_setK _ _ _ _ (by omega), if_neg (by omega)]; exact h3
  · rw [get_setK _ _ _ _ (by omega), if_neg (by omega)]; exact h4
  · rw [get_setK _ _ _ _ (by omega), if_pos rfl]
  · rw [get_setK _ _ _ _ (by omega), if_neg (by omega)]; exact h6 j hj
theorem getN_set (L : List Nat) (i x j : Nat) (hi : i < L.length) : getN (L.set i x) j = if j = i then x else getN L j := by
  unfold getN
  rw [List.getElem?_set]
  by_cases e : j = i
  · subst e; simp [hi]
  · rw [if_neg (fun h => e h.symm), if_neg e]
theorem stpK_len (want : Int) (need : Nat) (L : List Nat) (i : Nat) : (stpK want need L i).length = L.length := by
  induction i with
  | zero => rfl
  | succ i ih => unfold stpK; simpa using ih
theorem onV_clr (H : Nat) (h1 : 1 ≤ H) (L : List Nat) (n i : Nat) (hn : n ≤ 6) (hl : L.length = n) (hi : i < n) : onV H (L.set i 0) n = clrI (onV H L n) i := by
  rw [onV_set, onV_set, clr_set _ n i hn hi]
  refine onBV_congr n fun j hj => ?_
  rw [getN_set L i 0 j (by omega)]
  by_cases e : j = i
  · subst e; simp; omega
  · simp [e]
theorem onV_or (H : Nat) (L : List Nat) (n i x : Nat) (hn : n ≤ 6) (hl : L.length = n) (hi : i < n) (hx : H ≤ x) : onV H (L.set i x) n = orI (onV H L n) i := by
  rw [onV_set, onV_set, or_set _ n i hn hi]
  refine onBV_congr n fun j hj => ?_
  rw [getN_set L i x j (by omega)]
  by_cases e : j = i
  · subst e; simp; omega
  · simp [e]
theorem onV_no (H : Nat) (L : List Nat) (n i x : Nat) (hn : n ≤ 6) (hl : L.length = n) (hi : i < n) (hx : x < H) (hu : getN L i ≤ x) : onV H (L.set i x) n = onV H L n := by
  rw [onV_set, onV_set]
  refine onBV_congr n fun j hj => ?_
  rw [getN_set L i x j (by omega)]
  by_cases e : j = i
  · subst e; simp; omega
  · simp [e]
/-- The program's counts L beside the document's N. -/
def Cnt (H n : Nat) (L : List Nat) (N : Nat → Nat) : Prop := ∀ j, j < n → getN L j = min (N j) H ∧ N j ≤ 1000
theorem Cnt.clr {H n : Nat} {L : List Nat} {N : Nat → Nat} (h : Cnt H n L N) (i : Nat) (hl : L.length = n) (hi : i < n) : Cnt H n (L.set i 0) (updN N i 0) := fun j hj => by
  unfold updN
  rw [getN_set L i 0 j (by omega)]
  by_cases e : j = i
  · rw [if_pos e, if_pos e]; omega
  · rw [if_neg e, if_neg e]; exact h j hj
theorem Cnt.up {H n : Nat} {L : List Nat} {N : Nat → Nat} (h : Cnt H n L N) (i : Nat) (hl : L.length = n) (hi : i < n) (hH : H ≤ 1000) : Cnt H n (L.set i (min (getN L i + 1) H)) (updN N i (min (N i + 1) 1000)) := fun j hj => by
  unfold updN
  rw [getN_set L i _ j (by omega)]
  by_cases e : j = i
  · rw [if_pos e, if_pos e]
    have := h i hi
    omega
  · rw [if_neg e, if_neg e]; exact h j hj
set_option maxHeartbeats 8000000 in
theorem stepR (R H n : Nat) (fa : Option Addr) (fc : Nat) (L : List Nat) (N : Nat → Nat) (want : Int) (hn : n ≤ 6) (h1 : 1 ≤ H) (hH : H ≤ 100) (hL : L.length = n) (hC : Cnt H n L N) (w : World) (h : Kr w R H (.slice fa n fc) N (onV H L n)) :
    Calls Tryd.prog 24 #[.pointer (some ⟨R, 0, none⟩), .int .i64 want] w fun e w' => ∃ N', Cnt H n (stpK want H L n) N' ∧ e = .returned (.int .i64 (onV H (stpK want H L n) n)) ∧ Kr w' R H (.slice fa n fc) N' (onV H (stpK want H L n) n) ∧ Only R w w' := by
  have HK := Lib.hid h
  have HC := Lib.hid hC
  have HLL := Lib.hid hL
  clear h hC hL
  obtain ⟨f, hf⟩ : ∃ f, stpK want H L = f := ⟨_, rfl⟩
  have FL := Lib.hid (show ∀ i, (f i).length = n from fun i => by rw [← hf, stpK_len]; exact HLL.out)
  have FZ := Lib.hid (show f 0 = L by rw [← hf]; rfl)
  have FS := Lib.hid (show ∀ i, f (i + 1) = (f i).set i (if tz want i then 0 else min (getN (f i) i + 1) H) from fun i => by rw [← hf]; rfl)
  rw [hf]
  clear hf
  go_enter Tryd.func24, Tryd.ntmps24
  go_wp2_with fail
  go_loopw [5, 6] (fun v v6 wr => ∃ (i : Nat) (M : Nat → Nat), i ≤ n ∧ v = .int .i64 i ∧ Cnt H n (f i) M ∧ Kr wr R H (.slice fa n fc) M (onV H (f i) n) ∧ Only R w wr) (fun v _ _ => n - (intOf v).toNat)
  case atStart => exact ⟨0, N, by omega, rfl, by rw [FZ.out]; exact HC.out, by rw [FZ.out]; exact HK.out, Only.refl _ _⟩
  case round =>
    obtain ⟨i, M, hi, rfl, hc, hk, hb⟩ := hrel
    have HM := Lib.hid hc
    have KM := Lib.hid hk
    have HB := Lib.hid hb
    clear hc hk hb
    have c26 := KM.out.c26
    by_cases hl : i < n
    · have i1 : (i : Int) < (n : Int) := by omega
      have i16 : (i : Int) < 16 := by omega
      have i64 : i < 64 := by omega
      have c43 := KM.out.c43
      have ci := KM.out.cN i (by omega)
      have fi := KM.out.froz (27 + i)
      have f43 := KM.out.froz 43
      have F1 := FS.out i
      have HU := HM.out i hl
      obtain ⟨tv, gt⟩ : ∃ tv, tz want i = tv := ⟨_, rfl⟩
      have gb := and_bit want i (by omega)
      rw [gt] at gb F1
      cases tv
      · have x9 : IntKind.i64.wrap ((M i : Int) + 1) = (M i : Int) + 1 := IntWalk.i64_in _ (by omega)
        obtain ⟨x, hx⟩ : ∃ x, min (M i + 1) 1000 = x := ⟨_, rfl⟩
        have C1 := Lib.hid (show Cnt H n (f (i + 1)) (updN M i x) by rw [F1, ← hx]; exact HM.out.up i (FL.out i) hl (by omega))
        have gm : min ((M i : Int) + 1) (1000 : Int) = (x : Int) := by omega
        have gm2 : (if (1000 : Int) < (M i : Int) + 1 then (1000 : Int) else (M i : Int) + 1) = (x : Int) := by split <;> omega
        have gm3 : (if (M i : Int) + 1 < (1000 : Int) then (M i : Int) + 1 else (1000 : Int)) = (x : Int) := by split <;> omega
        have V1 := Lib.hid (show onV H (f (i + 1)) n = if H ≤ x then orI (onV H (f i) n) i else onV H (f i) n by
          rw [F1]
          by_cases q : H ≤ x
          · rw [if_pos q]; exact onV_or H _ n i _ hn (FL.out i) hl (by simp only [Bool.false_eq_true, if_false]; omega)
          · rw [if_neg q]; exact onV_no H _ n i _ hn (FL.out i) hl (by simp only [Bool.false_eq_true, if_false]; omega) (by simp only [Bool.false_eq_true, if_false]; omega))
        have KS := Lib.hid fun (u : World) (hu : Kr u R H (.slice fa n fc) M (onV H (f i) n)) => hu.setN i x (by omega)
        clear hx F1 HU gt c43 f43
        have si := fun d => below_cell (reach_below wr.heap.size wr d) ci
        go_upto_region 8 with fail
        refine wp_region_tailR wr.heap.size 13 (by kernel_rfl) (by kernel_rfl) ?_
        simp only [List.take_succ_cons, List.take_zero, List.drop_succ_cons, List.drop_zero]
        repeat (go_big_quiet_step (fail))
        refine wpQuiet_nil ?_
        rintro w' ⟨d, rfl⟩
        have KD := Lib.hid (KM.out.below (reach_below wr.heap.size wr d) KM.out.lt)
        have BD := Lib.hid (HB.out.trans (Only.of_below R (reach_below wr.heap.size wr d)))
        clear si c26 ci fi
        generalize reach wr.heap.size wr d = w5 at *
        have fi := KD.out.froz (27 + i)
        have ci := KD.out.cN i (by omega)
        have K9 := Lib.hid (KS.out w5 KD.out)
        have B9 := Lib.hid (BD.out.trans (Only.set R (27 + i) w5 (.int .i64 (x : Int))))
        go_upto_region 9 with fail
        clear fi ci KD BD KS
        generalize World.setCell w5 _ _ = w6 at *
        have s4 := fun d => below_cell (reach_below w6.heap.size w6 d) K9.out.c4
        have si := fun d => below_cell (reach_below w6.heap.size w6 d) (show w6.cell? ⟨R, 27 + i, none⟩ = some (.int .i64 (x : Int)) from (K9.out.cN i (by omega)).trans (by unfold updN; rw [if_pos rfl]))
        by_cases q : H ≤ x
        · have gh : decide ((H : Int) ≤ (x : Int)) = true := decide_eq_true (by omega)
          have V2 := Lib.hid (show onV H (f (i + 1)) n = orI (onV H (f i) n) i by rw [V1.out, if_pos q])
          refine wp_region_reach w6.heap.size (by kernel_rfl) (by kernel_rfl) ?_
          repeat (go_big_quiet_step (fail))
          refine wpQuiet_nil ?_
          rintro w' ⟨d, rfl⟩
          have KD := Lib.hid (K9.out.below (reach_below w6.heap.size w6 d) K9.out.lt)
          have BD := Lib.hid (B9.out.trans (Only.of_below R (reach_below w6.heap.size w6 d)))
          clear s4 si
          generalize reach w6.heap.size w6 d = w7 at *
          have c43 := KD.out.c43
          have f43 := KD.out.froz 43
          have K2 := Lib.hid (show Kr (w7.setCell ⟨R, 43, none⟩ (.int .i64 (orI (onV H (f i) n) i))) R H (.slice fa n fc) (updN M i x) (onV H (f (i + 1)) n) by rw [V2.out]; exact KD.out.setO _)
          have B2 := Lib.hid (BD.out.trans (Only.set R 43 w7 (.int .i64 (orI (onV H (f i) n) i))))
          go_wp2_with fail
          go_roundw
          case rel => exact ⟨i + 1, _, by omega, by go_num, C1.out, K2.out, B2.out⟩
          case measure => simp [intOf]; omega
        · have gh : decide ((H : Int) ≤ (x : Int)) = false := decide_eq_false (by omega)
          have V2 := Lib.hid (show onV H (f (i + 1)) n = onV H (f i) n by rw [V1.out, if_neg q])
          refine wp_region_reach w6.heap.size (by kernel_rfl) (by kernel_rfl) ?_
          repeat (go_big_quiet_step (fail))
          refine wpQuiet_nil ?_
          rintro w' ⟨d, rfl⟩
          have KD := Lib.hid (K9.out.below (reach_below w6.heap.size w6 d) K9.out.lt)
          have BD := Lib.hid (B9.out.trans (Only.of_below R (reach_below w6.heap.size w6 d)))
          clear s4 si
          generalize reach w6.heap.size w6 d = w7 at *
          have K2 := Lib.hid (show Kr w7 R H (.slice fa n fc) (updN M i x) (onV H (f (i + 1)) n) by rw [V2.out]; exact KD.out)
          go_wp2_with fail
          go_roundw
          case rel => exact ⟨i + 1, _, by omega, by go_num, C1.out, K2.out, BD.out⟩
          case measure => simp [intOf]; omega
      · have C1 := Lib.hid (show Cnt H n (f (i + 1)) (updN M i 0) by rw [F1]; exact HM.out.clr i (FL.out i) hl)
        have K1 : Kr (wr.setCell ⟨R, 27 + i, none⟩ (.int .i64 0)) R H (.slice fa n fc) (updN M i 0) (onV H (f i) n) := KM.out.setN i 0 (by omega)
        have d43 := K1.c43
        have g43 := K1.froz 43
        have V1 := Lib.hid (show onV H (f (i + 1)) n = clrI (onV H (f i) n) i by rw [F1]; exact onV_clr H h1 _ n i hn (FL.out i) hl)
        have K2 := Lib.hid (show Kr ((wr.setCell ⟨R, 27 + i, none⟩ (.int .i64 0)).setCell ⟨R, 43, none⟩ (.int .i64 (clrI (onV H (f i) n) i))) R H (.slice fa n fc) (updN M i 0) (onV H (f (i + 1)) n) by rw [V1.out]; exact K1.setO _)
        have B1 := Lib.hid (HB.out.trans ((Only.set R (27 + i) wr (.int .i64 0)).trans (Only.set R 43 _ (.int .i64 (clrI (onV H (f i) n) i)))))
        clear F1 HU gt K1 c43 f43
        go_wp2_with fail
        go_roundw
        case rel => exact ⟨i + 1, _, by omega, by go_num, C1.out, K2.out, B1.out⟩
        case measure => simp [intOf]; omega
    · obtain rfl : i = n := by omega
      have c43 := KM.out.c43
      go_wp2_with fail
      go_returns
      exact ⟨M, HM.out, rfl, KM.out, HB.out⟩
end Go.Proofs.YtbeemfkndpandaaDoor
