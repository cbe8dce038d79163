/- shed.Keeper: New, Step, On. Conditions: six feeders at most. -/
import Derived.Test.YtbeemfkndpandaaDoorShedW
import Derived.Test.YtbeemfkndpandaaDoorMix
namespace Go.Proofs.YtbeemfkndpandaaDoor
open Go Go.RowKit
set_option linter.unusedVariables false
set_option maxRecDepth 20000
/-- A keeper at block K, its counts at block V. -/
structure Kpr (w : World) (K V : Nat) (need : Nat) (n : Nat) (L : List Nat) : Prop where
  row : w.heap[K]? = some (.cells #[.int .i64 need, .slice (some ⟨V, 0, none⟩) n n] 74 (0, 0))
  cnt : RowL w V L
  len : L.length = n
  ne : V ≠ K
theorem Kpr.below {w w' : World} {K V need n : Nat} {L : List Nat} (h : Kpr w K V need n L) (hb : Below w.heap.size w w') : Kpr w' K V need n L :=
  ⟨(hb.block _ (Array.getElem?_eq_some_iff.1 h.row).1).trans h.row, h.cnt.below hb, h.len, h.ne⟩
theorem Kpr.set {w : World} {K V need n : Nat} {L : List Nat} (h : Kpr w K V need n L) (i x : Nat) : Kpr (w.setCell ⟨V, i, none⟩ (.int .i64 (x : Int))) K V need n (L.set i x) :=
  ⟨(heap_setCell_other w ⟨V, i, none⟩ K _ (fun e => h.ne e.symm)).trans h.row, h.cnt.set i x, by simp [h.len], h.ne⟩
theorem Kpr.k0 {w : World} {K V need n : Nat} {L : List Nat} (h : Kpr w K V need n L) : w.cell? ⟨K, 0, none⟩ = some (.int .i64 need) := (cell_of_row _ _ 0 _ _ _ h.row).trans rfl
theorem Kpr.k1 {w : World} {K V need n : Nat} {L : List Nat} (h : Kpr w K V need n L) : w.cell? ⟨K, 1, none⟩ = some (.slice (some ⟨V, 0, none⟩) n n) := (cell_of_row _ _ 1 _ _ _ h.row).trans rfl
def onV (need : Nat) (L : List Nat) : Nat → Int
  | 0 => 0
  | i + 1 => if need ≤ getN L i then orI (onV need L i) i else onV need L i
set_option maxHeartbeats 4000000 in
theorem onC (K V need n : Nat) (L : List Nat) (hn : n ≤ 6) (w : World) (h : Kpr w K V need n L) : Calls Tryd.prog 25 #[.pointer (some ⟨K, 0, none⟩)] w fun e w' => e = .returned (.int .i64 (onV need L n)) ∧ w = w' := by
  have H := Lib.hid h
  have k0 := h.k0
  have k1 := h.k1
  clear h
  obtain ⟨f, hf⟩ : ∃ f, onV need L = f := ⟨_, rfl⟩
  have HF := Lib.hid hf
  rw [hf]
  clear hf
  go_enter Tryd.func25, Tryd.ntmps25
  go_wp2_with fail
  go_loopw [3, 4, 5, 11] (fun v3 v4 v5 v wr => ∃ (i : Nat) (on : Int), i ≤ n ∧ v = .int .i64 i ∧ v3 = .int .i64 on ∧ on = f i ∧ wr = w) (fun _ _ _ v _ => n - (intOf v).toNat)
  case atStart => exact ⟨0, 0, by omega, rfl, rfl, by rw [← HF.out]; rfl, rfl⟩
  case round =>
    obtain ⟨i, on, hi, rfl, rfl, ho, rfl⟩ := hrel
    have HO := Lib.hid ho
    clear ho
    by_cases hl : i < n
    · have ci := H.out.cnt.cell i (by rw [H.out.len]; exact hl)
      have i1 : (i : Int) < (n : Int) := by omega
      have FS := Lib.hid (show f (i + 1) = if need ≤ getN L i then orI on i else on by rw [HO.out, ← HF.out]; rfl)
      clear HO
      generalize getN L i = x at *
      by_cases q : need ≤ x
      · have g1 : decide ((need : Int) ≤ (x : Int)) = true := decide_eq_true (by omega)
        have F2 := Lib.hid (show orI on i = f (i + 1) by rw [FS.out, if_pos q])
        go_wp2_with fail
        go_roundw
        case rel => exact ⟨i + 1, orI on i, by omega, by go_num, rfl, F2.out, trivial⟩
        case measure => simp [intOf]; omega
      · have g1 : decide ((need : Int) ≤ (x : Int)) = false := decide_eq_false (by omega)
        have F2 := Lib.hid (show on = f (i + 1) by rw [FS.out, if_neg q])
        go_wp2_with fail
        go_roundw
        case rel => exact ⟨i + 1, on, by omega, by go_num, rfl, F2.out, trivial⟩
        case measure => simp [intOf]; omega
    · obtain rfl : i = n := by omega
      go_wp2_with fail
      go_returns
      exact ⟨by rw [HO.out]; rfl, rfl⟩
set_option maxHeartbeats 4000000 in
theorem newC (c : CG) (H : Nat) (hH : c.H = H) (h1 : 1 ≤ H) (oc : Value) (a : Option Addr) (n cp : Nat) (hn : n ≤ 6) (w : World) :
    Calls Tryd.prog 22 #[.agg (cgA c oc (.slice a n cp))] w fun e w' => ∃ K V, e = .returned (.pointer (some ⟨K, 0, none⟩)) ∧ w.heap.size ≤ K ∧ w.heap.size ≤ V ∧ Kpr w' K V H n (List.replicate n 0) ∧ Below w.heap.size w w' := by
  obtain ⟨i0, hi0, hz0, hz1, hz2⟩ := info_parts intI
  go_enter Tryd.func22, Tryd.ntmps22
  go_upto_region 1 with fail
  have B0 := Lib.hid (Bx.new w (cgA c oc (.slice a n cp)) 31)
  generalize World.alloc w _ = W at *
  have s4 := fun d => below_cell (reach_below W.heap.size W d) (show W.cell? ⟨w.heap.size, 4, none⟩ = some (.int .i64 H) by rw [← hH]; exact B0.out.cell 4 rfl)
  have s26 := fun d => below_cell (reach_below W.heap.size W d) (show W.cell? ⟨w.heap.size, 26, none⟩ = some (.slice a n cp) from B0.out.cell 26 rfl)
  have mk := run_makeSlice (P := Tryd.prog) (w := W.drew) 37 3 i0 (.int .i64 0) Tryd.underlying37 hi0 hz0 .i64 .i64 (n : Int) (n : Int) (by omega) (by omega) (by rw [hz1]; omega) (by rw [hz2]; omega) (by omega)
  rw [hz1, Int.toNat_natCast, made6 n hn, show W.drew.heap.size = W.heap.size from rfl] at mk
  have g1 : ¬ (H : Int) < 1 := by omega
  have gm : max (H : Int) 1 = H := by omega
  have gi : (if (H : Int) < 1 then 1 else (H : Int)) = H := by omega
  have gi2 : (if (1 : Int) < (H : Int) then (H : Int) else 1) = H := by omega
  have D0 := (Below.refl W.heap.size W).drew
  have S0 := Lib.hid (show ∃ d, W.drew = reach W.heap.size W d from ⟨_, (reach_of D0).symm⟩)
  have DA := D0.alloc (Nat.le_refl _) (.cells (cellsL (fillL n 0)) 3)
  have hsz : (W.drew.alloc (.cells (cellsL (fillL n 0)) 3)).heap.size = W.heap.size + 1 := by simp
  have DB := DA.alloc (show W.heap.size ≤ (W.drew.alloc (.cells (cellsL (fillL n 0)) 3)).heap.size by omega) (.cells #[.int .i64 H, .slice (some ⟨W.heap.size, 0, none⟩) n n] 74)
  have S1 := Lib.hid (show ∃ d, W.drew.alloc (.cells (cellsL (fillL n 0)) 3) = reach W.heap.size W d from ⟨_, (reach_of DA).symm⟩)
  have S2 := Lib.hid (show ∃ d, (W.drew.alloc (.cells (cellsL (fillL n 0)) 3)).alloc (.cells #[.int .i64 H, .slice (some ⟨W.heap.size, 0, none⟩) n n] 74) = reach W.heap.size W d from ⟨_, (reach_of DB).symm⟩)
  have rV : RowL (W.drew.alloc (.cells (cellsL (fillL n 0)) 3)) W.heap.size (fillL n 0) := heap_alloc_new W.drew _
  have rK := heap_alloc_new (W.drew.alloc (.cells (cellsL (fillL n 0)) 3)) (.cells #[.int .i64 H, .slice (some ⟨W.heap.size, 0, none⟩) n n] 74)
  rw [hsz] at rK
  have KP := Lib.hid (show Kpr ((W.drew.alloc (.cells (cellsL (fillL n 0)) 3)).alloc (.cells #[.int .i64 H, .slice (some ⟨W.heap.size, 0, none⟩) n n] 74)) (W.heap.size + 1) W.heap.size H n (List.replicate n 0) from
    ⟨rK, rV.below ((Below.refl _ _).alloc (Nat.le_refl _) _), by simp, by omega⟩)
  have LZ := Lib.hid (B0.out.lo.trans (DB.mono B0.out.lo.size))
  have LW := Lib.hid B0.out.lo.size
  clear hz0 hz1 hz2 hi0 D0 DA DB rV rK B0 hH
  refine wp_region_mix (fun w' => ∃ d, w' = reach W.heap.size W d) (by kernel_rfl) ?_
  change wpAnyH _ _ _ _ _ 10 (Array.replicate 10 false) _ _
  refine mix_quiet 0 rfl (by kernel_rfl) (by kernel_rfl) (by kernel_rfl) (by kernel_rfl) (by kernel_rfl) S0.out ?_
  intro K hK
  go_big_quiet_op
  first | go_big_quiet_on | (refine ⟨_, fun _ _ => rfl, ?_⟩; go_big_quiet_on)
  try simp only [Act.put, List.setIfInBounds_toArray, List.set_cons_succ, List.set_cons_zero]
  refine mix_quiet 1 rfl (by kernel_rfl) (by kernel_rfl) (by kernel_rfl) (by kernel_rfl) (by kernel_rfl) S0.out ?_
  intro K hK
  go_big_quiet_op
  first | go_big_quiet_on | (refine ⟨_, fun _ _ => rfl, ?_⟩; go_big_quiet_on)
  try simp only [Act.put, List.setIfInBounds_toArray, List.set_cons_succ, List.set_cons_zero]
  refine mix_val 2 (.int .i64 H) rfl (by kernel_rfl) (by kernel_rfl) (by kernel_rfl) (by kernel_rfl) S0.out (fun u _ => by go_simp) ?_
  try simp only [Act.put, List.setIfInBounds_toArray, List.set_cons_succ, List.set_cons_zero]
  refine mix_quiet 3 rfl (by kernel_rfl) (by kernel_rfl) (by kernel_rfl) (by kernel_rfl) (by kernel_rfl) S0.out ?_
  intro K hK
  go_big_quiet_op
  first | go_big_quiet_on | (refine ⟨_, fun _ _ => rfl, ?_⟩; go_big_quiet_on)
  try simp only [Act.put, List.setIfInBounds_toArray, List.set_cons_succ, List.set_cons_zero]
  refine mix_quiet 4 rfl (by kernel_rfl) (by kernel_rfl) (by kernel_rfl) (by kernel_rfl) (by kernel_rfl) S0.out ?_
  intro K hK
  go_big_quiet_op
  first | go_big_quiet_on | (refine ⟨_, fun _ _ => rfl, ?_⟩; go_big_quiet_on)
  try simp only [Act.put, List.setIfInBounds_toArray, List.set_cons_succ, List.set_cons_zero]
  refine mix_val 5 (.int .i64 n) rfl (by kernel_rfl) (by kernel_rfl) (by kernel_rfl) (by kernel_rfl) S0.out (fun u _ => by go_simp) ?_
  try simp only [Act.put, List.setIfInBounds_toArray, List.set_cons_succ, List.set_cons_zero]
  refine mix_one 6 rfl (by kernel_rfl) ?_
  intro R hR
  go_wp2_with fail
  refine ⟨S1.out, ?_⟩
  try simp only [Act.put, List.setIfInBounds_toArray, List.set_cons_succ, List.set_cons_zero]
  refine mix_quiet 7 rfl (by kernel_rfl) (by kernel_rfl) (by kernel_rfl) (by kernel_rfl) (by kernel_rfl) S1.out ?_
  intro K hK
  go_big_quiet_op
  first | go_big_quiet_on | (refine ⟨_, fun _ _ => rfl, ?_⟩; go_big_quiet_on)
  try simp only [Act.put, List.setIfInBounds_toArray, List.set_cons_succ, List.set_cons_zero]
  refine mix_one 8 rfl (by kernel_rfl) ?_
  intro R hR
  go_wp2_with fail
  refine ⟨S2.out, ?_⟩
  try simp only [Act.put, List.setIfInBounds_toArray, List.set_cons_succ, List.set_cons_zero]
  refine mix_quiet 9 rfl (by kernel_rfl) (by kernel_rfl) (by kernel_rfl) (by kernel_rfl) (by kernel_rfl) S2.out ?_
  intro K hK
  go_big_quiet_op
  first | go_big_quiet_on | (refine ⟨_, fun _ _ => rfl, ?_⟩; go_big_quiet_on)
  try simp only [Act.put, List.setIfInBounds_toArray, List.set_cons_succ, List.set_cons_zero]
  refine mix_done (by kernel_rfl) ?_
  go_wp2_with fail
  go_returns
  exact ⟨W.heap.size + 1, W.heap.size, rfl, by have := LW.out; omega, LW.out, KP.out, LZ.out⟩
end Go.Proofs.YtbeemfkndpandaaDoor
