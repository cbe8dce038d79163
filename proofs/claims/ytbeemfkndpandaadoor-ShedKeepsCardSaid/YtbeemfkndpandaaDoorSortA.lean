/- Feeders in the order of their ranks: slices.SortStableFunc by shed.byPrio's own comparison. Conditions: fewer than 20 feeders. -/
import Derived.Test.YtbeemfkndpandaaDoorConfD
import Derived.Test.YtbeemfkndpandaaDoorPh2
namespace Go.Proofs.YtbeemfkndpandaaDoor
open Go Go.RowKit
set_option linter.unusedVariables false
set_option maxRecDepth 20000
section
variable {P : Program} {md : Region.Mode} {ops : Array Oper} {j1 j2 : Nat} {D : Bool → Bool → World → Prop} {E : World → World} {Q : Act → Prop} {k : Nat} {o : Oper} {l : List Oper} {a : Act}
/-- What only reads, ahead of the first that writes. -/
theorem ph_val1 (f : Nat) (hE : ∀ c w, D false c w → ∃ d, w = E d) (hw : Region.wanted o (yielded ops a.tmps) = true) (hv : isVal o = true) (h1 : (k == j1) = false) (h2 : (k == j2) = false) (hwt : waitsB md ops f j1 k = true)
    (h : ∀ K : Act → Prop, (∀ a, wpPh P md ops (ph2 j1 j2 D) Q (k + 1) l a → K a) → o.quiet P a (fun w => ∃ d, w = E d) K) : wpPh P md ops (ph2 j1 j2 D) Q k (o :: l) a := by
  obtain ⟨v, h3, h4⟩ := h _ fun _ h => h
  refine ⟨v, .inl ⟨hw, fun L w hd hr hC => ?_⟩, h4⟩
  have hj := not_down hd hr hwt
  have hC' := hC
  unfold ph2 at hC'
  rw [hj] at hC'
  exact phAt_of_quiet hv (h3 w (hE _ _ hC')) (ph2_other (by simpa using h1) (by simpa using h2) hC)
end
/-- One world, then two stores into it. -/
def twoSt (w0 w1 w2 : World) : Bool → Bool → World → Prop
  | false, _, w => w = w0
  | true, false, w => w = w1
  | true, true, w => w = w2
def cellsL (L : List Nat) : Array Value := (L.map fun (x : Nat) => Value.int .i64 (x : Int)).toArray
def getN (L : List Nat) (i : Nat) : Nat := L[i]?.getD 0
theorem cellsL_at (L : List Nat) (i : Nat) (h : i < L.length) : (cellsL L)[i]? = some (.int .i64 (getN L i)) := by
  unfold cellsL getN
  rw [List.getElem?_toArray, List.getElem?_map, List.getElem?_eq_getElem h]; rfl
theorem cellsL_set (L : List Nat) (i x : Nat) : (cellsL L).setIfInBounds i (.int .i64 (x : Int)) = cellsL (L.set i x) := by
  unfold cellsL
  rw [List.setIfInBounds_toArray, List.map_set]
def RowL (w : World) (G : Nat) (L : List Nat) : Prop := w.heap[G]? = some (.cells (cellsL L) 3 (0, 0))
theorem RowL.cell {w : World} {G : Nat} {L : List Nat} (h : RowL w G L) (i : Nat) (hi : i < L.length) : w.cell? ⟨G, i, none⟩ = some (.int .i64 (getN L i)) := (cell_of_row _ _ i _ _ _ h).trans (cellsL_at L i hi)
theorem RowL.froz {w : World} {G : Nat} {L : List Nat} (h : RowL w G L) (i : Nat) : w.frozen? ⟨G, i, none⟩ = false := by simp [World.frozen?, show w.heap[G]? = _ from h]
theorem RowL.set {w : World} {G : Nat} {L : List Nat} (h : RowL w G L) (i x : Nat) : RowL (w.setCell ⟨G, i, none⟩ (.int .i64 (x : Int))) G (L.set i x) := by
  unfold RowL
  rw [← cellsL_set]
  exact heap_setCell_same w G i _ _ _ h
theorem RowL.below {w w' : World} {G : Nat} {L : List Nat} (h : RowL w G L) (hb : Below w.heap.size w w') : RowL w' G L := (hb.block _ (Array.getElem?_eq_some_iff.1 h).1).trans h
def swp (L : List Nat) (k : Nat) : List Nat := (L.set (k + 1) (getN L k)).set k (getN L (k + 1))
def sink (lt : Nat → Nat → Bool) : Nat → List Nat → List Nat
  | 0, L => L
  | k + 1, L => if lt (getN L (k + 1)) (getN L k) then sink lt k (swp L k) else L
def pre (lt : Nat → Nat → Bool) (L : List Nat) : Nat → List Nat
  | 0 => L
  | k + 1 => sink lt k (pre lt L k)
structure Ord (n : Nat) (L : List Nat) : Prop where
  len : L.length = n
  lt : ∀ x ∈ L, x < n
theorem Ord.get {n : Nat} {L : List Nat} (h : Ord n L) (i : Nat) (hi : i < n) : getN L i < n := by
  unfold getN
  rw [List.getElem?_eq_getElem (by rw [h.len]; exact hi)]
  exact h.lt _ (List.getElem_mem _)
theorem Ord.swp {n : Nat} {L : List Nat} (h : Ord n L) (k : Nat) (hk : k + 1 < n) : Ord n (swp L k) := by
  refine ⟨by simp [Go.Proofs.YtbeemfkndpandaaDoor.swp, h.len], fun x hx => ?_⟩
  unfold Go.Proofs.YtbeemfkndpandaaDoor.swp at hx
  rcases List.mem_or_eq_of_mem_set hx with hx | rfl
  · rcases List.mem_or_eq_of_mem_set hx with hx | rfl
    · exact h.lt _ hx
    · exact h.get _ (by omega)
  · exact h.get _ hk
set_option maxHeartbeats 8000000 in
theorem insC (C : Addr) (n : Nat) (hn : n < 20) (lt : Nat → Nat → Bool) (cv : Nat → Nat → Int) (hc : ∀ a b, decide (cv a b < 0) = lt a b) (G : Nat) (w0 : World) (L0 : List Nat) (ho : Ord n L0) (hr : RowL w0 G L0)
    (hk : ∀ wx, Below G w0 wx → ∀ a b : Nat, a < n → b < n → Calls Tryd.prog 51 #[.int .i64 a, .int .i64 b, .pointer (some C)] wx fun e w' => e = .returned (.int .i64 (cv a b)) ∧ Below wx.heap.size wx w') :
    Calls Tryd.prog 67 #[.slice (some ⟨G, 0, none⟩) n n, .int .i64 0, .int .i64 n, .func (.func 51) #[] #[.pointer (some C)]] w0 fun e w' => e = .returned (.tuple #[]) ∧ (∃ L, L = pre lt L0 n ∧ Ord n L ∧ RowL w' G L) ∧ Below G w0 w' := by
  have HK := Lib.hid hk
  have HC := Lib.hid hc
  have HR := Lib.hid hr
  have HO := Lib.hid ho
  have hG : G < w0.heap.size := (Array.getElem?_eq_some_iff.1 hr).1
  clear hk hc hr ho
  go_enter Tryd.func67, Tryd.ntmps67
  go_wp2_with fail
  go_loopw [8] (fun v wr => ∃ (i : Nat) (L : List Nat), i ≤ max n 1 ∧ v = .int .i64 i ∧ L = pre lt L0 i ∧ Ord n L ∧ RowL wr G L ∧ Below G w0 wr) (fun v _ => n - (intOf v).toNat)
  case atStart => exact ⟨1, _, by omega, rfl, rfl, HO.out, HR.out, Below.refl _ _⟩
  case round =>
    obtain ⟨i, L, hi, rfl, hL, ho, hr, hb⟩ := hrel
    have RL := Lib.hid hr
    have OL := Lib.hid ho
    have EL := Lib.hid hL
    have HB := Lib.hid hb
    clear hr ho hL hb
    by_cases hl : i < n
    · have g1 : decide ((i : Int) < (n : Int)) = true := decide_eq_true (by omega)
      go_wp2_with fail
      go_loopw [9] (fun v w2 => ∃ (j : Nat) (L2 : List Nat), j ≤ i ∧ v = .int .i64 j ∧ sink lt j L2 = pre lt L0 (i + 1) ∧ Ord n L2 ∧ RowL w2 G L2 ∧ Below G w0 w2) (fun v _ => (intOf v).toNat)
      case atStart => exact ⟨i, L, Nat.le_refl _, rfl, by rw [EL.out]; rfl, OL.out, RL.out, HB.out⟩
      case round =>
        obtain ⟨j, L2, hj, rfl, hs, ho, hr, hb⟩ := hrel
        have R2 := Lib.hid hr
        have O2 := Lib.hid ho
        have E2 := Lib.hid hs
        have B2 := Lib.hid hb
        clear hr ho hs hb RL OL EL HB
        have hB : wr.heap.size ≤ wr.heap.size := Nat.le_refl _
        rcases (show j = 0 ∨ ∃ k, j = k + 1 by cases j; exact .inl rfl; exact .inr ⟨_, rfl⟩) with rfl | ⟨k, rfl⟩
        · go_upto_region 4 with fail
          refine wp_region_reach wr.heap.size (by kernel_rfl) (by kernel_rfl) ?_
          repeat (go_big_quiet_step (fail))
          refine wpQuiet_nil ?_
          rintro w' ⟨d, rfl⟩
          have hsz : G < wr.heap.size := (Array.getElem?_eq_some_iff.1 R2.out).1
          have R5 := Lib.hid (R2.out.below (reach_below wr.heap.size wr d))
          have B5 := Lib.hid (B2.out.trans ((reach_below wr.heap.size wr d).mono (by omega)))
          clear hsz R2 B2
          generalize reach wr.heap.size wr d = w5 at *
          go_wp2_with fail
          go_roundw
          case rel => exact ⟨i + 1, L2, by omega, by go_num, E2.out, O2.out, R5.out, B5.out⟩
          case measure => simp [intOf]; omega
        · have c1 := R2.out.cell (k + 1) (by rw [O2.out.len]; omega)
          have c0 := R2.out.cell k (by rw [O2.out.len]; omega)
          have b1 := O2.out.get (k + 1) (by omega)
          have b0 := O2.out.get k (by omega)
          have hsz : G < wr.heap.size := (Array.getElem?_eq_some_iff.1 R2.out).1
          have E3 := Lib.hid (show (if lt (getN L2 (k + 1)) (getN L2 k) then sink lt k (swp L2 k) else L2) = pre lt L0 (i + 1) from E2.out)
          have S3 := Lib.hid (show swp L2 k = (L2.set (k + 1) (getN L2 k)).set k (getN L2 (k + 1)) from rfl)
          have O3 := Lib.hid (O2.out.swp k (by omega))
          obtain ⟨x, hx⟩ : ∃ x, getN L2 (k + 1) = x := ⟨_, rfl⟩
          obtain ⟨y, hy⟩ : ∃ y, getN L2 k = y := ⟨_, rfl⟩
          rw [hx] at c1 b1 E3 S3
          rw [hy] at c0 b0 E3 S3
          have KC := Lib.hid fun d => HK.out (reach wr.heap.size wr d) (B2.out.trans ((reach_below wr.heap.size wr d).mono (by omega))) x y b1 b0
          have hlt := HC.out x y
          have i11 : IntKind.i64.wrap ((k : Int) + 1 - 1) = (k : Int) := by rw [show (k : Int) + 1 - 1 = k by omega]; exact IntWalk.i64_in _ (by omega)
          have g2 : decide ((0 : Int) < (k : Int) + 1) = true := decide_eq_true (by omega)
          have i1 : (k : Int) + 1 < (n : Int) := by omega
          have i2 : (k : Int) < (n : Int) := by omega
          have s1 := fun d => below_cell (reach_below wr.heap.size wr d) c1
          have s0 := fun d => below_cell (reach_below wr.heap.size wr d) c0
          have IX := Lib.hid hj
          clear hx hy b0 b1 hj c0 c1
          cases hb : lt x y
          · rw [hb] at hlt
            have E4 := Lib.hid (show L2 = pre lt L0 (i + 1) by have := E3.out; rw [hb] at this; exact this)
            clear hb E3 S3 O3 E2
            go_upto_region 4 with fail
            refine wp_region_reach wr.heap.size (by kernel_rfl) (by kernel_rfl) ?_
            repeat (go_big_quiet_step ((go_at_call 51; with_reducible exact reach_call hB (KC.out _))))
            refine wpQuiet_nil ?_
            rintro w' ⟨d, rfl⟩
            have R5 := Lib.hid (R2.out.below (reach_below wr.heap.size wr d))
            have B5 := Lib.hid (B2.out.trans ((reach_below wr.heap.size wr d).mono (by omega)))
            clear hsz R2 B2 s0 s1 KC
            generalize reach wr.heap.size wr d = w5 at *
            go_wp2_with fail
            go_roundw
            case rel => exact ⟨i + 1, L2, by omega, by go_num, E4.out, O2.out, R5.out, B5.out⟩
            case measure => simp [intOf]; omega
          · rw [hb] at hlt
            have E4 := Lib.hid (show sink lt k (swp L2 k) = pre lt L0 (i + 1) by have := E3.out; rw [hb] at this; exact this)
            clear hb E3 E2
            go_upto_region 4 with fail
            refine wp_region_reach wr.heap.size (by kernel_rfl) (by kernel_rfl) ?_
            repeat (go_big_quiet_step ((go_at_call 51; with_reducible exact reach_call hB (KC.out _))))
            refine wpQuiet_nil ?_
            rintro w' ⟨d, rfl⟩
            have R5 := Lib.hid (R2.out.below (reach_below wr.heap.size wr d))
            have B5 := Lib.hid (B2.out.trans ((reach_below wr.heap.size wr d).mono (by omega)))
            have z1 := s1 d
            have z0 := s0 d
            clear hsz R2 B2 s0 s1 KC
            generalize reach wr.heap.size wr d = w5 at *
            go_upto_region 6 with fail
            obtain ⟨W0, hW0⟩ : ∃ W0, W0 = w5.drew := ⟨_, rfl⟩
            have R6 := Lib.hid (show RowL W0 G L2 by rw [hW0]; exact R5.out.below ((Below.refl w5.heap.size w5).drew))
            have B6 := Lib.hid (show Below G w0 W0 by rw [hW0]; exact B5.out.drew)
            have y1 : W0.cell? ⟨G, k + 1, none⟩ = some (.int .i64 x) := by rw [hW0]; exact below_cell ((Below.refl w5.heap.size w5).drew) z1
            have y0 : W0.cell? ⟨G, k, none⟩ = some (.int .i64 y) := by rw [hW0]; exact below_cell ((Below.refl w5.heap.size w5).drew) z0
            have f1 : W0.frozen? ⟨G, k + 1, none⟩ = false := R6.out.froz (k + 1)
            have R7 := Lib.hid (R6.out.set (k + 1) y)
            have R8 := Lib.hid (R7.out.set k x)
            obtain ⟨W1, hW1⟩ : ∃ W1, W1 = W0.setCell ⟨G, k + 1, none⟩ (.int .i64 y) := ⟨_, rfl⟩
            have v0 : W1.cell? ⟨G, k, none⟩ = some (.int .i64 (getN (L2.set (k + 1) y) k)) := by rw [hW1]; exact R7.out.cell k (by simp [O2.out.len]; omega)
            have f0 : W1.frozen? ⟨G, k, none⟩ = false := by rw [hW1]; exact R7.out.froz k
            have B8 := Lib.hid (show Below G w0 (W1.setCell ⟨G, k, none⟩ (.int .i64 x)) by rw [hW1]; exact (B6.out.setCell (p := ⟨G, k + 1, none⟩) (Nat.le_refl _) _).setCell (p := ⟨G, k, none⟩) (Nat.le_refl _) _)
            have RF := Lib.hid (show RowL (W1.setCell ⟨G, k, none⟩ (.int .i64 x)) G (swp L2 k) by rw [hW1, S3.out]; exact R8.out)
            have HW0 := Lib.hid hW0
            have HW1 := Lib.hid hW1
            clear hW0 hW1 R7 R8 R5 B5 z0 z1 S3
            refine wp_region_ph2 15 17 (twoSt W0 W1 (W1.setCell ⟨G, k, none⟩ (.int .i64 x))) (by kernel_rfl) (by kernel_rfl) (by kernel_rfl) (by kernel_rfl) HW0.out.symm ?_
            iterate 9 (refine ph_val (E := fun d => d) (fun _ _ w _ => ⟨w, rfl⟩) (by kernel_rfl) (by kernel_rfl) (by kernel_rfl) (by kernel_rfl) ?_; intro K hK; go_big_quiet_op; go_big_quiet_on)
            (refine ph_val1 20 (E := fun _ => W0) (fun _ w h => ⟨w, h⟩) (by kernel_rfl) (by kernel_rfl) (by kernel_rfl) (by kernel_rfl) (by kernel_rfl) ?_; intro K hK; go_big_quiet_op; go_big_quiet_on)
            iterate 3 (refine ph_val (E := fun d => d) (fun _ _ w _ => ⟨w, rfl⟩) (by kernel_rfl) (by kernel_rfl) (by kernel_rfl) (by kernel_rfl) ?_; intro K hK; go_big_quiet_op; go_big_quiet_on)
            (refine ph_val1 20 (E := fun _ => W0) (fun _ w h => ⟨w, h⟩) (by kernel_rfl) (by kernel_rfl) (by kernel_rfl) (by kernel_rfl) (by kernel_rfl) ?_; intro K hK; go_big_quiet_op; go_big_quiet_on)
            (refine ph_val (E := fun d => d) (fun _ _ w _ => ⟨w, rfl⟩) (by kernel_rfl) (by kernel_rfl) (by kernel_rfl) (by kernel_rfl) ?_; intro K hK; go_big_quiet_op; go_big_quiet_on)
            refine ph_wa 20 undef (by kernel_rfl) (by kernel_rfl) (by kernel_rfl) (by kernel_rfl) (by kernel_rfl) ?_ ?_
            · intro w' hw'
              obtain rfl : w' = W0 := hw'
              exact phAt_store rfl ⟨G, k + 1, none⟩ (.int .i64 y) (by kernel_rfl) (by kernel_rfl) (by go_simp) HW1.out.symm
            simp only [Act.put]
            (refine ph_val (E := fun d => d) (fun _ _ w _ => ⟨w, rfl⟩) (by kernel_rfl) (by kernel_rfl) (by kernel_rfl) (by kernel_rfl) ?_; intro K hK; go_big_quiet_op; go_big_quiet_on)
            refine ph_wb 20 undef (by kernel_rfl) (by kernel_rfl) (by kernel_rfl) (by kernel_rfl) (by kernel_rfl) ?_ ?_
            · intro w' hw'
              obtain rfl : w' = W1 := hw'
              exact phAt_store rfl ⟨G, k, none⟩ (.int .i64 x) (by kernel_rfl) (by kernel_rfl) (by go_simp) rfl
            simp only [Act.put]
            refine ph_end ?_
            intro w' hw'
            obtain rfl : w' = W1.setCell ⟨G, k, none⟩ (.int .i64 x) := hw'
            clear y0 y1 f0 f1 v0
            generalize World.setCell W1 _ _ = w9 at *
            go_wp2_with fail
            go_roundw
            case rel => exact ⟨k, swp L2 k, by have := IX.out; omega, by go_num, E4.out, O3.out, RF.out, B8.out⟩
            case measure => simp [intOf]
    · have g1 : decide ((i : Int) < (n : Int)) = false := decide_eq_false (by omega)
      go_wp2_with fail
      go_returns
      exact ⟨rfl, ⟨L, by
        rw [EL.out]
        rcases Nat.lt_or_ge i (n + 1) with h | h
        · rw [show i = n by omega]
        · have : n = 0 ∧ i = 1 := by omega
          rw [this.1, this.2]; rfl, OL.out, RL.out⟩, HB.out⟩
end Go.Proofs.YtbeemfkndpandaaDoor
