/- shed.byPrio: the feeders' places, those of the lower rank first. Conditions: six feeders at most. -/
import Derived.Test.YtbeemfkndpandaaDoorSortA
namespace Go.Proofs.YtbeemfkndpandaaDoor
open Go Go.RowKit
set_option linter.unusedVariables false
set_option maxRecDepth 20000
/-- What closure 51 is told of, and what it tells. -/
def CmpK (G : Nat) (w0 : World) (C : Addr) (n : Nat) (cv : Nat → Nat → Int) : Prop :=
  ∀ wx, Below G w0 wx → ∀ a b : Nat, a < n → b < n → Calls Tryd.prog 51 #[.int .i64 a, .int .i64 b, .pointer (some C)] wx fun e w' => e = .returned (.int .i64 (cv a b)) ∧ Below wx.heap.size wx w'
set_option maxHeartbeats 8000000 in
theorem stableC (C : Addr) (n : Nat) (hn : n < 20) (lt : Nat → Nat → Bool) (cv : Nat → Nat → Int) (hc : ∀ a b, decide (cv a b < 0) = lt a b) (G : Nat) (w0 : World) (L0 : List Nat) (ho : Ord n L0) (hr : RowL w0 G L0) (hk : CmpK G w0 C n cv) :
    Calls Tryd.prog 60 #[.slice (some ⟨G, 0, none⟩) n n, .int .i64 n, .func (.func 51) #[] #[.pointer (some C)]] w0 fun e w' => e = .returned (.tuple #[]) ∧ (∃ L, L = pre lt L0 n ∧ Ord n L ∧ RowL w' G L) ∧ Below G w0 w' := by
  have KI := Lib.hid (insC C n hn lt cv hc G w0 L0 ho hr hk)
  clear hc ho hr hk
  have g1 : decide ((20 : Int) ≤ (n : Int)) = false := decide_eq_false (by omega)
  have g2 : decide ((20 : Int) < (n : Int)) = false := decide_eq_false (by omega)
  go_enter Tryd.func60, Tryd.ntmps60
  go_wp2_with fail
  go_loopw [7, 8] (fun v7 v8 wr => v7 = .int .i64 0 ∧ v8 = .int .i64 20 ∧ wr = w0) (fun _ _ _ => 0)
  case atStart => exact ⟨rfl, rfl, rfl⟩
  case round =>
    obtain ⟨rfl, rfl, rfl⟩ := hrel
    go_wp2_with fail
    refine KI.out.mono ?_
    rintro e w1 ⟨rfl, hL, hb⟩
    have HL := Lib.hid hL
    have HB := Lib.hid hb
    clear hL hb
    go_wp2_with fail
    go_loopw [6, 7, 8, 9] (fun v6 v7 v8 v9 wr => v6 = .int .i64 20 ∧ wr = w1) (fun _ _ _ _ _ => 0)
    case atStart => exact ⟨rfl, rfl⟩
    case round =>
      obtain ⟨rfl, rfl⟩ := hrel
      go_wp2_with fail
      go_returns
      exact ⟨rfl, HL.out, HB.out⟩
set_option maxHeartbeats 8000000 in
theorem sortC (C : Addr) (n : Nat) (hn : n < 20) (lt : Nat → Nat → Bool) (cv : Nat → Nat → Int) (hc : ∀ a b, decide (cv a b < 0) = lt a b) (G : Nat) (w0 : World) (L0 : List Nat) (ho : Ord n L0) (hr : RowL w0 G L0) (hk : CmpK G w0 C n cv) :
    Calls Tryd.prog 50 #[.slice (some ⟨G, 0, none⟩) n n, .func (.func 51) #[] #[.pointer (some C)]] w0 fun e w' => e = .returned (.tuple #[]) ∧ (∃ L, L = pre lt L0 n ∧ Ord n L ∧ RowL w' G L) ∧ Below G w0 w' := by
  have KI := Lib.hid (stableC C n hn lt cv hc G w0 L0 ho hr hk)
  clear hc ho hr hk
  go_enter Tryd.func50, Tryd.ntmps50
  go_wp2_with fail
  refine KI.out.mono ?_
  rintro e w1 ⟨rfl, hL, hb⟩
  have HL := Lib.hid hL
  have HB := Lib.hid hb
  clear hL hb
  go_wp2_with fail
  go_returns
  exact ⟨rfl, HL.out, HB.out⟩
def cmpI (x y : Int) : Int := if x < y then -1 else if y < x then 1 else 0
theorem cmpI_lt (x y : Int) : decide (cmpI x y < 0) = decide (x < y) := by
  unfold cmpI
  by_cases h : x < y
  · rw [if_pos h, decide_eq_true h]; rfl
  · rw [if_neg h, decide_eq_false h]
    split <;> rfl
theorem nanC (x : Int) (w : World) : Calls Tryd.prog 61 #[.int .i64 x] w fun e w' => e = .returned (.bool false) ∧ w = w' := by
  have e1 : (x != x) = false := by simp
  go_enter Tryd.func61, Tryd.ntmps61
  go_wp2_with fail
  go_ret
  exact ⟨rfl, rfl⟩
set_option maxHeartbeats 4000000 in
theorem compareC (x y : Int) (w : World) : Calls Tryd.prog 52 #[.int .i64 x, .int .i64 y] w fun e w' => e = .returned (.int .i64 (cmpI x y)) ∧ w = w' := by
  unfold cmpI
  have K := Lib.hid nanC
  by_cases h : x < y
  · have g1 : decide (x < y) = true := decide_eq_true h
    rw [if_pos h]
    go_enter Tryd.func52, Tryd.ntmps52
    go_wp2_with (go_at_call 61; refine (K.out _ _).mono ?_; rintro e w' ⟨rfl, rfl⟩)
    go_ret
    exact ⟨rfl, rfl⟩
  · have g1 : decide (x < y) = false := decide_eq_false h
    rw [if_neg h]
    by_cases h2 : y < x
    · have g2 : decide (y < x) = true := decide_eq_true h2
      rw [if_pos h2]
      go_enter Tryd.func52, Tryd.ntmps52
      go_wp2_with (go_at_call 61; refine (K.out _ _).mono ?_; rintro e w' ⟨rfl, rfl⟩)
      go_ret
      exact ⟨rfl, rfl⟩
    · have g2 : decide (y < x) = false := decide_eq_false h2
      rw [if_neg h2]
      go_enter Tryd.func52, Tryd.ntmps52
      go_wp2_with (go_at_call 61; refine (K.out _ _).mono ?_; rintro e w' ⟨rfl, rfl⟩)
      go_ret
      exact ⟨rfl, rfl⟩
set_option maxHeartbeats 4000000 in
theorem prioC (C : Nat) (c : CG) (oc : Value) (a : Option Addr) (n cp : Nat) (bu lo pr : Nat → Int) (i j : Nat) (hi : i < n) (hj : j < n) (w : World) (hr : w.heap[C]? = some (.cells (cgA c oc (.slice a n cp)) 31 (0, 0))) (h : FedG w a n bu lo pr) :
    Calls Tryd.prog 51 #[.int .i64 i, .int .i64 j, .pointer (some ⟨C, 0, none⟩)] w fun e w' => e = .returned (.int .i64 (cmpI (pr i) (pr j))) ∧ Below w.heap.size w w' := by
  have x26 : w.cell? ⟨C, 26, none⟩ = some (.slice a n cp) := (cell_of_row _ _ 26 _ _ _ hr).trans rfl
  obtain ⟨p, rfl, _, _, ci⟩ := h i hi
  obtain ⟨q, hq, _, _, cj⟩ := h j hj
  cases hq
  have i1 : (i : Int) < (n : Int) := by omega
  have i2 : (j : Int) < (n : Int) := by omega
  have K := Lib.hid fun w => compareC (pr i) (pr j) w
  have s26 := fun d => below_cell (reach_below w.heap.size w d) x26
  have si := fun d => below_cell (reach_below w.heap.size w d) ci
  have sj := fun d => below_cell (reach_below w.heap.size w d) cj
  clear h hr x26 ci cj
  go_enter Tryd.func51, Tryd.ntmps51
  go_upto_region 1 with fail
  refine wp_region_reach w.heap.size (by kernel_rfl) (by kernel_rfl) ?_
  repeat (go_big_quiet_step ((go_at_call 52; with_reducible exact reach_call0 (K.out _))))
  refine wpQuiet_nil ?_
  rintro w' ⟨d, rfl⟩
  have BR := Lib.hid (reach_below w.heap.size w d)
  clear s26 si sj
  generalize reach w.heap.size w d = w5 at *
  go_wp2_with fail
  go_returns
  exact ⟨rfl, BR.out⟩
def fillL (n : Nat) : Nat → List Nat
  | 0 => List.replicate n 0
  | i + 1 => (fillL n i).set i i
theorem fillL_len (n i : Nat) : (fillL n i).length = n := by
  induction i with
  | zero => simp [fillL]
  | succ i ih => simp [fillL, ih]
theorem fillL_all (n : Nat) (h : n ≤ 6) : fillL n n = List.range n := by
  rcases (show n = 0 ∨ n = 1 ∨ n = 2 ∨ n = 3 ∨ n = 4 ∨ n = 5 ∨ n = 6 by omega) with rfl | rfl | rfl | rfl | rfl | rfl | rfl <;> rfl
theorem rangeOrd (n : Nat) : Ord n (List.range n) := ⟨by simp, fun x hx => by simpa using hx⟩
def ordL (pr : Nat → Int) (n : Nat) : List Nat := pre (fun a b => decide (pr a < pr b)) (List.range n) n
theorem intI : (Tryd.prog.info? 3).map (fun i => (i.zero, i.size, i.bytes)) = some (some (.int .i64 0), 1, 8) := by kernel_rfl
theorem made6 (n : Nat) (h : n ≤ 6) : madeCells (Value.int .i64 0).cells (n * 1) = cellsL (fillL n 0) := by
  rcases (show n = 0 ∨ n = 1 ∨ n = 2 ∨ n = 3 ∨ n = 4 ∨ n = 5 ∨ n = 6 by omega) with rfl | rfl | rfl | rfl | rfl | rfl | rfl <;> kernel_rfl
set_option maxHeartbeats 8000000 in
theorem byPrioC (c : CG) (oc : Value) (a : Option Addr) (n cp : Nat) (bu lo pr : Nat → Int) (hn : n ≤ 6) (w : World) (h : FedG w a n bu lo pr) :
    Calls Tryd.prog 38 #[.agg (cgA c oc (.slice a n cp))] w fun e w' => ∃ G, e = .returned (.slice (some ⟨G, 0, none⟩) n n) ∧ w.heap.size ≤ G ∧ Ord n (ordL pr n) ∧ RowL w' G (ordL pr n) ∧ Below w.heap.size w w' := by
  have H := Lib.hid h
  clear h
  obtain ⟨i0, hi0, hz0, hz1, hz2⟩ := info_parts intI
  go_enter Tryd.func38, Tryd.ntmps38
  go_upto_region 1 with fail
  have B0 := Lib.hid (Bx.new w (cgA c oc (.slice a n cp)) 31)
  generalize World.alloc w _ = W at *
  have x26 : W.cell? ⟨w.heap.size, 26, none⟩ = some (.slice a n cp) := B0.out.cell 26 rfl
  have mk := run_makeSlice (P := Tryd.prog) (w := W) 37 3 i0 (.int .i64 0) Tryd.underlying37 hi0 hz0 .i64 .i64 (n : Int) (n : Int) (by omega) (by omega) (by rw [hz1]; omega) (by rw [hz2]; omega) (by omega)
  rw [hz1, Int.toNat_natCast, made6 n hn] at mk
  go_upto_region 2 with fail
  generalize hW : World.alloc W _ = W1
  have hr1 : RowL W1 W.heap.size (fillL n 0) := by rw [← hW]; exact heap_alloc_new W _
  have hal : Below W.heap.size W W1 := by rw [← hW]; exact (Below.refl W.heap.size W).alloc (Nat.le_refl _) _
  have B1 := Lib.hid (B0.out.below hal)
  have hG : w.heap.size < W.heap.size := B0.out.size
  have R1 := Lib.hid hr1
  have CB := Lib.hid ((hal.block _ B0.out.size).trans B0.out.row)
  clear hW hal hr1 x26 mk B0 hz0 hz1 hz2 hi0
  generalize W.heap.size = G at *
  go_wp2_with fail
  go_loopw [4, 11] (fun v4 v wr => ∃ i : Nat, i ≤ n ∧ v = .int .i64 i ∧ RowL wr G (fillL n i) ∧ Below G W1 wr) (fun _ v _ => n - (intOf v).toNat)
  case atStart => exact ⟨0, by omega, rfl, R1.out, Below.refl _ _⟩
  case round =>
    obtain ⟨i, hi, rfl, hr, hb⟩ := hrel
    have RI := Lib.hid hr
    have BI := Lib.hid hb
    clear hr hb
    by_cases hl : i < n
    · have c1 := RI.out.cell i (by rw [fillL_len]; exact hl)
      have f1 := RI.out.froz i
      have i1 : (i : Int) < (n : Int) := by omega
      have RS := Lib.hid (show RowL (wr.setCell ⟨G, i, none⟩ (.int .i64 (i : Int))) G (fillL n (i + 1)) from RI.out.set i i)
      have BS := Lib.hid (BI.out.setCell (p := ⟨G, i, none⟩) (Nat.le_refl _) (.int .i64 (i : Int)))
      go_wp2_with fail
      go_roundw
      case rel => exact ⟨i + 1, by omega, by go_num, RS.out, BS.out⟩
      case measure => simp [intOf]; omega
    · obtain rfl : i = n := by omega
      have RN := Lib.hid (show RowL wr G (List.range i) by have := RI.out; rwa [fillL_all i hn] at this)
      have LW := Lib.hid (B1.out.lo.trans (BI.out.mono (Nat.le_of_lt hG)))
      have KS := Lib.hid (sortC ⟨w.heap.size, 0, none⟩ i (by omega) (fun x y => decide (pr x < pr y)) (fun x y => cmpI (pr x) (pr y)) (fun x y => cmpI_lt _ _) G wr (List.range i) (rangeOrd i) RN.out (fun wx hb x y hx hy =>
        prioC w.heap.size c oc a i cp bu lo pr x y hx hy wx ((hb.block _ hG).trans ((BI.out.block _ hG).trans CB.out)) (H.out.below (LW.out.trans (hb.mono (Nat.le_of_lt hG))))))
      clear hi hl R1 CB RI
      go_wp2_with fail
      refine KS.out.mono ?_
      rintro e w9 ⟨rfl, ⟨L, hL, hO, hR⟩, hb⟩
      have LZ := Lib.hid (LW.out.trans (hb.mono (Nat.le_of_lt hG)))
      have RZ := Lib.hid hR
      have OZ := Lib.hid hO
      have EZ := Lib.hid (show L = ordL pr i from hL)
      clear hR hO hL hb KS
      go_wp2_with fail
      go_returns
      exact ⟨G, rfl, Nat.le_of_lt hG, by rw [← EZ.out]; exact OZ.out, by rw [← EZ.out]; exact RZ.out, LZ.out⟩
end Go.Proofs.YtbeemfkndpandaaDoor
