/- Of each kind the last command counts. Conditions: none. -/
import Derived.Test.YtiiomiekjlggfaaPilF
import Derived.Test.YtiiomiekjlggfaaTail
import Derived.Test.YtiiomiekjlggfaaFlat
namespace Go.Proofs.Ytiiomiekjlggfaa
open Go.RowKit
set_option linter.unusedVariables false
theorem add_succP (x : Addr) (k : Nat) : x.add (k + 1) = ⟨(x.add k).block, (x.add k).off + 1, none⟩ := by
  unfold Addr.add
  by_cases h : k = 0
  · subst h; simp
  · simp [h]; omega
/-- What lies at each index of a slice of pairs. -/
theorem pair_at {w : World} {a : Option Addr} {len cap : Nat} {z : Nat → List Value} (h : CameS [.int .i64, .int .i64] w a len cap z) (i : Nat) (hi : i < len) :
    ∃ x c d, a = some x ∧ w.cell? (x.add (i * 2)) = some (.int .i64 c) ∧ w.cell? ⟨(x.add (i * 2)).block, (x.add (i * 2)).off + 1, none⟩ = some (.int .i64 d) := by
  obtain ⟨x, hx, ho, hc⟩ := h.at i hi
  obtain ⟨c0, r0, e0, ⟨a0, rfl, _⟩, o1⟩ := oks_cons ho
  obtain ⟨c1, r1, e1, ⟨a1, rfl, _⟩, o2⟩ := oks_cons o1
  have h0 := hc 0 (.int .i64 a0) (by rw [e0]; rfl)
  have h1 := hc 1 (.int .i64 a1) (by rw [e0, e1]; rfl)
  simp only [List.length_cons, List.length_nil, Nat.add_zero, Nat.zero_add, Nat.reduceAdd] at h0 h1
  rw [add_succP] at h1
  exact ⟨x, a0, a1, hx, h0, h1⟩
/-- A state at S, what is wanted behind it, and all that was there. -/
structure PW (w wr : World) (S : Nat) (p : PS) (v : Nat → Int) : Prop where
  pl : Pl wr S p
  wt : wr.heap[S + 1]? = some (.cells #[.int .i64 (v 0), .int .i64 (v 1), .int .i64 (v 2), .int .i64 (v 3), .int .i64 (v 4), .int .i64 (v 5)] 26 (0, 0))
  lo : Below w.heap.size w wr
def updP (f : Nat → Int) (i : Nat) (v : Int) : Nat → Int := fun j => if j = i then v else f j
theorem PW.below {w wr w' : World} {S : Nat} {p : PS} {v : Nat → Int} (h : PW w wr S p v) (hb : Below wr.heap.size wr w') : PW w w' S p v :=
  ⟨h.pl.below hb h.pl.lt, (hb.block _ (Array.getElem?_eq_some_iff.1 h.wt).1).trans h.wt, h.lo.trans (hb.mono h.lo.size)⟩
theorem PW.app {w wr w' : World} {S : Nat} {p q : PS} {v : Nat → Int} (h : PW w wr S p v) (hS : w.heap.size ≤ S) (hp : Pl w' S q) (o : Only S wr w') : PW w w' S q v :=
  ⟨hp, o.row h.wt (by omega), h.lo.trans (o.below hS h.lo.size)⟩
theorem PW.want {w wr : World} {S : Nat} {p : PS} {v : Nat → Int} (h : PW w wr S p v) (hS : w.heap.size ≤ S) (k : Nat) (hk : k < 6) (d : Int) : PW w (wr.setCell ⟨S + 1, k, none⟩ (.int .i64 d)) S p (updP v k d) := by
  have o := Only.set (S + 1) k wr (.int .i64 d)
  refine ⟨o.row h.pl (by omega), ?_, h.lo.trans (o.below (by omega) h.lo.size)⟩
  have := h.wt
  match k, hk with
  | 0, _ | 1, _ | 2, _ | 3, _ | 4, _ | 5, _ => simp [World.setCell, Array.getElem?_modify, this, updP]
theorem PW.cell {w wr : World} {S : Nat} {p : PS} {v : Nat → Int} (h : PW w wr S p v) (k : Nat) (hk : k < 6) : wr.cell? ⟨S + 1, k, none⟩ = some (.int .i64 (v k)) := by
  have := h.wt
  match k, hk with
  | 0, _ | 1, _ | 2, _ | 3, _ | 4, _ | 5, _ => simp [World.cell?, this]
theorem PW.froz {w wr : World} {S : Nat} {p : PS} {v : Nat → Int} (h : PW w wr S p v) (k : Nat) : wr.frozen? ⟨S + 1, k, none⟩ = false := by
  have := h.wt
  simp [World.frozen?, this]
def Wants (p : PS) (v : Nat → Int) : Prop := p.e = (v 1 == 1) ∧ p.s = (v 2 == 1) ∧ p.l = (v 3 == 1) ∧ p.r = (v 4 == 1)
set_option maxRecDepth 20000 in
set_option maxHeartbeats 8000000 in
theorem walkPilotLasts (a0 : Option Addr) (len0 cap0 : Nat) (z0 : Nat → List Value) (w : World) (w0 : CameS [.int .i64, .int .i64] w a0 len0 cap0 z0) :
    Calls Try.prog 3 #[.slice a0 len0 cap0] w fun e w' => e = .returned (.bool true) ∧ Below w.heap.size w w' := by
  have H0 := Lib.hid w0
  clear w0
  go_enter Try.func3, Try.ntmps3
  go_wp2_with fail
  refine (pilFirst _).mono ?_
  rintro e wa ⟨rfl, hba⟩
  have HA := Lib.hid hba
  clear hba
  by_cases l1 : 40 < len0
  · have g1 : decide ((40 : Int) < (len0 : Int)) = true := decide_eq_true (by omega)
    go_wp2_with fail
    go_returns
    exact ⟨rfl, HA.out⟩
  have g1 : decide ((40 : Int) < (len0 : Int)) = false := decide_eq_false (by omega)
  go_wp2_with fail
  have W0 := Lib.hid (show PW w ((wa.alloc (.cells #[.bool false, .bool false, .bool false, .bool false, .int .i64 0] 25)).alloc (.cells #[.int .i64 0, .int .i64 0, .int .i64 0, .int .i64 0, .int .i64 0, .int .i64 0] 26)) wa.heap.size ⟨false, false, false, false, 0⟩ (fun _ => 0) from ⟨(((Below.refl _ _).alloc (Nat.le_refl _) _).block _ (by simp)).trans (heap_alloc_new _ _), by
    have := heap_alloc_new (wa.alloc (.cells #[.bool false, .bool false, .bool false, .bool false, .int .i64 0] 25)) (.cells #[.int .i64 0, .int .i64 0, .int .i64 0, .int .i64 0, .int .i64 0, .int .i64 0] 26)
    rwa [World.size_alloc] at this, HA.out.trans ((((Below.refl _ wa).alloc (Nat.le_refl _) _).alloc (by simp) _).mono HA.out.size)⟩)
  have hS : w.heap.size ≤ wa.heap.size := HA.out.size
  generalize World.alloc (World.alloc wa _) _ = wz at *
  go_loopw [6, 7] (fun c s wr => ∃ (i : Nat) (p : PS) (v : Nat → Int), i ≤ len0 ∧ s = .int .i64 i ∧ c = .int .i64 p.c ∧ 0 ≤ p.c ∧ p.c ≤ i ∧ Wants p v ∧ PW w wr wa.heap.size p v) (fun _ s _ => len0 - (intOf s).toNat)
  case atStart => exact ⟨0, ⟨false, false, false, false, 0⟩, fun _ => 0, by omega, rfl, rfl, by decide, by decide, ⟨rfl, rfl, rfl, rfl⟩, W0.out⟩
  case round =>
    obtain ⟨i, p, v, hi, rfl, rfl, hc0, hc1, hw, hp⟩ := hrel
    have WW := Lib.hid hw
    have PP := Lib.hid hp
    clear hw hp
    by_cases hl : i < len0
    · obtain ⟨x, c, d, rfl, r0, r1⟩ := pair_at H0.out i hl
      have C0 := Lib.hid r0
      have C1 := Lib.hid r1
      have BW := Lib.hid PP.out.lo
      have s0 := fun e => below_cell (BW.out.trans ((reach_below wr.heap.size wr e).mono BW.out.size)) r0
      have s1 := fun e => below_cell (BW.out.trans ((reach_below wr.heap.size wr e).mono BW.out.size)) r1
      clear r0 r1
      go_upto_region 12 with fail
      refine wp_region_tailR wr.heap.size 10 (by kernel_rfl) (by kernel_rfl) ?_
      simp only [List.take_succ_cons, List.take_zero, List.drop_succ_cons, List.drop_zero]
      repeat (go_big_quiet_step (fail))
      refine wpQuiet_nil ?_
      rintro w' ⟨e, rfl⟩
      have P1 := Lib.hid (PP.out.below (reach_below wr.heap.size wr e))
      clear s0 s1 PP BW
      generalize reach wr.heap.size wr e = wq at *
      go_wp2_with fail
      refine (applyC wa.heap.size p c d _ P1.out.pl (by omega)).mono ?_
      rintro e2 w2 ⟨rfl, h2, o2⟩
      have P2 := Lib.hid (P1.out.app hS h2 o2)
      clear h2 o2 P1
      have c0 := below_cell P2.out.lo C0.out
      have c1 := below_cell P2.out.lo C1.out
      generalize hkn : kn c d = K
      cases K
      · have EA := Lib.hid (show p.app c d = p by unfold PS.app; rw [hkn]; rfl)
        rw [EA.out] at P2
        have hno : c < 1 ∨ 5 < c ∨ (d ≠ 0 ∧ d ≠ 1) := by
          unfold kn at hkn
          by_cases q1 : 1 ≤ c
          · by_cases q2 : c ≤ 5
            · simp [q1, q2] at hkn; omega
            · omega
          · omega
        clear hkn
        rcases (show c < 1 ∨ (1 ≤ c ∧ 5 < c) ∨ (1 ≤ c ∧ c ≤ 5 ∧ d ≠ 0 ∧ d ≠ 1) by omega) with q | ⟨q, q2⟩ | ⟨q, q2, q3, q4⟩
        · have g1 : decide (1 ≤ c) = false := decide_eq_false (by omega)
          go_wp2_with fail
          go_roundw
          case rel => exact ⟨i + 1, p, v, by omega, by go_num, rfl, hc0, by omega, WW.out, P2.out⟩
          case measure => simp [intOf]; omega
        · have g1 : decide (1 ≤ c) = true := decide_eq_true (by omega)
          have g2 : decide (c ≤ 5) = false := decide_eq_false (by omega)
          go_wp2_with fail
          go_roundw
          case rel => exact ⟨i + 1, p, v, by omega, by go_num, rfl, hc0, by omega, WW.out, P2.out⟩
          case measure => simp [intOf]; omega
        · have g1 : decide (1 ≤ c) = true := decide_eq_true (by omega)
          have g2 : decide (c ≤ 5) = true := decide_eq_true (by omega)
          have g3 : (d == 0) = false := by rw [beq_eq_false_iff_ne]; exact q3
          have g4 : (d == 1) = false := by rw [beq_eq_false_iff_ne]; exact q4
          go_wp2_with fail
          go_roundw
          case rel => exact ⟨i + 1, p, v, by omega, by go_num, rfl, hc0, by omega, WW.out, P2.out⟩
          case measure => simp [intOf]; omega
      · have hk2 : (1 ≤ c ∧ c ≤ 5) ∧ (d = 0 ∨ d = 1) := by
          unfold kn at hkn
          simpa using hkn
        clear hkn
        obtain ⟨⟨k1, k2⟩, k3⟩ := hk2
        rcases (show c = 1 ∨ c = 2 ∨ c = 3 ∨ c = 4 ∨ c = 5 by omega) with rfl | rfl | rfl | rfl | rfl
        all_goals rcases k3 with rfl | rfl
        · clear k1 k2
          have s0 := fun e => below_cell (reach_below w2.heap.size w2 e) c0
          have s1 := fun e => below_cell (reach_below w2.heap.size w2 e) c1
          go_upto_region 14 with fail
          refine wp_region_tailR w2.heap.size 11 (by kernel_rfl) (by kernel_rfl) ?_
          simp only [List.take_succ_cons, List.take_zero, List.drop_succ_cons, List.drop_zero]
          repeat (go_big_quiet_step (fail))
          refine wpQuiet_nil ?_
          rintro w' ⟨e3, rfl⟩
          have P3 := Lib.hid (P2.out.below (reach_below w2.heap.size w2 e3))
          clear s0 s1 c0 c1 P2
          generalize reach w2.heap.size w2 e3 = wg at *
          have wc := P3.out.cell 1 (by omega)
          have wf := P3.out.froz
          go_upto_region 15 with fail
          have P4 := Lib.hid (P3.out.want hS 1 (by omega) 0)
          clear wc wf P3
          generalize World.setCell wg _ _ = wh at *
          have f0 := below_cell P4.out.lo C0.out
          have f1 := below_cell P4.out.lo C1.out
          go_wp2_with fail
          go_roundw
          case rel => exact ⟨i + 1, p.app 1 0, updP v 1 0, by omega, by go_num, rfl, hc0, (show p.c ≤ ((i + 1 : Nat) : Int) by omega), ⟨rfl, WW.out.2.1, WW.out.2.2.1, WW.out.2.2.2⟩, P4.out⟩
          case measure => simp [intOf]; omega
        · clear k1 k2
          have s0 := fun e => below_cell (reach_below w2.heap.size w2 e) c0
          have s1 := fun e => below_cell (reach_below w2.heap.size w2 e) c1
          go_upto_region 14 with fail
          refine wp_region_tailR w2.heap.size 11 (by kernel_rfl) (by kernel_rfl) ?_
          simp only [List.take_succ_cons, List.take_zero, List.drop_succ_cons, List.drop_zero]
          repeat (go_big_quiet_step (fail))
          refine wpQuiet_nil ?_
          rintro w' ⟨e3, rfl⟩
          have P3 := Lib.hid (P2.out.below (reach_below w2.heap.size w2 e3))
          clear s0 s1 c0 c1 P2
          generalize reach w2.heap.size w2 e3 = wg at *
          have wc := P3.out.cell 1 (by omega)
          have wf := P3.out.froz
          go_upto_region 15 with fail
          have P4 := Lib.hid (P3.out.want hS 1 (by omega) 1)
          clear wc wf P3
          generalize World.setCell wg _ _ = wh at *
          have f0 := below_cell P4.out.lo C0.out
          have f1 := below_cell P4.out.lo C1.out
          go_wp2_with fail
          go_roundw
          case rel => exact ⟨i + 1, p.app 1 1, updP v 1 1, by omega, by go_num, rfl, hc0, (show p.c ≤ ((i + 1 : Nat) : Int) by omega), ⟨rfl, WW.out.2.1, WW.out.2.2.1, WW.out.2.2.2⟩, P4.out⟩
          case measure => simp [intOf]; omega
        · clear k1 k2
          have s0 := fun e => below_cell (reach_below w2.heap.size w2 e) c0
          have s1 := fun e => below_cell (reach_below w2.heap.size w2 e) c1
          go_upto_region 14 with fail
          refine wp_region_tailR w2.heap.size 11 (by kernel_rfl) (by kernel_rfl) ?_
          simp only [List.take_succ_cons, List.take_zero, List.drop_succ_cons, List.drop_zero]
          repeat (go_big_quiet_step (fail))
          refine wpQuiet_nil ?_
          rintro w' ⟨e3, rfl⟩
          have P3 := Lib.hid (P2.out.below (reach_below w2.heap.size w2 e3))
          clear s0 s1 c0 c1 P2
          generalize reach w2.heap.size w2 e3 = wg at *
          have wc := P3.out.cell 2 (by omega)
          have wf := P3.out.froz
          go_upto_region 15 with fail
          have P4 := Lib.hid (P3.out.want hS 2 (by omega) 0)
          clear wc wf P3
          generalize World.setCell wg _ _ = wh at *
          have f0 := below_cell P4.out.lo C0.out
          have f1 := below_cell P4.out.lo C1.out
          go_wp2_with fail
          go_roundw
          case rel => exact ⟨i + 1, p.app 2 0, updP v 2 0, by omega, by go_num, rfl, hc0, (show p.c ≤ ((i + 1 : Nat) : Int) by omega), ⟨WW.out.1, rfl, WW.out.2.2.1, WW.out.2.2.2⟩, P4.out⟩
          case measure => simp [intOf]; omega
        · clear k1 k2
          have s0 := fun e => below_cell (reach_below w2.heap.size w2 e) c0
          have s1 := fun e => below_cell (reach_below w2.heap.size w2 e) c1
          go_upto_region 14 with fail
          refine wp_region_tailR w2.heap.size 11 (by kernel_rfl) (by kernel_rfl) ?_
          simp only [List.take_succ_cons, List.take_zero, List.drop_succ_cons, List.drop_zero]
          repeat (go_big_quiet_step (fail))
          refine wpQuiet_nil ?_
          rintro w' ⟨e3, rfl⟩
          have P3 := Lib.hid (P2.out.below (reach_below w2.heap.size w2 e3))
          clear s0 s1 c0 c1 P2
          generalize reach w2.heap.size w2 e3 = wg at *
          have wc := P3.out.cell 2 (by omega)
          have wf := P3.out.froz
          go_upto_region 15 with fail
          have P4 := Lib.hid (P3.out.want hS 2 (by omega) 1)
          clear wc wf P3
          generalize World.setCell wg _ _ = wh at *
          have f0 := below_cell P4.out.lo C0.out
          have f1 := below_cell P4.out.lo C1.out
          go_wp2_with fail
          go_roundw
          case rel => exact ⟨i + 1, p.app 2 1, updP v 2 1, by omega, by go_num, rfl, hc0, (show p.c ≤ ((i + 1 : Nat) : Int) by omega), ⟨WW.out.1, rfl, WW.out.2.2.1, WW.out.2.2.2⟩, P4.out⟩
          case measure => simp [intOf]; omega
        · clear k1 k2
          have s0 := fun e => below_cell (reach_below w2.heap.size w2 e) c0
          have s1 := fun e => below_cell (reach_below w2.heap.size w2 e) c1
          go_upto_region 14 with fail
          refine wp_region_tailR w2.heap.size 11 (by kernel_rfl) (by kernel_rfl) ?_
          simp only [List.take_succ_cons, List.take_zero, List.drop_succ_cons, List.drop_zero]
          repeat (go_big_quiet_step (fail))
          refine wpQuiet_nil ?_
          rintro w' ⟨e3, rfl⟩
          have P3 := Lib.hid (P2.out.below (reach_below w2.heap.size w2 e3))
          clear s0 s1 c0 c1 P2
          generalize reach w2.heap.size w2 e3 = wg at *
          have wc := P3.out.cell 3 (by omega)
          have wf := P3.out.froz
          go_upto_region 15 with fail
          have P4 := Lib.hid (P3.out.want hS 3 (by omega) 0)
          clear wc wf P3
          generalize World.setCell wg _ _ = wh at *
          have f0 := below_cell P4.out.lo C0.out
          have f1 := below_cell P4.out.lo C1.out
          have wc3 := P4.out.cell 3 (by omega)
          have wf3 := P4.out.froz
          go_upto_region 17 with fail
          have P5 := Lib.hid (P4.out.want hS 3 (by omega) 1)
          clear wc3 wf3 f0 f1 P4
          generalize World.setCell wh _ _ = wi at *
          have f0 := below_cell P5.out.lo C0.out
          have f1 := below_cell P5.out.lo C1.out
          go_wp2_with fail
          go_roundw
          case rel => exact ⟨i + 1, p.app 3 0, updP (updP v 3 0) 3 1, by omega, by go_num, rfl, hc0, (show p.c ≤ ((i + 1 : Nat) : Int) by omega), ⟨WW.out.1, WW.out.2.1, rfl, WW.out.2.2.2⟩, P5.out⟩
          case measure => simp [intOf]; omega
        · clear k1 k2
          have s0 := fun e => below_cell (reach_below w2.heap.size w2 e) c0
          have s1 := fun e => below_cell (reach_below w2.heap.size w2 e) c1
          go_upto_region 14 with fail
          refine wp_region_tailR w2.heap.size 11 (by kernel_rfl) (by kernel_rfl) ?_
          simp only [List.take_succ_cons, List.take_zero, List.drop_succ_cons, List.drop_zero]
          repeat (go_big_quiet_step (fail))
          refine wpQuiet_nil ?_
          rintro w' ⟨e3, rfl⟩
          have P3 := Lib.hid (P2.out.below (reach_below w2.heap.size w2 e3))
          clear s0 s1 c0 c1 P2
          generalize reach w2.heap.size w2 e3 = wg at *
          have wc := P3.out.cell 3 (by omega)
          have wf := P3.out.froz
          go_upto_region 15 with fail
          have P4 := Lib.hid (P3.out.want hS 3 (by omega) 1)
          clear wc wf P3
          generalize World.setCell wg _ _ = wh at *
          have f0 := below_cell P4.out.lo C0.out
          have f1 := below_cell P4.out.lo C1.out
          have wc3 := P4.out.cell 3 (by omega)
          have wf3 := P4.out.froz
          go_upto_region 17 with fail
          have P5 := Lib.hid (P4.out.want hS 3 (by omega) 1)
          clear wc3 wf3 f0 f1 P4
          generalize World.setCell wh _ _ = wi at *
          have f0 := below_cell P5.out.lo C0.out
          have f1 := below_cell P5.out.lo C1.out
          go_wp2_with fail
          go_roundw
          case rel => exact ⟨i + 1, p.app 3 1, updP (updP v 3 1) 3 1, by omega, by go_num, rfl, hc0, (show p.c ≤ ((i + 1 : Nat) : Int) by omega), ⟨WW.out.1, WW.out.2.1, rfl, WW.out.2.2.2⟩, P5.out⟩
          case measure => simp [intOf]; omega
        · clear k1 k2
          have s0 := fun e => below_cell (reach_below w2.heap.size w2 e) c0
          have s1 := fun e => below_cell (reach_below w2.heap.size w2 e) c1
          go_upto_region 14 with fail
          refine wp_region_tailR w2.heap.size 11 (by kernel_rfl) (by kernel_rfl) ?_
          simp only [List.take_succ_cons, List.take_zero, List.drop_succ_cons, List.drop_zero]
          repeat (go_big_quiet_step (fail))
          refine wpQuiet_nil ?_
          rintro w' ⟨e3, rfl⟩
          have P3 := Lib.hid (P2.out.below (reach_below w2.heap.size w2 e3))
          clear s0 s1 c0 c1 P2
          generalize reach w2.heap.size w2 e3 = wg at *
          have wc := P3.out.cell 4 (by omega)
          have wf := P3.out.froz
          go_upto_region 15 with fail
          have P4 := Lib.hid (P3.out.want hS 4 (by omega) 0)
          clear wc wf P3
          generalize World.setCell wg _ _ = wh at *
          have f0 := below_cell P4.out.lo C0.out
          have f1 := below_cell P4.out.lo C1.out
          go_wp2_with fail
          go_roundw
          case rel => exact ⟨i + 1, p.app 4 0, updP v 4 0, by omega, by go_num, rfl, hc0, (show p.c ≤ ((i + 1 : Nat) : Int) by omega), ⟨WW.out.1, WW.out.2.1, WW.out.2.2.1, rfl⟩, P4.out⟩
          case measure => simp [intOf]; omega
        · clear k1 k2
          have s0 := fun e => below_cell (reach_below w2.heap.size w2 e) c0
          have s1 := fun e => below_cell (reach_below w2.heap.size w2 e) c1
          go_upto_region 14 with fail
          refine wp_region_tailR w2.heap.size 11 (by kernel_rfl) (by kernel_rfl) ?_
          simp only [List.take_succ_cons, List.take_zero, List.drop_succ_cons, List.drop_zero]
          repeat (go_big_quiet_step (fail))
          refine wpQuiet_nil ?_
          rintro w' ⟨e3, rfl⟩
          have P3 := Lib.hid (P2.out.below (reach_below w2.heap.size w2 e3))
          clear s0 s1 c0 c1 P2
          generalize reach w2.heap.size w2 e3 = wg at *
          have wc := P3.out.cell 4 (by omega)
          have wf := P3.out.froz
          go_upto_region 15 with fail
          have P4 := Lib.hid (P3.out.want hS 4 (by omega) 1)
          clear wc wf P3
          generalize World.setCell wg _ _ = wh at *
          have f0 := below_cell P4.out.lo C0.out
          have f1 := below_cell P4.out.lo C1.out
          go_wp2_with fail
          go_roundw
          case rel => exact ⟨i + 1, p.app 4 1, updP v 4 1, by omega, by go_num, rfl, hc0, (show p.c ≤ ((i + 1 : Nat) : Int) by omega), ⟨WW.out.1, WW.out.2.1, WW.out.2.2.1, rfl⟩, P4.out⟩
          case measure => simp [intOf]; omega
        · clear k1 k2
          have s0 := fun e => below_cell (reach_below w2.heap.size w2 e) c0
          have s1 := fun e => below_cell (reach_below w2.heap.size w2 e) c1
          go_upto_region 14 with fail
          refine wp_region_tailR w2.heap.size 11 (by kernel_rfl) (by kernel_rfl) ?_
          simp only [List.take_succ_cons, List.take_zero, List.drop_succ_cons, List.drop_zero]
          repeat (go_big_quiet_step (fail))
          refine wpQuiet_nil ?_
          rintro w' ⟨e3, rfl⟩
          have P3 := Lib.hid (P2.out.below (reach_below w2.heap.size w2 e3))
          clear s0 s1 c0 c1 P2
          generalize reach w2.heap.size w2 e3 = wg at *
          have wc := P3.out.cell 5 (by omega)
          have wf := P3.out.froz
          go_upto_region 15 with fail
          have P4 := Lib.hid (P3.out.want hS 5 (by omega) 0)
          clear wc wf P3
          generalize World.setCell wg _ _ = wh at *
          have f0 := below_cell P4.out.lo C0.out
          have f1 := below_cell P4.out.lo C1.out
          go_wp2_with fail
          go_roundw
          case rel => exact ⟨i + 1, p.app 5 0, updP v 5 0, by omega, by go_num, by rw [show (p.app 5 0).c = p.c + 1 from (show min p.c 999 + 1 = _ by omega)], (show (0 : Int) ≤ min p.c 999 + 1 by omega), (show min p.c 999 + 1 ≤ ((i + 1 : Nat) : Int) by omega), ⟨WW.out.1, WW.out.2.1, WW.out.2.2.1, WW.out.2.2.2⟩, P4.out⟩
          case measure => simp [intOf]; omega
        · clear k1 k2
          have s0 := fun e => below_cell (reach_below w2.heap.size w2 e) c0
          have s1 := fun e => below_cell (reach_below w2.heap.size w2 e) c1
          go_upto_region 14 with fail
          refine wp_region_tailR w2.heap.size 11 (by kernel_rfl) (by kernel_rfl) ?_
          simp only [List.take_succ_cons, List.take_zero, List.drop_succ_cons, List.drop_zero]
          repeat (go_big_quiet_step (fail))
          refine wpQuiet_nil ?_
          rintro w' ⟨e3, rfl⟩
          have P3 := Lib.hid (P2.out.below (reach_below w2.heap.size w2 e3))
          clear s0 s1 c0 c1 P2
          generalize reach w2.heap.size w2 e3 = wg at *
          have wc := P3.out.cell 5 (by omega)
          have wf := P3.out.froz
          go_upto_region 15 with fail
          have P4 := Lib.hid (P3.out.want hS 5 (by omega) 1)
          clear wc wf P3
          generalize World.setCell wg _ _ = wh at *
          have f0 := below_cell P4.out.lo C0.out
          have f1 := below_cell P4.out.lo C1.out
          go_wp2_with fail
          go_roundw
          case rel => exact ⟨i + 1, p.app 5 1, updP v 5 1, by omega, by go_num, by rw [show (p.app 5 1).c = p.c + 1 from (show min p.c 999 + 1 = _ by omega)], (show (0 : Int) ≤ min p.c 999 + 1 by omega), (show min p.c 999 + 1 ≤ ((i + 1 : Nat) : Int) by omega), ⟨WW.out.1, WW.out.2.1, WW.out.2.2.1, WW.out.2.2.2⟩, P4.out⟩
          case measure => simp [intOf]; omega
    · have x0 : wr.cell? ⟨wa.heap.size, 0, none⟩ = some (.bool p.e) := PP.out.pl.cell 0 rfl
      have x1 : wr.cell? ⟨wa.heap.size, 1, none⟩ = some (.bool p.s) := PP.out.pl.cell 1 rfl
      have x2 : wr.cell? ⟨wa.heap.size, 2, none⟩ = some (.bool p.l) := PP.out.pl.cell 2 rfl
      have x3 : wr.cell? ⟨wa.heap.size, 3, none⟩ = some (.bool p.r) := PP.out.pl.cell 3 rfl
      have x4 : wr.cell? ⟨wa.heap.size, 4, none⟩ = some (.int .i64 p.c) := PP.out.pl.cell 4 rfl
      have y1 := PP.out.cell 1 (by omega)
      have y2 := PP.out.cell 2 (by omega)
      have y3 := PP.out.cell 3 (by omega)
      have y4 := PP.out.cell 4 (by omega)
      have e1 : (p.e == (v 1 == 1)) = true := by rw [WW.out.1]; simp
      have e2 : (p.s == (v 2 == 1)) = true := by rw [WW.out.2.1]; simp
      have e3 : (p.l == (v 3 == 1)) = true := by rw [WW.out.2.2.1]; simp
      have e4 : (p.r == (v 4 == 1)) = true := by rw [WW.out.2.2.2]; simp
      have e5 : (p.c == p.c) = true := by simp
      go_wp2_with fail
      go_returns
      exact ⟨rfl, PP.out.lo⟩
end Go.Proofs.Ytiiomiekjlggfaa
