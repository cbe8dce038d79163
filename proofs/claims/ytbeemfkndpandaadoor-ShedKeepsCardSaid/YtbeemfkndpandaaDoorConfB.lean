/- Whether a configuration's table and feeders may be. Conditions: the seven errors lie apart. -/
import Derived.Test.YtbeemfkndpandaaDoorConfA
import Derived.Test.YtbeemfkndpandaaDoorPre
namespace Go.Proofs.YtbeemfkndpandaaDoor
open Go.RowKit
set_option linter.unusedVariables false
set_option maxRecDepth 20000
/-- Points of any slice. -/
def PtsG (w : World) (a : Option Addr) (n : Nat) (x y : Nat → Int) : Prop := ∀ i, i < n → ∃ p, a = some p ∧ w.cell? (p.add (i * 2)) = some (.int .i64 (x i)) ∧ w.cell? ⟨(p.add (i * 2)).block, (p.add (i * 2)).off + 1, none⟩ = some (.int .i64 (y i))
theorem PtsG.below {w w' : World} {a : Option Addr} {n : Nat} {x y : Nat → Int} (h : PtsG w a n x y) (hb : Below w.heap.size w w') : PtsG w' a n x y := by
  intro i hi
  obtain ⟨p, e, h1, h2⟩ := h i hi
  exact ⟨p, e, below_cell hb h1, below_cell hb h2⟩
/-- Feeders of any slice. -/
def FedG (w : World) (a : Option Addr) (n : Nat) (bu lo pr : Nat → Int) : Prop := ∀ i, i < n → ∃ p, a = some p ∧ w.cell? (p.add (i * 3)) = some (.int .i64 (bu i)) ∧ w.cell? ⟨(p.add (i * 3)).block, (p.add (i * 3)).off + 1, none⟩ = some (.int .i64 (lo i)) ∧ w.cell? ⟨(p.add (i * 3)).block, (p.add (i * 3)).off + 2, none⟩ = some (.int .i64 (pr i))
theorem FedG.below {w w' : World} {a : Option Addr} {n : Nat} {bu lo pr : Nat → Int} (h : FedG w a n bu lo pr) (hb : Below w.heap.size w w') : FedG w' a n bu lo pr := by
  intro i hi
  obtain ⟨p, e, h1, h2, h3⟩ := h i hi
  exact ⟨p, e, below_cell hb h1, below_cell hb h2, below_cell hb h3⟩
theorem Feeds.g {w : World} {fa : Option Addr} {n : Nat} {k : Int} (h : Feeds w fa n k) : FedG w fa n (busI k) (loadI k) (prioI k) := by
  intro i hi
  obtain ⟨F, e, h1, h2, h3⟩ := h i hi
  refine ⟨_, e, ?_, ?_, ?_⟩
  · rw [show (⟨F, 0, none⟩ : Addr).add (i * 3) = ⟨F, i * 3, none⟩ by simp [Addr.add]; omega]; exact h1
  · rw [show (⟨F, 0, none⟩ : Addr).add (i * 3) = ⟨F, i * 3, none⟩ by simp [Addr.add]; omega]; exact h2
  · rw [show (⟨F, 0, none⟩ : Addr).add (i * 3) = ⟨F, i * 3, none⟩ by simp [Addr.add]; omega]; exact h3
def goodFed (bu lo pr : Nat → Int) (i : Nat) : Bool := inB (bu i) 4 6 && (inB (lo i) 0 1073741824 && inB (pr i) 0 100)
def fedOk (n : Nat) (bu lo pr : Nat → Int) : Prop := n ≤ 16 ∧ ∀ i, i < n → goodFed bu lo pr i = true
theorem no_fed {n : Nat} {bu lo pr : Nat → Int} (i : Nat) (hl : i < n) (h : goodFed bu lo pr i = false) : (false = true) ↔ fedOk n bu lo pr := by
  constructor
  · intro e; cases e
  · intro q; rw [← h]; exact q.2 i hl
def ocvOk (n : Nat) (x y : Nat → Int) (cap : Int) : Prop := TabOk n x y ∧ x 0 = 0 ∧ x (n - 1) = cap
set_option maxHeartbeats 8000000 in
theorem feedersC (c : CG) (oc : Value) (a : Option Addr) (n cp : Nat) (bu lo pr : Nat → Int) (hn : n < 4611686018427387904) (w : World) (h : FedG w a n bu lo pr) :
    Calls Tryd.prog 59 #[.agg (cgA c oc (.slice a n cp))] w fun e w' => ∃ b, e = .returned (.bool b) ∧ (b = true ↔ fedOk n bu lo pr) ∧ Below w.heap.size w w' := by
  have H := Lib.hid h
  clear h
  go_enter Tryd.func59, Tryd.ntmps59
  go_upto_region 1 with fail
  have B0 := Lib.hid (Bx.new w (cgA c oc (.slice a n cp)) 31)
  generalize World.alloc w _ = W at *
  have x26 : W.cell? ⟨w.heap.size, 26, none⟩ = some (.slice a n cp) := B0.out.cell 26 rfl
  have HW := Lib.hid (H.out.below B0.out.lo)
  by_cases big : 16 < n
  · have g1 : decide ((16 : Int) < (n : Int)) = true := decide_eq_true (by omega)
    go_wp2_with fail
    go_returns
    exact ⟨false, rfl, by simp [fedOk]; omega, B0.out.lo⟩
  have g1 : decide ((16 : Int) < (n : Int)) = false := decide_eq_false (by omega)
  go_wp2_with fail
  clear x26
  have BB := Lib.hid B0.out.lo
  clear B0
  have hs := BB.out.size
  go_loopw [12] (fun v wr => ∃ i : Nat, i ≤ n ∧ v = .int .i64 i ∧ (∀ j, j < i → goodFed bu lo pr j = true) ∧ Below W.heap.size W wr) (fun v _ => n - (intOf v).toNat)
  case atStart => exact ⟨0, by omega, rfl, fun j h => by omega, Below.refl _ _⟩
  case round =>
    obtain ⟨i, hi, rfl, hj, hb⟩ := hrel
    have HB := Lib.hid hb
    have HJ := Lib.hid hj
    clear hb hj
    by_cases hl : i < n
    · obtain ⟨p, rfl, c0, c1, c2⟩ := (HW.out.below HB.out) i hl
      have K1 := Lib.hid fun (w : World) => inC (bu i) 4 6 w
      have K2 := Lib.hid fun (w : World) => inC (lo i) 0 1073741824 w
      have K3 := Lib.hid fun (w : World) => inC (pr i) 0 100 w
      have i1 : (i : Int) < (n : Int) := by omega
      have hG : goodFed bu lo pr i = (inB (bu i) 4 6 && (inB (lo i) 0 1073741824 && inB (pr i) 0 100)) := rfl
      have HG := Lib.hid hG
      clear hG
      generalize inB (bu i) 4 6 = b1 at *
      generalize inB (lo i) 0 1073741824 = b2 at *
      generalize inB (pr i) 0 100 = b3 at *
      go_upto_region 6 with fail
      have hal := (Below.refl wr.heap.size wr).alloc (Nat.le_refl _) (.cells #[.int .i64 (bu i), .int .i64 (lo i), .int .i64 (pr i)] 50)
      have F0 := Lib.hid (Bx.new wr #[.int .i64 (bu i), .int .i64 (lo i), .int .i64 (pr i)] 50)
      have HB2 := Lib.hid (HB.out.trans (hal.mono HB.out.size))
      clear hal c0 c1 c2 HB
      generalize World.alloc wr _ = W2 at *
      have z0 : W2.cell? ⟨wr.heap.size, 0, none⟩ = some (.int .i64 (bu i)) := F0.out.cell 0 rfl
      have z1 : W2.cell? ⟨wr.heap.size, 1, none⟩ = some (.int .i64 (lo i)) := F0.out.cell 1 rfl
      have z2 : W2.cell? ⟨wr.heap.size, 2, none⟩ = some (.int .i64 (pr i)) := F0.out.cell 2 rfl
      cases b1
      · go_wp2_with fail
        refine (K1.out _).mono ?_
        rintro e w' ⟨rfl, rfl⟩
        go_wp2_with fail
        go_returns
        exact ⟨false, rfl, no_fed i hl HG.out, BB.out.trans (HB2.out.mono BB.out.size)⟩
      · cases b2
        · go_wp2_with fail
          refine (K1.out _).mono ?_
          rintro e w' ⟨rfl, rfl⟩
          go_wp2_with fail
          refine (K2.out _).mono ?_
          rintro e w' ⟨rfl, rfl⟩
          go_wp2_with fail
          go_returns
          exact ⟨false, rfl, no_fed i hl HG.out, BB.out.trans (HB2.out.mono BB.out.size)⟩
        · cases b3
          · go_wp2_with fail
            refine (K1.out _).mono ?_
            rintro e w' ⟨rfl, rfl⟩
            go_wp2_with fail
            refine (K2.out _).mono ?_
            rintro e w' ⟨rfl, rfl⟩
            go_wp2_with fail
            refine (K3.out _).mono ?_
            rintro e w' ⟨rfl, rfl⟩
            go_wp2_with fail
            go_returns
            exact ⟨false, rfl, no_fed i hl HG.out, BB.out.trans (HB2.out.mono BB.out.size)⟩
          · go_wp2_with fail
            refine (K1.out _).mono ?_
            rintro e w' ⟨rfl, rfl⟩
            go_wp2_with fail
            refine (K2.out _).mono ?_
            rintro e w' ⟨rfl, rfl⟩
            go_wp2_with fail
            refine (K3.out _).mono ?_
            rintro e w' ⟨rfl, rfl⟩
            go_wp2_with fail
            go_roundw
            case rel => exact ⟨i + 1, by omega, by go_num, fun j h => by
              by_cases hj : j = i
              · subst hj; exact HG.out
              · exact HJ.out j (by omega), HB2.out⟩
            case measure => simp [intOf]; omega
    · go_wp2_with fail
      go_returns
      exact ⟨true, rfl, by simp only [true_iff]; exact ⟨by omega, fun j h => HJ.out j (by omega)⟩, BB.out.trans (HB.out.mono BB.out.size)⟩
theorem Verd.zero {n : Nat} {x y : Nat → Int} {c k : Int} {p : Bool} (h : Verd n x y c p k) (T : TabOk n x y) : c = 0 := by
  obtain ⟨h1, h2⟩ := (show 2 ≤ n ∧ n ≤ 64 from ⟨T.n2, T.n3⟩)
  cases h with
  | short q => omega
  | long q => omega
  | bad _ _ i hi hb _ => exact absurd (ok_zero T i hi) hb
  | fine _ _ _ => rfl
theorem badC1 {E : Nat → Addr} (a : Option Addr) (n cap : Nat) (hn : n < 4611686018427387904) (x y : Nat → Int) (w : World) (he : Ers E w) (h : PtsG w a n x y) (T : n < 2 ∨ 64 < n) :
    Calls Tryd.prog 66 #[.slice a n cap] w fun e w' => ∃ q, e = .returned (.iface 103 (.pointer (some q))) ∧ Below w.heap.size w w' := by
  refine (checkG a n cap hn x y w he h).mono ?_
  rintro e w1 ⟨v, c1, p1, k1, rfl, hv, hd, hb⟩
  cases hv with
  | fine => have := hd.ok; exact absurd (⟨this.n2, this.n3⟩ : 2 ≤ n ∧ n ≤ 64) (by omega)
  | bare k hk => exact ⟨_, rfl, hb⟩
  | placed k hk B m hr => exfalso; generalize hc : (101 + (k : Int)) = c9 at hd; cases hd <;> omega
theorem badC2 {E : Nat → Addr} (a : Option Addr) (n cap : Nat) (hn : n < 4611686018427387904) (x y : Nat → Int) (w : World) (he : Ers E w) (h : PtsG w a n x y) (T : ¬ TabOk n x y) (T2 : ¬ (n < 2 ∨ 64 < n)) :
    Calls Tryd.prog 66 #[.slice a n cap] w fun e w' => ∃ q, e = .returned (.iface 79 (.pointer (some q))) ∧ Below w.heap.size w w' := by
  refine (checkG a n cap hn x y w he h).mono ?_
  rintro e w1 ⟨v, c1, p1, k1, rfl, hv, hd, hb⟩
  cases hv with
  | fine => exact absurd hd.ok T
  | bare k hk => exfalso; generalize hc : (101 + (k : Int)) = c9 at hd; cases hd <;> omega
  | placed k hk B m hr => exact ⟨_, rfl, hb⟩
set_option maxHeartbeats 8000000 in
theorem ocvC {E : Nat → Addr} (c : CG) (a : Option Addr) (n cp : Nat) (x y : Nat → Int) (fe : Value) (hn : n < 4611686018427387904) (w : World) (he : Ers E w) (h : PtsG w a n x y) :
    Calls Tryd.prog 58 #[.agg (cgA c (.slice a n cp) fe)] w fun e w' => ∃ b, e = .returned (.bool b) ∧ (b = true ↔ ocvOk n x y c.Cap) ∧ Below w.heap.size w w' := by
  have H := Lib.hid h
  have HE := Lib.hid he
  clear h he
  go_enter Tryd.func58, Tryd.ntmps58
  go_upto_region 1 with fail
  have B0 := Lib.hid (Bx.new w (cgA c (.slice a n cp) fe) 31)
  generalize World.alloc w _ = W at *
  have x20 : W.cell? ⟨w.heap.size, 20, none⟩ = some (.slice a n cp) := B0.out.cell 20 rfl
  have HW := Lib.hid (H.out.below B0.out.lo)
  by_cases T : TabOk n x y
  · have i0 : (0 : Int) < (n : Int) := by have := T.n2; omega
    obtain ⟨p, rfl, d0, d1⟩ := HW.out 0 (by have := T.n2; omega)
    obtain ⟨q, hq, f0, f1⟩ := HW.out (n - 1) (by have := T.n2; omega)
    cases hq
    rw [show p.add (0 * 2) = p by simp [Addr.add]] at d0
    have PW := Lib.hid (show Pts W p n x y from fun i hi => by obtain ⟨p, hp, h1, h2⟩ := HW.out i hi; cases hp; exact ⟨h1, h2⟩)
    have K := Lib.hid fun d => checkC p n cp x y T (reach W.heap.size W d) (PW.out.below (reach_below W.heap.size W d))
    have i1 : IntKind.i64.wrap ((n : Int) - 1) = (n : Int) - 1 := IntWalk.i64_in _ (by have := T.n2; omega)
    have i2 : (n : Int) - 1 < (n : Int) := by omega
    have i3 : ((n : Int) - 1).toNat = n - 1 := by omega
    have hB : W.heap.size ≤ W.heap.size := Nat.le_refl _
    have x5 : W.cell? ⟨w.heap.size, 5, none⟩ = some (.int .i64 c.Cap) := B0.out.cell 5 rfl
    have s0 := fun d => below_cell (reach_below W.heap.size W d) d0
    have s1 := fun d => below_cell (reach_below W.heap.size W d) f0
    have s5 := fun d => below_cell (reach_below W.heap.size W d) x5
    have TT := Lib.hid T
    clear T d1 f1
    go_upto_region 2 with fail
    by_cases q0 : x 0 = 0
    · rw [q0] at s0 d0
      by_cases q1 : x (n - 1) = c.Cap
      · rw [q1] at s1 f0
        have e1 : (c.Cap == c.Cap) = true := by simp
        refine wp_region_reach W.heap.size (by kernel_rfl) (by kernel_rfl) ?_
        repeat (go_big_quiet_step ((go_at_call 66; with_reducible exact reach_call hB (K.out _))))
        refine wpQuiet_nil ?_
        rintro w' ⟨d9, rfl⟩
        go_wp2_with fail
        go_returns
        exact ⟨_, rfl, by simp [ocvOk, TT.out, q0, q1], (B0.out.reach d9).lo⟩
      · have e1 : (x (n - 1) == c.Cap) = false := by rw [beq_eq_false_iff_ne]; exact q1
        refine wp_region_reach W.heap.size (by kernel_rfl) (by kernel_rfl) ?_
        repeat (go_big_quiet_step ((go_at_call 66; with_reducible exact reach_call hB (K.out _))))
        refine wpQuiet_nil ?_
        rintro w' ⟨d9, rfl⟩
        go_wp2_with fail
        go_returns
        exact ⟨_, rfl, by simp [ocvOk, TT.out, q0, q1], (B0.out.reach d9).lo⟩
    · have e0 : (x 0 == 0) = false := by rw [beq_eq_false_iff_ne]; exact q0
      refine wp_region_reach W.heap.size (by kernel_rfl) (by kernel_rfl) ?_
      repeat (go_big_quiet_step ((go_at_call 66; with_reducible exact reach_call hB (K.out _))))
      refine wpQuiet_nil ?_
      rintro w' ⟨d9, rfl⟩
      go_wp2_with fail
      go_returns
      exact ⟨_, rfl, by simp [ocvOk, TT.out, q0], (B0.out.reach d9).lo⟩
  · go_upto_region 2 with fail
    have E1 := Lib.hid (HE.out.below B0.out.lo.drew)
    have H1 := Lib.hid (HW.out.below (Below.refl W.heap.size W).drew)
    have B1 := Lib.hid (B0.out.below (Below.refl W.heap.size W).drew)
    have NT := Lib.hid T
    clear T x20
    refine wp_region_pre 2 (by kernel_rfl) (by kernel_rfl) (Nat.le_of_ble_eq_true (by kernel_rfl)) (by kernel_rfl) ?_
    simp only [List.take_succ_cons, List.take_zero, List.drop_succ_cons, List.drop_zero]
    intro R hR
    by_cases T2 : n < 2 ∨ 64 < n
    · go_wp2_with fail
      refine (badC1 a n cp hn x y _ E1.out H1.out T2).mono ?_
      rintro e w1 ⟨q9, rfl, hb⟩
      have B2 := Lib.hid (B1.out.below hb).lo
      clear hb
      go_wp2_with fail
      repeat (go_big_quiet_step (fail))
      refine wpQuiet_nil ?_
      rintro w' ⟨d, rfl⟩
      go_wp2_with fail
      go_returns
      exact ⟨false, rfl, ⟨fun e => (by cases e), fun q => absurd q.1 NT.out⟩, B2.out.trans ((reach_below _ _ d).mono B2.out.size)⟩
    · have NT2 := Lib.hid T2
      clear T2
      go_wp2_with fail
      refine (badC2 a n cp hn x y _ E1.out H1.out NT.out NT2.out).mono ?_
      rintro e w1 ⟨q9, rfl, hb⟩
      have B2 := Lib.hid (B1.out.below hb).lo
      clear hb
      go_wp2_with fail
      repeat (go_big_quiet_step (fail))
      refine wpQuiet_nil ?_
      rintro w' ⟨d, rfl⟩
      go_wp2_with fail
      go_returns
      exact ⟨false, rfl, ⟨fun e => (by cases e), fun q => absurd q.1 NT.out⟩, B2.out.trans ((reach_below _ _ d).mono B2.out.size)⟩
end Go.Proofs.YtbeemfkndpandaaDoor
