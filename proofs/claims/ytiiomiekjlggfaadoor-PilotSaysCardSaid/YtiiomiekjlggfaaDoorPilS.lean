/- The document's pilot: what commands leave; a command as a frame, a frame as a command. Conditions: the seven errors lie apart. -/
import Derived.Test.YtiiomiekjlggfaaDoorPilL
import Derived.Test.YtiiomiekjlggfaaDoorActK
namespace Go.Proofs.YtiiomiekjlggfaaDoor
open Go Go.RowKit
set_option linter.unusedVariables false
set_option maxRecDepth 20000
def PlR (w : World) (B : Nat) (p : PS) : Prop := w.heap[B]? = some (.cells (psA p) 41 (0, 0))
theorem PlR.below {w w' : World} {B b : Nat} {p : PS} (h : PlR w B p) (hb : Below b w w') (hl : B < b) : PlR w' B p := (hb.block B hl).trans h
theorem PlR.lt {w : World} {B : Nat} {p : PS} (h : PlR w B p) : B < w.heap.size := (Array.getElem?_eq_some_iff.1 h).1
theorem PlR.froz {w : World} {B : Nat} {p : PS} (h : PlR w B p) (j : Nat) : w.frozen? ⟨B, j, none⟩ = false := by
  unfold PlR at h
  simp [World.frozen?, h]
theorem PlR.cell {w : World} {B : Nat} {p : PS} (h : PlR w B p) (i : Nat) {v : Value} (hv : (psA p)[i]? = some v) : w.cell? ⟨B, i, none⟩ = some v := by
  unfold PlR at h
  simp [World.cell?, h, hv]
theorem PlR.set {w : World} {B : Nat} {p q : PS} (h : PlR w B p) (i : Nat) (v : Value) (hq : (psA p).setIfInBounds i v = psA q) : PlR (w.setCell ⟨B, i, none⟩ v) B q := by
  unfold PlR at *
  rw [← hq]
  simp [World.setCell, Array.getElem?_modify, h]
theorem knownR (cmd arg : Int) (w : World) : Calls Tryd.prog 41 #[.int .i64 cmd, .int .i64 arg] w fun e w' => e = .returned (.bool (kn cmd arg)) ∧ w = w' := by
  unfold kn
  by_cases h1 : 1 ≤ cmd <;> by_cases h2 : cmd ≤ 5 <;> by_cases h3 : arg = 0 <;> by_cases h4 : arg = 1
  all_goals
    have d1 : decide (1 ≤ cmd) = decide (1 ≤ cmd) := rfl
    go_enter Tryd.func41, Tryd.ntmps41
    go_wp2_with fail
    all_goals
      go_ret
      exact ⟨by simp_all <;> omega, rfl⟩
set_option maxHeartbeats 4000000 in
theorem applyR (B : Nat) (p : PS) (cmd arg : Int) (w : World) (h : PlR w B p) (hc : -4611686018427387904 ≤ p.c ∧ p.c ≤ 4611686018427387904) :
    Calls Tryd.prog 21 #[.pointer (some ⟨B, 0, none⟩), .int .i64 cmd, .int .i64 arg] w fun e w' => e = .returned (.bool (kn cmd arg)) ∧ PlR w' B (p.app cmd arg) ∧ Only B w w' := by
  have H := Lib.hid h
  have x0 := h.cell 0 rfl
  have x1 := h.cell 1 rfl
  have x2 := h.cell 2 rfl
  have x3 := h.cell 3 rfl
  have x4 : w.cell? ⟨B, 4, none⟩ = some (.int .i64 p.c) := h.cell 4 rfl
  have xf := h.froz
  have hb := h.lt
  clear h
  cases hk : kn cmd arg
  · have EA := Lib.hid (show p.app cmd arg = p by unfold PS.app; rw [hk]; rfl)
    have K := Lib.hid fun (w : World) => knownR cmd arg w
    rw [hk] at K
    go_enter Tryd.func21, Tryd.ntmps21
    go_wp2_with fail
    refine (K.out _).mono ?_
    rintro e w' ⟨rfl, rfl⟩
    go_wp2_with fail
    go_returns
    exact ⟨rfl, by rw [EA.out]; exact H.out, Only.refl _ _⟩
  · have K := Lib.hid fun (w : World) => knownR cmd arg w
    rw [hk] at K
    have ea : p.app cmd arg = (if cmd = 1 then { p with e := (arg == 1) } else if cmd = 2 then { p with s := (arg == 1) } else if cmd = 3 then { p with l := true } else if cmd = 4 then { p with r := (arg == 1) } else { p with c := min p.c 999 + 1 }) := by unfold PS.app; rw [if_pos hk]
    have hk2 : (1 ≤ cmd ∧ cmd ≤ 5) ∧ (arg = 0 ∨ arg = 1) := by
      unfold kn at hk
      simpa using hk
    have EA := Lib.hid ea
    clear ea hk
    obtain ⟨⟨k1, k2⟩, k3⟩ := hk2
    rcases (show cmd = 1 ∨ cmd = 2 ∨ cmd = 3 ∨ cmd = 4 ∨ cmd = 5 by omega) with rfl | rfl | rfl | rfl | rfl
    · have EB := Lib.hid (show p.app 1 arg = { p with e := (arg == 1) } from EA.out.trans rfl)
      clear EA
      go_enter Tryd.func21, Tryd.ntmps21
      go_wp2_with fail
      refine (K.out _).mono ?_
      rintro e w' ⟨rfl, rfl⟩
      go_wp2_with fail
      all_goals
        go_returns
        refine ⟨rfl, ?_, Only.set _ _ _ _⟩
        rw [EB.out]
        exact H.out.set 0 _ rfl
    · have EB := Lib.hid (show p.app 2 arg = { p with s := (arg == 1) } from EA.out.trans rfl)
      clear EA
      go_enter Tryd.func21, Tryd.ntmps21
      go_wp2_with fail
      refine (K.out _).mono ?_
      rintro e w' ⟨rfl, rfl⟩
      go_wp2_with fail
      all_goals
        go_returns
        refine ⟨rfl, ?_, Only.set _ _ _ _⟩
        rw [EB.out]
        exact H.out.set 1 _ rfl
    · have EB := Lib.hid (show p.app 3 arg = { p with l := true } from EA.out.trans rfl)
      clear EA
      go_enter Tryd.func21, Tryd.ntmps21
      go_wp2_with fail
      refine (K.out _).mono ?_
      rintro e w' ⟨rfl, rfl⟩
      go_wp2_with fail
      all_goals
        go_returns
        refine ⟨rfl, ?_, Only.set _ _ _ _⟩
        rw [EB.out]
        exact H.out.set 2 _ rfl
    · have EB := Lib.hid (show p.app 4 arg = { p with r := (arg == 1) } from EA.out.trans rfl)
      clear EA
      go_enter Tryd.func21, Tryd.ntmps21
      go_wp2_with fail
      refine (K.out _).mono ?_
      rintro e w' ⟨rfl, rfl⟩
      go_wp2_with fail
      all_goals
        go_returns
        refine ⟨rfl, ?_, Only.set _ _ _ _⟩
        rw [EB.out]
        exact H.out.set 3 _ rfl
    · have EB := Lib.hid (show p.app 5 arg = { p with c := min p.c 999 + 1 } from EA.out.trans rfl)
      clear EA
      go_enter Tryd.func21, Tryd.ntmps21
      go_wp2_with fail
      refine (K.out _).mono ?_
      rintro e w' ⟨rfl, rfl⟩
      go_wp2_with fail
      all_goals
        go_returns
        refine ⟨rfl, ?_, Only.set _ _ _ _⟩
        rw [EB.out]
        exact H.out.set 4 _ (by simp only [psA]; simp; omega)
def qI (g : Bool) : Int := if g = true then 80 else 0
def qS (g : Bool) (s : Int) : Int := if g = true then s else 0
def qN (g : Bool) : Nat := if g = true then 2 else 0
def qF (c d : Int) (i : Nat) : Int := if i = 0 then c else d
theorem byt2 {w : World} {B : Nat} {c d : Int} {t : TypeId} (h : w.heap[B]? = some (.cells #[.int .u8 c, .int .u8 d] t (0, 0))) : Byt w (some ⟨B, 0, none⟩) 2 (qF c d) := by
  intro i hi
  refine ⟨_, rfl, ?_⟩
  rcases (show i = 0 ∨ i = 1 by omega) with rfl | rfl
  · exact (cell_of_row w B 0 _ _ _ h).trans rfl
  · exact (cell_of_row w B 1 _ _ _ h).trans rfl
set_option maxHeartbeats 4000000 in
theorem pilPutBad {E : Nat → Addr} (c d s : Int) (hk : kn c d = false) (w : World) (he : Ers E w) :
    Calls Tryd.prog 14 #[.int .i64 c, .int .i64 d, .int .u8 s] w fun e w' => e = .returned (.tuple #[.agg #[.int .u8 0, .int .u8 0, .slice none 0 0], .iface 102 (.pointer (some (E 0)))]) ∧ Below w.heap.size w w' := by
  have K := Lib.hid fun (w : World) => knownC c d w
  rw [hk] at K
  have HE := Lib.hid he
  clear hk he
  go_enter Tryd.func14, Tryd.ntmps14
  go_wp2_with fail
  have B0 := Lib.hid (Bx.new w #[.int .u8 0, .int .u8 0, .slice none 0 0] 24)
  generalize World.alloc w _ = W at *
  refine (K.out _).mono ?_
  rintro e w1 ⟨rfl, rfl⟩
  have x0 : W.cell? ⟨w.heap.size, 0, none⟩ = some (.int .u8 0) := B0.out.cell 0 rfl
  have x1 : W.cell? ⟨w.heap.size, 1, none⟩ = some (.int .u8 0) := B0.out.cell 1 rfl
  have x2 : W.cell? ⟨w.heap.size, 2, none⟩ = some (.slice none 0 0) := B0.out.cell 2 rfl
  have xf := B0.out.froz
  have q0 := (HE.out.below B0.out.lo).g0
  unfold errV at q0
  have hz : (0 : Nat) ≠ w.heap.size := by have h := block_lt_of_cell HE.out.g0; change 0 < _ at h; omega
  go_wp2_with fail
  go_region_with (fail)
  all_goals
    go_wp2_with fail
    have B6 := Lib.hid (((B0.out.set 0 (.int .u8 0)).set 1 (.int .u8 0)).set 2 (.slice none 0 0))
    have B7 := Lib.hid (show Bx w (World.setCell (World.setCell (World.setCell W ⟨w.heap.size, 0, none⟩ (.int .u8 0)) ⟨w.heap.size, 1, none⟩ (.int .u8 0)) ⟨w.heap.size, 2, none⟩ (.slice none 0 0)).drew _ 24 from ⟨B6.out.row, B6.out.lo.drew⟩)
    clear x0 x1 x2 xf q0 B6
    generalize World.drew _ = W3 at *
    have q0 : W3.cell? ⟨w.heap.size, 0, none⟩ = some (.int .u8 0) := B7.out.cell 0 rfl
    have q1 : W3.cell? ⟨w.heap.size, 1, none⟩ = some (.int .u8 0) := B7.out.cell 1 rfl
    have q2 : W3.cell? ⟨w.heap.size, 2, none⟩ = some (.slice none 0 0) := B7.out.cell 2 rfl
    refine bodyPost_ret (v := .tuple #[.agg #[.int .u8 0, .int .u8 0, .slice none 0 0], .iface 102 (.pointer (some (E 0)))]) (by simp [results, Tryd.results14, go_sem, q0, q1, q2]) rfl ⟨rfl, B7.out.lo⟩
theorem pilPutAny {E : Nat → Addr} (c d s : Int) (g : Bool) (hg : kn c d = g) (w : World) (he : Ers E w) :
    Calls Tryd.prog 14 #[.int .i64 c, .int .i64 d, .int .u8 s] w fun r w' => ∃ x, r = .returned (.tuple #[.agg #[.int .u8 (qI g), .int .u8 (qS g s), .slice x (qN g) (qN g)], errOf E (pC g)]) ∧ Byt w' x (qN g) (qF c d) ∧ Below w.heap.size w w' := by
  cases g
  · exact (pilPutBad c d s hg w he).mono fun r w' ⟨h1, h2⟩ => ⟨none, by rw [h1]; rfl, fun i hi => by simp [qN] at hi, h2⟩
  · exact (putGood c d s hg w).mono fun r w' ⟨B, h1, h2, h3⟩ => ⟨some ⟨B, 0, none⟩, by rw [h1]; rfl, byt2 h2, h3⟩
set_option maxHeartbeats 4000000 in
theorem pilPutR (c d s : Int) (g : Bool) (hg : kn c d = g) (w : World) :
    Calls Tryd.prog 15 #[.int .i64 c, .int .i64 d, .int .u8 s] w fun r w' => ∃ x, r = .returned (.tuple #[.agg #[.int .u8 (qI g), .int .u8 (qS g s), .slice x (qN g) (qN g)], .int .i64 (pC g)]) ∧ Byt w' x (qN g) (qF c d) ∧ Below w.heap.size w w' := by
  have K := Lib.hid fun (w : World) => knownR c d w
  rw [hg] at K
  cases g
  · clear hg
    go_enter Tryd.func15, Tryd.ntmps15
    go_wp2_with fail
    have B0 := Lib.hid (Bx.new w #[.int .u8 0, .int .u8 0, .slice none 0 0] 24)
    generalize World.alloc w _ = W at *
    refine (K.out _).mono ?_
    rintro e w1 ⟨rfl, rfl⟩
    have x0 : W.cell? ⟨w.heap.size, 0, none⟩ = some (.int .u8 0) := B0.out.cell 0 rfl
    have x1 : W.cell? ⟨w.heap.size, 1, none⟩ = some (.int .u8 0) := B0.out.cell 1 rfl
    have x2 : W.cell? ⟨w.heap.size, 2, none⟩ = some (.slice none 0 0) := B0.out.cell 2 rfl
    have xf := B0.out.froz
    go_wp2_with fail
    have B6 := Lib.hid (((B0.out.set 0 (.int .u8 0)).set 1 (.int .u8 0)).set 2 (.slice none 0 0))
    clear x0 x1 x2 xf
    generalize World.setCell _ _ _ = W3 at *
    have q0 : W3.cell? ⟨w.heap.size, 0, none⟩ = some (.int .u8 0) := B6.out.cell 0 rfl
    have q1 : W3.cell? ⟨w.heap.size, 1, none⟩ = some (.int .u8 0) := B6.out.cell 1 rfl
    have q2 : W3.cell? ⟨w.heap.size, 2, none⟩ = some (.slice none 0 0) := B6.out.cell 2 rfl
    refine bodyPost_ret (v := .tuple #[.agg #[.int .u8 0, .int .u8 0, .slice none 0 0], .int .i64 101]) (by simp [results, Tryd.results15, go_sem, q0, q1, q2]) rfl ⟨none, rfl, fun i hi => by simp [qN] at hi, B6.out.lo⟩
  · have hk2 : (1 ≤ c ∧ c ≤ 5) ∧ (d = 0 ∨ d = 1) := by
      unfold kn at hg
      simpa using hg
    clear hg
    have v0 : IntKind.u8.wrap c = c := by rw [IntKind.wrap_u8]; omega
    have v1 : IntKind.u8.wrap d = d := by rw [IntKind.wrap_u8]; omega
    go_enter Tryd.func15, Tryd.ntmps15
    go_wp2_with fail
    have B0 := Lib.hid (Bx.new w #[.int .u8 0, .int .u8 0, .slice none 0 0] 24)
    generalize World.alloc w _ = W at *
    refine (K.out _).mono ?_
    rintro e w1 ⟨rfl, rfl⟩
    have hw := B0.out.size
    have x0 : W.cell? ⟨w.heap.size, 0, none⟩ = some (.int .u8 0) := B0.out.cell 0 rfl
    have x1 : W.cell? ⟨w.heap.size, 1, none⟩ = some (.int .u8 0) := B0.out.cell 1 rfl
    have x2 : W.cell? ⟨w.heap.size, 2, none⟩ = some (.slice none 0 0) := B0.out.cell 2 rfl
    have xf := B0.out.froz
    go_wp2_with fail
    have B6 := Lib.hid (((B0.out.set 0 (.int .u8 80)).set 1 (.int .u8 s)).set 2 (.slice (some ⟨W.heap.size, 0, none⟩) 2 2))
    have hsz : (((W.setCell ⟨w.heap.size, 0, none⟩ (.int .u8 80)).setCell ⟨w.heap.size, 1, none⟩ (.int .u8 s)).setCell ⟨w.heap.size, 2, none⟩ (.slice (some ⟨W.heap.size, 0, none⟩) 2 2)).heap.size = W.heap.size := by simp
    clear x0 x1 x2 xf
    generalize World.setCell (World.setCell (World.setCell W _ _) _ _) _ _ = W3 at *
    have R7 := Lib.hid (show (W3.alloc (.cells #[.int .u8 c, .int .u8 d] 5)).heap[W.heap.size]? = some (.cells #[.int .u8 c, .int .u8 d] 5 (0, 0)) by rw [← hsz]; exact heap_alloc_new _ _)
    have B7 := Lib.hid (B6.out.below ((Below.refl _ _).alloc (Nat.le_refl _) (.cells #[.int .u8 c, .int .u8 d] 5)))
    clear B6
    generalize World.alloc W3 _ = W4 at *
    have q0 : W4.cell? ⟨w.heap.size, 0, none⟩ = some (.int .u8 80) := B7.out.cell 0 rfl
    have q1 : W4.cell? ⟨w.heap.size, 1, none⟩ = some (.int .u8 s) := B7.out.cell 1 rfl
    have q2 : W4.cell? ⟨w.heap.size, 2, none⟩ = some (.slice (some ⟨W.heap.size, 0, none⟩) 2 2) := B7.out.cell 2 rfl
    refine bodyPost_ret (v := .tuple #[.agg #[.int .u8 80, .int .u8 s, .slice (some ⟨W.heap.size, 0, none⟩) 2 2], .int .i64 0]) (by simp [results, Tryd.results15, go_sem, q0, q1, q2]) rfl ⟨some ⟨W.heap.size, 0, none⟩, rfl, byt2 R7.out, B7.out.lo⟩
end Go.Proofs.YtiiomiekjlggfaaDoor
