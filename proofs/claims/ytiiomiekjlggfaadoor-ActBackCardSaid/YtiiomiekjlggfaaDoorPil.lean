/- What a pilot's commands leave. Conditions: the numbers are of 64 bits. -/
import Derived.Test.YtiiomiekjlggfaaDoorOnly
import Derived.Test.YtiiomiekjlggfaaDoorCame
import Derived.Test.YtiiomiekjlggfaaDoorBox
import Derived.Handy
import Derived.OpenShut
import Derived.Lib.Hide
import Derived.BigQuiet
import Derived.Deep.DeepCutAuto
namespace Go.Proofs.YtiiomiekjlggfaaDoor
open Go.RowKit
set_option linter.unusedVariables false
structure PS where
  e : Bool
  s : Bool
  l : Bool
  r : Bool
  c : Int
def psA (p : PS) : Array Value := #[.bool p.e, .bool p.s, .bool p.l, .bool p.r, .int .i64 p.c]
def kn (cmd arg : Int) : Bool := decide (1 ≤ cmd) && decide (cmd ≤ 5) && (decide (arg = 0) || decide (arg = 1))
def PS.app (p : PS) (cmd arg : Int) : PS :=
  if kn cmd arg = true then
    (if cmd = 1 then { p with e := (arg == 1) } else if cmd = 2 then { p with s := (arg == 1) } else if cmd = 3 then { p with l := true } else if cmd = 4 then { p with r := (arg == 1) } else { p with c := min p.c 999 + 1 })
  else p
def Pl (w : World) (B : Nat) (p : PS) : Prop := w.heap[B]? = some (.cells (psA p) 40 (0, 0))
theorem Pl.below {w w' : World} {B b : Nat} {p : PS} (h : Pl w B p) (hb : Below b w w') (hl : B < b) : Pl w' B p := (hb.block B hl).trans h
theorem Pl.lt {w : World} {B : Nat} {p : PS} (h : Pl w B p) : B < w.heap.size := (Array.getElem?_eq_some_iff.1 h).1
theorem Pl.froz {w : World} {B : Nat} {p : PS} (h : Pl w B p) (j : Nat) : w.frozen? ⟨B, j, none⟩ = false := by
  unfold Pl at h
  simp [World.frozen?, h]
theorem Pl.cell {w : World} {B : Nat} {p : PS} (h : Pl w B p) (i : Nat) {v : Value} (hv : (psA p)[i]? = some v) : w.cell? ⟨B, i, none⟩ = some v := by
  unfold Pl at h
  simp [World.cell?, h, hv]
theorem Pl.set {w : World} {B : Nat} {p q : PS} (h : Pl w B p) (i : Nat) (v : Value) (hq : (psA p).setIfInBounds i v = psA q) : Pl (w.setCell ⟨B, i, none⟩ v) B q := by
  unfold Pl at *
  rw [← hq]
  simp [World.setCell, Array.getElem?_modify, h]
theorem knownC (cmd arg : Int) (w : World) : Calls Tryd.prog 40 #[.int .i64 cmd, .int .i64 arg] w fun e w' => e = .returned (.bool (kn cmd arg)) ∧ w = w' := by
  unfold kn
  by_cases h1 : 1 ≤ cmd <;> by_cases h2 : cmd ≤ 5 <;> by_cases h3 : arg = 0 <;> by_cases h4 : arg = 1
  all_goals
    have d1 : decide (1 ≤ cmd) = decide (1 ≤ cmd) := rfl
    go_enter Tryd.func40, Tryd.ntmps40
    go_wp2_with fail
    all_goals
      go_ret
      exact ⟨by simp_all, rfl⟩
set_option maxHeartbeats 4000000 in
theorem applyC (B : Nat) (p : PS) (cmd arg : Int) (w : World) (h : Pl w B p) (hc : -4611686018427387904 ≤ p.c ∧ p.c ≤ 4611686018427387904) :
    Calls Tryd.prog 20 #[.pointer (some ⟨B, 0, none⟩), .int .i64 cmd, .int .i64 arg] w fun e w' => e = .returned (.bool (kn cmd arg)) ∧ Pl w' B (p.app cmd arg) ∧ Only B w w' := by
  have H := Lib.hid h
  have x0 := h.cell 0 rfl
  have x1 := h.cell 1 rfl
  have x2 := h.cell 2 rfl
  have x3 := h.cell 3 rfl
  have x4 : w.cell? ⟨B, 4, none⟩ = some (.int .i64 p.c) := h.cell 4 rfl
  have xf := h.froz
  have hb := h.lt
  clear h
  cases hk : kn cmd arg
  · have EA := Lib.hid (show p.app cmd arg = p by unfold PS.app; rw [hk]; rfl)
    have K := Lib.hid fun (w : World) => knownC cmd arg w
    rw [hk] at K
    go_enter Tryd.func20, Tryd.ntmps20
    go_wp2_with fail
    refine (K.out _).mono ?_
    rintro e w' ⟨rfl, rfl⟩
    go_wp2_with fail
    go_returns
    exact ⟨rfl, by rw [EA.out]; exact H.out, Only.refl _ _⟩
  · have K := Lib.hid fun (w : World) => knownC cmd arg w
    rw [hk] at K
    have ea : p.app cmd arg = (if cmd = 1 then { p with e := (arg == 1) } else if cmd = 2 then { p with s := (arg == 1) } else if cmd = 3 then { p with l := true } else if cmd = 4 then { p with r := (arg == 1) } else { p with c := min p.c 999 + 1 }) := by unfold PS.app; rw [if_pos hk]
    have hk2 : (1 ≤ cmd ∧ cmd ≤ 5) ∧ (arg = 0 ∨ arg = 1) := by
      unfold kn at hk
      simpa using hk
    have EA := Lib.hid ea
    clear ea hk
    obtain ⟨⟨k1, k2⟩, k3⟩ := hk2
    rcases (show cmd = 1 ∨ cmd = 2 ∨ cmd = 3 ∨ cmd = 4 ∨ cmd = 5 by omega) with rfl | rfl | rfl | rfl | rfl
    · have EB := Lib.hid (show p.app 1 arg = { p with e := (arg == 1) } from EA.out.trans rfl)
      clear EA
      go_enter Tryd.func20, Tryd.ntmps20
      go_wp2_with fail
      refine (K.out _).mono ?_
      rintro e w' ⟨rfl, rfl⟩
      go_wp2_with fail
      all_goals
        go_returns
        refine ⟨rfl, ?_, Only.set _ _ _ _⟩
        rw [EB.out]
        exact H.out.set 0 _ rfl
    · have EB := Lib.hid (show p.app 2 arg = { p with s := (arg == 1) } from EA.out.trans rfl)
      clear EA
      go_enter Tryd.func20, Tryd.ntmps20
      go_wp2_with fail
      refine (K.out _).mono ?_
      rintro e w' ⟨rfl, rfl⟩
      go_wp2_with fail
      all_goals
        go_returns
        refine ⟨rfl, ?_, Only.set _ _ _ _⟩
        rw [EB.out]
        exact H.out.set 1 _ rfl
    · have EB := Lib.hid (show p.app 3 arg = { p with l := true } from EA.out.trans rfl)
      clear EA
      go_enter Tryd.func20, Tryd.ntmps20
      go_wp2_with fail
      refine (K.out _).mono ?_
      rintro e w' ⟨rfl, rfl⟩
      go_wp2_with fail
      all_goals
        go_returns
        refine ⟨rfl, ?_, Only.set _ _ _ _⟩
        rw [EB.out]
        exact H.out.set 2 _ rfl
    · have EB := Lib.hid (show p.app 4 arg = { p with r := (arg == 1) } from EA.out.trans rfl)
      clear EA
      go_enter Tryd.func20, Tryd.ntmps20
      go_wp2_with fail
      refine (K.out _).mono ?_
      rintro e w' ⟨rfl, rfl⟩
      go_wp2_with fail
      all_goals
        go_returns
        refine ⟨rfl, ?_, Only.set _ _ _ _⟩
        rw [EB.out]
        exact H.out.set 3 _ rfl
    · have EB := Lib.hid (show p.app 5 arg = { p with c := min p.c 999 + 1 } from EA.out.trans rfl)
      clear EA
      go_enter Tryd.func20, Tryd.ntmps20
      go_wp2_with fail
      refine (K.out _).mono ?_
      rintro e w' ⟨rfl, rfl⟩
      go_wp2_with fail
      all_goals
        go_returns
        refine ⟨rfl, ?_, Only.set _ _ _ _⟩
        rw [EB.out]
        exact H.out.set 4 _ (by simp only [psA]; simp; omega)
end Go.Proofs.YtiiomiekjlggfaaDoor
