/- What the functions of package mode return. Conditions: the numbers are of 64 bits. -/
import Derived.Test.YtomjhoaffbjkgaaNum
import Derived.Test.YtomjhoaffbjkgaaOnly
import Derived.OpenShut
import Derived.Lib.Hide
import Derived.Deep.QuietTactic
import Derived.BigQuiet
import Derived.StillTailTactics
import Derived.ScopeJumps
import Derived.WalkMore
import Derived.Laws.Rows
namespace Go.Proofs.Ytomjhoaffbjkgaa
open Go.RowKit
/-- What the mode goes by: the pilot's four words and his count, four sources, locks, way, boot, the reserve. -/
structure MI where
  ext : Bool
  shed : Bool
  land : Bool
  ret : Bool
  clears : Int
  u0 : Bool
  u1 : Bool
  u2 : Bool
  u3 : Bool
  locks : Bool
  way : Bool
  boot : Bool
  res : Int
def MI.v (i : MI) : Value := .agg #[.bool i.ext, .bool i.shed, .bool i.land, .bool i.ret, .int .i64 i.clears, .bool i.u0, .bool i.u1, .bool i.u2, .bool i.u3, .bool i.locks, .bool i.way, .bool i.boot, .int .i64 i.res]
def belowI (i : MI) (least : Int) : Bool := !i.boot && decide (i.res < least)
def nextI (least : Int) (mode : Int) (i : MI) : Int :=
  if mode == 4 || i.land || belowI i least then 4
  else if i.ext && i.u3 then 5
  else if i.ret || belowI i (sat (2 * least)) || !i.way then 3
  else if i.locks || !i.u0 || !i.u1 || !i.u2 then 2
  else 1
theorem belowC (i : MI) (least : Int) (w : World) :
    Calls Try.prog 39 #[i.v, .int .i64 least] w fun e w' => e = .returned (.bool (belowI i least)) ∧ Below w.heap.size w w' := by
  obtain ⟨ext, shed, land, ret, clears, u0, u1, u2, u3, locks, way, boot, res⟩ := i
  unfold MI.v belowI
  cases boot
  all_goals
    go_enter Try.func39, Try.ntmps39
    go_wp2
    all_goals
      go_ret
      exact ⟨by simp, by go_grown⟩
theorem reserveC (a b : Bool) (p0 p1 q0 q1 : Int) (w : World) :
    Calls Try.prog 16 #[.agg #[.bool a, .bool b], .agg #[.int .i64 p0, .int .i64 p1, .int .i64 q0, .int .i64 q1]] w fun e w' => e = .returned (.int .i64 (if a && b then min p0 q0 else if a then p0 else if b then q0 else 0)) ∧ Below w.heap.size w w' := by
  cases a <;> cases b
  all_goals
    go_enter Try.func16, Try.ntmps16
    go_wp2
    all_goals
      go_ret
      exact ⟨ret_i64 (by first | rfl | (simp; done) | omega), by go_grown⟩
def InC (w : World) (B : Nat) (i : MI) : Prop := w.heap[B]? = some (.cells #[.bool i.ext, .bool i.shed, .bool i.land, .bool i.ret, .int .i64 i.clears, .bool i.u0, .bool i.u1, .bool i.u2, .bool i.u3, .bool i.locks, .bool i.way, .bool i.boot, .int .i64 i.res] 38 (0, 0))
theorem InC.cells {w : World} {B : Nat} {i : MI} (h : InC w B i) : w.cell? ⟨B, 0, none⟩ = some (.bool i.ext) ∧ w.cell? ⟨B, 1, none⟩ = some (.bool i.shed) ∧ w.cell? ⟨B, 2, none⟩ = some (.bool i.land) ∧ w.cell? ⟨B, 3, none⟩ = some (.bool i.ret) ∧ w.cell? ⟨B, 4, none⟩ = some (.int .i64 i.clears) ∧ w.cell? ⟨B, 5, none⟩ = some (.bool i.u0) ∧ w.cell? ⟨B, 6, none⟩ = some (.bool i.u1) ∧ w.cell? ⟨B, 7, none⟩ = some (.bool i.u2) ∧ w.cell? ⟨B, 8, none⟩ = some (.bool i.u3) ∧ w.cell? ⟨B, 9, none⟩ = some (.bool i.locks) ∧ w.cell? ⟨B, 10, none⟩ = some (.bool i.way) ∧ w.cell? ⟨B, 11, none⟩ = some (.bool i.boot) ∧ w.cell? ⟨B, 12, none⟩ = some (.int .i64 i.res) := by
  unfold InC at h
  refine ⟨?_, ?_, ?_, ?_, ?_, ?_, ?_, ?_, ?_, ?_, ?_, ?_, ?_⟩ <;> simp [World.cell?, h]
theorem InC.below {w w' : World} {B : Nat} {i : MI} (h : InC w B i) (hb : Below w.heap.size w w') : InC w' B i := by
  unfold InC at *
  rw [hb.block B (Array.getElem?_eq_some_iff.1 h).1]; exact h
theorem jump_ret {l : Nat} {J : Act → World → Prop} {Q : Exit → Act → World → Prop} {a : Act} {w : World} : Exit.jump l J Q .ret a w = Q .ret a w := rfl
theorem then_goto {l : Nat} {K : Act → World → Prop} {Q : Exit → Act → World → Prop} {a : Act} {w : World} (h : Q (.goto l) a w) : Exit.then K Q (.goto l) a w := h
theorem jump_goto {l : Nat} {J : Act → World → Prop} {Q : Exit → Act → World → Prop} {a : Act} {w : World} (h : J a w) : Exit.jump l J Q (.goto l) a w := ⟨rfl, h⟩
set_option maxHeartbeats 4000000 in
theorem nextC (c0 c1 c2 c3 c4 c5 c6 c7 c8 c9 c10 c11 c12 c13 c14 c15 c16 c17 c18 c19 c20 c21 c22 c23 : Value) (el ma : Int) (fe : Value) (he : I64 el) (hm : I64 ma) (mode : Int) (i : MI) (w : World) :
    Calls Try.prog 18 #[.agg #[c0, c1, c2, c3, c4, c5, c6, c7, c8, c9, c10, c11, c12, c13, c14, c15, c16, c17, c18, c19, c20, c21, c22, c23, .int .i64 el, .int .i64 ma, fe], .int .i64 mode, i.v] w fun e w' => e = .returned (.int .i64 (nextI (sat (el + ma)) mode i)) ∧ Below w.heap.size w w' := by
  have K1 := Lib.hid fun (w : World) => fixedAdd el ma he hm w
  have hs : I64 (sat (el + ma)) := by unfold sat I64; omega
  have K2 := Lib.hid fun (w : World) => fixedMul 2 (sat (el + ma)) (by unfold I64; omega) hs w
  generalize sat (el + ma) = least at *
  have K3 := Lib.hid fun (w : World) => belowC i least w
  have K4 := Lib.hid fun (w : World) => belowC i (sat (2 * least)) w
  unfold nextI
  generalize belowI i least = b1 at *
  generalize hb2 : belowI i (sat (2 * least)) = b2 at *
  clear hb2
  obtain ⟨ext, shed, land, ret, clears, u0, u1, u2, u3, locks, way, boot, res⟩ := i
  simp only [MI.v] at K3 K4 ⊢
  go_enter Try.func18, Try.ntmps18
  go_wp2_with fail
  generalize hr : (if (mode == 4 || land || b1) = true then (4 : Int) else if (ext && u3) = true then 5 else if (ret || b2 || !way) = true then 3 else if (locks || !u0 || !u1 || !u2) = true then 2 else 1) = r
  have HR := Lib.hid hr
  clear hr
  obtain ⟨W1, hW, a24, a25, hI, hb⟩ : ∃ W1, ((w.alloc (.cells #[c0, c1, c2, c3, c4, c5, c6, c7, c8, c9, c10, c11, c12, c13, c14, c15, c16, c17, c18, c19, c20, c21, c22, c23, .int .i64 el, .int .i64 ma, fe] 34)).alloc (.cells #[.bool ext, .bool shed, .bool land, .bool ret, .int .i64 clears, .bool u0, .bool u1, .bool u2, .bool u3, .bool locks, .bool way, .bool boot, .int .i64 res] 38)) = W1 ∧
      W1.cell? ⟨w.heap.size, 24, none⟩ = some (.int .i64 el) ∧ W1.cell? ⟨w.heap.size, 25, none⟩ = some (.int .i64 ma) ∧ InC W1 (w.heap.size + 1) ⟨ext, shed, land, ret, clears, u0, u1, u2, u3, locks, way, boot, res⟩ ∧ Below w.heap.size w W1 := by
    refine ⟨_, rfl, ?_, ?_, ?_, ((Below.refl _ _).alloc (Nat.le_refl _) _).alloc (by simp) _⟩
    · exact (cell_of_row _ w.heap.size 24 #[c0, c1, c2, c3, c4, c5, c6, c7, c8, c9, c10, c11, c12, c13, c14, c15, c16, c17, c18, c19, c20, c21, c22, c23, .int .i64 el, .int .i64 ma, fe] 34 (0, 0) ((((Below.refl (w.heap.size + 1) (w.alloc _)).alloc (by simp) _).block _ (by omega)).trans (heap_alloc_new _ _)))
    · exact (cell_of_row _ w.heap.size 25 #[c0, c1, c2, c3, c4, c5, c6, c7, c8, c9, c10, c11, c12, c13, c14, c15, c16, c17, c18, c19, c20, c21, c22, c23, .int .i64 el, .int .i64 ma, fe] 34 (0, 0) ((((Below.refl (w.heap.size + 1) (w.alloc _)).alloc (by simp) _).block _ (by omega)).trans (heap_alloc_new _ _)))
    · exact heap_alloc2_new _ _ _
  rw [hW]
  clear hW
  have I1 := Lib.hid hI
  have B1 := Lib.hid hb
  clear hI hb
  refine wp_scope_jumps 0 (fun a w' => ∃ (v0 v1 v2 v3 v4 v5 v6 v7 v9 v10 v11 v12 v13 v14 v15 v16 v17 v18 v19 v20 v21 v22 v23 v24 v25 v26 v27 v28 v29 v30 v31 v32 v33 v34 v35 v36 v37 v38 v39 v40 v41 v42 v43 v44 v45 v46 v47 v48 v49 v50 v51 v52 v53 v54 v55 v56 v57 v58 v59 v60 v61 v62 v63 v64 v65 v66 v67 v68 : Value), a = ⟨#[v0, v1, v2, v3, v4, v5, v6, v7, .int .i64 r, v9, v10, v11, v12, v13, v14, v15, v16, v17, v18, v19, v20, v21, v22, v23, v24, v25, v26, v27, v28, v29, v30, v31, v32, v33, v34, v35, v36, v37, v38, v39, v40, v41, v42, v43, v44, v45, v46, v47, v48, v49, v50, v51, v52, v53, v54, v55, v56, v57, v58, v59, v60, v61, v62, v63, v64, v65, v66, v67, v68], []⟩ ∧ Below w.heap.size w w') (fun _ _ => 0) rfl ?first ?pass
  case pass =>
    rintro a w' ⟨v0, v1, v2, v3, v4, v5, v6, v7, v9, v10, v11, v12, v13, v14, v15, v16, v17, v18, v19, v20, v21, v22, v23, v24, v25, v26, v27, v28, v29, v30, v31, v32, v33, v34, v35, v36, v37, v38, v39, v40, v41, v42, v43, v44, v45, v46, v47, v48, v49, v50, v51, v52, v53, v54, v55, v56, v57, v58, v59, v60, v61, v62, v63, v64, v65, v66, v67, v68, rfl, hb⟩
    go_wp2_with fail
    rw [jump_ret]
    go_ret
    exact ⟨by have := HR.out; subst this; rfl, hb⟩
  case first =>
    go_wp2_with fail
    refine (K1.out _).mono ?_
    rintro e w' ⟨rfl, rfl⟩
    obtain ⟨x0, x1, x2, x3, x4, x5, x6, x7, x8, x9, x10, x11, x12⟩ := I1.out.cells
    cases h4 : (mode == 4)
    case true =>
      obtain rfl : r = 4 := by rw [← HR.out, h4]; rfl
      go_wp2_with fail
      go_step3
      refine then_goto (jump_goto ?_)
      exact ⟨_, _, _, _, _, _, _, _, _, _, _, _, _, _, _, _, _, _, _, _, _, _, _, _, _, _, _, _, _, _, _, _, _, _, _, _, _, _, _, _, _, _, _, _, _, _, _, _, _, _, _, _, _, _, _, _, _, _, _, _, _, _, _, _, _, _, _, _, rfl, B1.out⟩
    cases land
    case true =>
      obtain rfl : r = 4 := by rw [← HR.out]; simp
      go_wp2_with fail
      go_step3
      refine then_goto (jump_goto ?_)
      exact ⟨_, _, _, _, _, _, _, _, _, _, _, _, _, _, _, _, _, _, _, _, _, _, _, _, _, _, _, _, _, _, _, _, _, _, _, _, _, _, _, _, _, _, _, _, _, _, _, _, _, _, _, _, _, _, _, _, _, _, _, _, _, _, _, _, _, _, _, _, rfl, B1.out⟩
    go_wp2_with fail
    refine (K3.out _).mono ?_
    rintro e W2 ⟨rfl, hb2⟩
    have I2 := Lib.hid (I1.out.below hb2)
    have B2 := Lib.hid (B1.out.trans (hb2.mono B1.out.size))
    clear I1 B1 hb2 x0 x1 x2 x3 x4 x5 x6 x7 x8 x9 x10 x11 x12
    obtain ⟨x0, x1, x2, x3, x4, x5, x6, x7, x8, x9, x10, x11, x12⟩ := I2.out.cells
    cases b1
    case true =>
      obtain rfl : r = 4 := by rw [← HR.out]; simp
      go_wp2_with fail
      go_step3
      refine then_goto (jump_goto ?_)
      exact ⟨_, _, _, _, _, _, _, _, _, _, _, _, _, _, _, _, _, _, _, _, _, _, _, _, _, _, _, _, _, _, _, _, _, _, _, _, _, _, _, _, _, _, _, _, _, _, _, _, _, _, _, _, _, _, _, _, _, _, _, _, _, _, _, _, _, _, _, _, rfl, B2.out⟩
    simp only [h4] at HR
    cases ext
    case' true => cases u3
    case true.true =>
      obtain rfl : r = 5 := by rw [← HR.out]; rfl
      go_wp2_with fail
      go_step3
      refine then_goto (jump_goto ?_)
      exact ⟨_, _, _, _, _, _, _, _, _, _, _, _, _, _, _, _, _, _, _, _, _, _, _, _, _, _, _, _, _, _, _, _, _, _, _, _, _, _, _, _, _, _, _, _, _, _, _, _, _, _, _, _, _, _, _, _, _, _, _, _, _, _, _, _, _, _, _, _, rfl, B2.out⟩
    all_goals
      go_wp2_with fail
    all_goals
      cases ret
      · refine wp_region_still_tail 7 (by kernel_rfl) (by kernel_rfl) ?_
        change wpStill _ _ (World.drew _) (fun a' => wpList _ _ _ _ a' (World.drew _)) _ _
        simp only [List.take_succ_cons, List.take_zero, List.drop_succ_cons, List.drop_zero]
        repeat still_step
        still_call ((K2.out _).mono fun _ _ h => ⟨h.1, h.2.symm⟩)
        repeat still_step
        refine wpStill_nil ?_
        go_wp2_with fail
        refine (K4.out _).mono ?_
        rintro e W3 ⟨rfl, hb3⟩
        have I3 := Lib.hid (InC.below (w := W2.drew) I2.out hb3)
        have B3 := Lib.hid (B2.out.drew.trans (hb3.mono B2.out.drew.size))
        clear I2 B2 hb3 x0 x1 x2 x3 x4 x5 x6 x7 x8 x9 x10 x11 x12
        obtain ⟨x0, x1, x2, x3, x4, x5, x6, x7, x8, x9, x10, x11, x12⟩ := I3.out.cells
        cases b2
        · cases way
          · obtain rfl : r = 3 := by rw [← HR.out]; simp
            go_wp2_with fail
            go_step3
            refine then_goto (jump_goto ?_)
            exact ⟨_, _, _, _, _, _, _, _, _, _, _, _, _, _, _, _, _, _, _, _, _, _, _, _, _, _, _, _, _, _, _, _, _, _, _, _, _, _, _, _, _, _, _, _, _, _, _, _, _, _, _, _, _, _, _, _, _, _, _, _, _, _, _, _, _, _, _, _, rfl, B3.out⟩
          · cases locks
            · cases u0
              · obtain rfl : r = 2 := by rw [← HR.out]; simp
                go_wp2_with fail
                go_step3
                refine then_goto (jump_goto ?_)
                exact ⟨_, _, _, _, _, _, _, _, _, _, _, _, _, _, _, _, _, _, _, _, _, _, _, _, _, _, _, _, _, _, _, _, _, _, _, _, _, _, _, _, _, _, _, _, _, _, _, _, _, _, _, _, _, _, _, _, _, _, _, _, _, _, _, _, _, _, _, _, rfl, B3.out⟩
              · cases u1
                · obtain rfl : r = 2 := by rw [← HR.out]; simp
                  go_wp2_with fail
                  go_step3
                  refine then_goto (jump_goto ?_)
                  exact ⟨_, _, _, _, _, _, _, _, _, _, _, _, _, _, _, _, _, _, _, _, _, _, _, _, _, _, _, _, _, _, _, _, _, _, _, _, _, _, _, _, _, _, _, _, _, _, _, _, _, _, _, _, _, _, _, _, _, _, _, _, _, _, _, _, _, _, _, _, rfl, B3.out⟩
                · cases u2
                  · obtain rfl : r = 2 := by rw [← HR.out]; simp
                    go_wp2_with fail
                    go_step3
                    refine then_goto (jump_goto ?_)
                    exact ⟨_, _, _, _, _, _, _, _, _, _, _, _, _, _, _, _, _, _, _, _, _, _, _, _, _, _, _, _, _, _, _, _, _, _, _, _, _, _, _, _, _, _, _, _, _, _, _, _, _, _, _, _, _, _, _, _, _, _, _, _, _, _, _, _, _, _, _, _, rfl, B3.out⟩
                  · obtain rfl : r = 1 := by rw [← HR.out]; simp
                    go_wp2_with fail
                    go_step3
                    go_wp2_with fail
                    rw [jump_ret]
                    go_ret
                    exact ⟨by rw [h4]; rfl, B3.out⟩
            · obtain rfl : r = 2 := by rw [← HR.out]; simp
              go_wp2_with fail
              go_step3
              refine then_goto (jump_goto ?_)
              exact ⟨_, _, _, _, _, _, _, _, _, _, _, _, _, _, _, _, _, _, _, _, _, _, _, _, _, _, _, _, _, _, _, _, _, _, _, _, _, _, _, _, _, _, _, _, _, _, _, _, _, _, _, _, _, _, _, _, _, _, _, _, _, _, _, _, _, _, _, _, rfl, B3.out⟩
        · obtain rfl : r = 3 := by rw [← HR.out]; simp
          go_wp2_with fail
          go_step3
          refine then_goto (jump_goto ?_)
          exact ⟨_, _, _, _, _, _, _, _, _, _, _, _, _, _, _, _, _, _, _, _, _, _, _, _, _, _, _, _, _, _, _, _, _, _, _, _, _, _, _, _, _, _, _, _, _, _, _, _, _, _, _, _, _, _, _, _, _, _, _, _, _, _, _, _, _, _, _, _, rfl, B3.out⟩
      · obtain rfl : r = 3 := by rw [← HR.out]; simp
        go_quiet (fail)
        go_wp2_with fail
        go_step3
        refine then_goto (jump_goto ?_)
        exact ⟨_, _, _, _, _, _, _, _, _, _, _, _, _, _, _, _, _, _, _, _, _, _, _, _, _, _, _, _, _, _, _, _, _, _, _, _, _, _, _, _, _, _, _, _, _, _, _, _, _, _, _, _, _, _, _, _, _, _, _, _, _, _, _, _, _, _, _, _, rfl, below_drewN B2.out _⟩
end Go.Proofs.Ytomjhoaffbjkgaa
