/- The volts without load, what charge they say, are what the chapter says. Conditions: none. -/
import Derived.Test.YtakdoagigbjngaaDoorSagF
namespace Go.Proofs.YtakdoagigbjngaaDoor
open Go.RowKit Go.BigFrame
set_option linter.unusedVariables false
theorem quiet_load_row {P : Program} {o : Oper} {a : Act} {C : World → Prop} {K : Act → Prop} (ty : TypeId) (x : Operand) (ho : o.op = .load ty x)
    (g : Nat) (hx : a.eval x = .pointer (some ⟨g, 0, none⟩)) (t : TypeId) (cs : Array Value) (fr : Nat × Nat) (d : TypeDesc) (hg : ∀ w, C w → w.heap[g]? = some (.cells cs t fr))
    (hu : P.underlying ty = some d) (hd : (match d with | .struct _ | .array _ _ => true | _ => false) = true) (hi : (P.info? ty).map (·.size) = some cs.size)
    (hk : K (a.put o.dst (.agg cs))) : o.quiet P a C K := by
  refine ⟨.agg cs, fun w hw => ?_, hk⟩
  unfold Oper.quietAt execOp
  simp only [ho, hx, Instr.loadAt, Instr.sureAddr, Sem.run_bind, Sem.run_pure, Result.andThen_ok, run_loadVar_row w g t ty cs fr d (hg w hw) hu hd hi]
  exact ⟨rfl, rfl⟩
theorem configO (n m k : Int) (w : World) :
    Calls Tryd.prog 12 #[.int .i64 n, .int .i64 m, .int .i64 k] w fun e w' => ∃ A O, e = .returned (.agg A) ∧ CA A O 100 ∧ Pts w' ⟨O, 0, none⟩ 4 ocvX ocvY ∧ w.heap.size ≤ O ∧ Below w.heap.size w w' := by
  refine (configC n m k w).mono ?_
  rintro e w1 ⟨O, fa, fl, fc, rfl, hO, hocv, hb1⟩
  exact ⟨_, O, rfl, CA.of _ O fa fl fc, ocv_pts hocv, hO, hb1⟩
theorem Pts.only {w w' : World} {B O n : Nat} {x y : Nat → Int} (h : Pts w ⟨O, 0, none⟩ n x y) (ho : Only B w w') (hne : O ≠ B) : Pts w' ⟨O, 0, none⟩ n x y := by
  intro i hi
  obtain ⟨h1, h2⟩ := h i hi
  have e : (⟨O, 0, none⟩ : Addr).add (i * 2) = ⟨O, i * 2, none⟩ := by simp [Addr.add]; omega
  rw [e] at h1 h2 ⊢
  exact ⟨ho.cell h1 hne, ho.cell h2 hne⟩
def sayOk (v : Int) (fv fa : Bool) : Bool := fv && fa && decide (10000 ≤ v)
def sayLo (v amp : Int) (fv fa : Bool) : Int := if sayOk v fv fa = true then backLo 4 ocvX ocvY (restL v amp 100) else 0
def sayHi (v amp : Int) (fv fa : Bool) : Int := if sayOk v fv fa = true then backHi 4 ocvX ocvY (restH v amp 100) else 0
theorem sagChargeG {A : Array Value} {O : Nat} (ca : CA A O 100) (v amp : Int) (fv fa : Bool) (hv : -1048576 ≤ v ∧ v ≤ 1048576) (ha : -1048576 ≤ amp ∧ amp ≤ 1048576) (w : World) (hp : Pts w ⟨O, 0, none⟩ 4 ocvX ocvY) :
    Calls Tryd.prog 13 #[.agg A, .agg #[.int .i64 v, .bool fv], .agg #[.int .i64 amp, .bool fa]] w fun e2 w' => e2 = .returned (.tuple #[.agg #[.int .i64 (sayLo v amp fv fa), .int .i64 (sayHi v amp fv fa)], .bool (sayOk v fv fa)]) ∧ Below w.heap.size w w' := by
  cases hk : sayOk v fv fa
  · rw [sayLo, sayHi, hk, if_neg Bool.false_ne_true, if_neg Bool.false_ne_true]
    exact sagChargeNo A v amp fv fa ca.g9 hk w
  · rw [sayLo, sayHi, hk, if_pos rfl, if_pos rfl]
    simp only [sayOk, Bool.and_eq_true, decide_eq_true_eq] at hk
    obtain ⟨⟨rfl, rfl⟩, h1⟩ := hk
    exact sagChargeYes A v amp 100 ⟨O, 0, none⟩ 4 4 ocvX ocvY ocv_ok ca.hs ca.g9 ca.g16 ca.g17 ca.g20 ⟨h1, hv.2⟩ ha (by omega) w hp
theorem saggedG {A : Array Value} {O : Nat} (ca : CA A O 100) (v amp : Int) (fv fa : Bool) (hv : -1048576 ≤ v ∧ v ≤ 1048576) (ha : -1048576 ≤ amp ∧ amp ≤ 1048576) (w : World) (hp : Pts w ⟨O, 0, none⟩ 4 ocvX ocvY) :
    Calls Tryd.prog 14 #[.agg A, .agg #[.int .i64 v, .bool fv], .agg #[.int .i64 amp, .bool fa]] w fun e2 w' => e2 = .returned (.tuple #[.agg #[.int .i64 (sayLo v amp fv fa), .int .i64 (sayHi v amp fv fa)], .bool (sayOk v fv fa)]) ∧ Below w.heap.size w w' := by
  cases hk : sayOk v fv fa
  · rw [sayLo, sayHi, hk, if_neg Bool.false_ne_true, if_neg Bool.false_ne_true]
    exact saggedNo A v amp fv fa ca.g9 hk w
  · rw [sayLo, sayHi, hk, if_pos rfl, if_pos rfl]
    simp only [sayOk, Bool.and_eq_true, decide_eq_true_eq] at hk
    obtain ⟨⟨rfl, rfl⟩, h1⟩ := hk
    exact saggedYes A v amp 100 ⟨O, 0, none⟩ 4 4 ocvX ocvY ocv_ok ca.hs ca.g9 ca.g16 ca.g17 ca.g20 ⟨h1, hv.2⟩ ha (by omega) w hp
/-- Two sample boxes, a configuration's box, its table. -/
structure SS (w wr : World) (B : Nat) (A : Array Value) (O : Nat) (v m : Int) (fv fa : Bool) : Prop where
  sa : wr.heap[w.heap.size]? = some (.cells #[.int .i64 v, .bool fv] 23 (0, 0))
  sb : wr.heap[w.heap.size + 1]? = some (.cells #[.int .i64 m, .bool fa] 23 (0, 0))
  row : wr.heap[B]? = some (.cells A 28 (0, 0))
  pts : Pts wr ⟨O, 0, none⟩ 4 ocvX ocvY
  lo : Below w.heap.size w wr
theorem SS.below {w wr w' : World} {B O : Nat} {A : Array Value} {v m : Int} {fv fa : Bool} (h : SS w wr B A O v m fv fa) (hb : Below wr.heap.size wr w') : SS w w' B A O v m fv fa :=
  ⟨(hb.block _ (Array.getElem?_eq_some_iff.1 h.sa).1).trans h.sa, (hb.block _ (Array.getElem?_eq_some_iff.1 h.sb).1).trans h.sb, (hb.block _ (Array.getElem?_eq_some_iff.1 h.row).1).trans h.row, h.pts.below hb, h.lo.trans (hb.mono h.lo.size)⟩
theorem SS.alloc {w wr : World} {B O : Nat} {A : Array Value} {v m : Int} {fv fa : Bool} (h : SS w wr B A O v m fv fa) (o : Obj) : SS w (wr.alloc o) B A O v m fv fa :=
  h.below ((Below.refl _ _).alloc (Nat.le_refl _) o)
theorem SS.setA {w wr : World} {B O : Nat} {A : Array Value} {v m : Int} {fv fa : Bool} (h : SS w wr B A O v m fv fa) (h1 : w.heap.size + 1 < B) (h2 : w.heap.size + 1 < O) (v' : Int) : SS w (wr.setCell ⟨w.heap.size, 0, none⟩ (.int .i64 v')) B A O v' m fv fa := by
  have o := Only.set w.heap.size 0 wr (.int .i64 v')
  refine ⟨?_, o.row h.sb (by omega), o.row h.row (by omega), h.pts.only o (by omega), h.lo.trans (o.below (Nat.le_refl _) h.lo.size)⟩
  have := h.sa
  simp [World.setCell, Array.getElem?_modify, this]
theorem SS.setB {w wr : World} {B O : Nat} {A : Array Value} {v m : Int} {fv fa : Bool} (h : SS w wr B A O v m fv fa) (h1 : w.heap.size + 1 < B) (h2 : w.heap.size + 1 < O) (m' : Int) : SS w (wr.setCell ⟨w.heap.size + 1, 0, none⟩ (.int .i64 m')) B A O v m' fv fa := by
  have o := Only.set (w.heap.size + 1) 0 wr (.int .i64 m')
  refine ⟨o.row h.sa (by omega), ?_, o.row h.row (by omega), h.pts.only o (by omega), h.lo.trans (o.below (by omega) h.lo.size)⟩
  have := h.sb
  simp [World.setCell, Array.getElem?_modify, this]
set_option maxRecDepth 20000 in
set_option maxHeartbeats 4000000 in
theorem walkSagSays (a0 : Int) (a1 : Int) (a2 : Int) (a3_0 : Int) (a3_1 : Bool) (a4_0 : Int) (a4_1 : Bool) (w : World) (w0 : (Lit.int .i64 a0).wf = true) (w1 : (Lit.int .i64 a1).wf = true) (w2 : (Lit.int .i64 a2).wf = true) (w3_0 : (Lit.int .i64 a3_0).wf = true) (w4_0 : (Lit.int .i64 a4_0).wf = true) :
    Calls Tryd.prog 3 #[.int .i64 a0, .int .i64 a1, .int .i64 a2, .agg #[.int .i64 a3_0, .bool a3_1], .agg #[.int .i64 a4_0, .bool a4_1]] w fun e w' => e = .returned (.bool true) ∧ Below w.heap.size w w' := by
  obtain ⟨b3, b3'⟩ := bounds_i64 w3_0
  obtain ⟨b4, b4'⟩ := bounds_i64 w4_0
  clear w0 w1 w2 w3_0 w4_0
  go_enter Tryd.func3, Tryd.ntmps3
  go_wp2_with fail
  have B0 := Lib.hid (Bx2.new w #[.int .i64 a3_0, .bool a3_1] 23 #[.int .i64 a4_0, .bool a4_1] 23)
  generalize World.alloc (World.alloc w _) _ = W0 at *
  refine (sagFirst _).mono ?_
  rintro e w1 ⟨rfl, hb1⟩
  have B1 := Lib.hid (B0.out.below hb1)
  clear hb1 B0
  go_wp2_with fail
  refine (configO a0 a1 a2 _).mono ?_
  rintro e w2 ⟨A, O, rfl, ca, hp1, hO, hb2⟩
  have lt1 := (Array.getElem?_eq_some_iff.1 B1.out.row2).1
  have B2 := Lib.hid (B1.out.below hb2)
  have CC := Lib.hid ca
  have PP := Lib.hid hp1
  have hs := ca.hs
  have hi := ca.hi
  have lO : w.heap.size + 1 < O := by omega
  have lB : w.heap.size + 1 < w2.heap.size := by have := hb2.size; omega
  clear ca hp1 hb2 B1 hO lt1
  go_wp2_with fail
  refine upon_fresh (cells := A) rfl (by rw [hs]; rfl) CC.out.one ?_
  intro W bW sW hW
  have B3 := B2.out.below bW
  have S0 := Lib.hid (show SS w W w2.heap.size A O a3_0 a4_0 a3_1 a4_1 from ⟨B3.row1, B3.row2, hW, PP.out.below bW, B3.lo⟩)
  clear bW hW PP sW B3 B2
  dsimp only [Act.put]
  have x0 : W.cell? ⟨w.heap.size, 0, none⟩ = some (.int .i64 a3_0) := cell_of_row _ _ 0 _ _ _ S0.out.sa
  have xf : W.frozen? ⟨w.heap.size, 0, none⟩ = false := by have := S0.out.sa; simp [World.frozen?, this]
  have t3 := tmod_b a3_0 60001 (by omega)
  have t4 := tmod_b a4_0 500001 (by omega)
  go_upto_region 6 with fail
  have u3 : 0 ≤ a3_0.tmod 60001 % 60001 ∧ a3_0.tmod 60001 % 60001 < 60001 := ⟨Int.emod_nonneg _ (by omega), Int.emod_lt_of_pos _ (by omega)⟩
  generalize a3_0.tmod 60001 % 60001 = V at *
  have S1 := Lib.hid (S0.out.setA lB lO V)
  clear x0 xf S0
  generalize World.setCell W _ _ = W1 at *
  have x0 : W1.cell? ⟨w.heap.size + 1, 0, none⟩ = some (.int .i64 a4_0) := cell_of_row _ _ 0 _ _ _ S1.out.sb
  have xf : W1.frozen? ⟨w.heap.size + 1, 0, none⟩ = false := by have := S1.out.sb; simp [World.frozen?, this]
  go_upto_region 7 with fail
  generalize a4_0.tmod 500001 = M at *
  have S2 := Lib.hid (S1.out.setB lB lO M)
  clear x0 xf S1 b3 b3' b4 b4' t3
  generalize World.setCell W1 _ _ = W2 at *
  have x0 : W2.cell? ⟨w.heap.size, 0, none⟩ = some (.int .i64 V) := cell_of_row _ _ 0 _ _ _ S2.out.sa
  have x1 : W2.cell? ⟨w.heap.size, 1, none⟩ = some (.bool a3_1) := cell_of_row _ _ 1 _ _ _ S2.out.sa
  have y0 : W2.cell? ⟨w.heap.size + 1, 0, none⟩ = some (.int .i64 M) := cell_of_row _ _ 0 _ _ _ S2.out.sb
  have y1 : W2.cell? ⟨w.heap.size + 1, 1, none⟩ = some (.bool a4_1) := cell_of_row _ _ 1 _ _ _ S2.out.sb
  go_wp2_with (refine wpList_load_row_g (by kernel_rfl) 28 _ rfl w2.heap.size rfl 28 _ (0, 0) _ S2.out.row Tryd.underlying28 rfl hi ?_)
  refine (sagChargeG CC.out V M a3_1 a4_1 (by omega) (by omega) _ S2.out.pts).mono ?_
  rintro e w3 ⟨rfl, hb⟩
  have S3 := Lib.hid (S2.out.below hb)
  clear hb S2 x0 x1 y0 y1
  obtain ⟨L, hL⟩ : ∃ k, sayLo V M a3_1 a4_1 = k := ⟨_, rfl⟩
  obtain ⟨H, hH⟩ : ∃ k, sayHi V M a3_1 a4_1 = k := ⟨_, rfl⟩
  obtain ⟨K, hK⟩ : ∃ k, sayOk V a3_1 a4_1 = k := ⟨_, rfl⟩
  have HE := Lib.hid (And.intro hL (And.intro hH hK))
  rw [hL, hH, hK]
  clear hL hH hK
  have x0 := fun (o : Obj) => (show (w3.alloc o).cell? ⟨w.heap.size, 0, none⟩ = some (.int .i64 V) from cell_of_row _ _ 0 _ _ _ (S3.out.alloc o).sa)
  have x1 := fun (o : Obj) => (show (w3.alloc o).cell? ⟨w.heap.size, 1, none⟩ = some (.bool a3_1) from cell_of_row _ _ 1 _ _ _ (S3.out.alloc o).sa)
  have y0 := fun (o : Obj) => (show (w3.alloc o).cell? ⟨w.heap.size + 1, 0, none⟩ = some (.int .i64 M) from cell_of_row _ _ 0 _ _ _ (S3.out.alloc o).sb)
  have y1 := fun (o : Obj) => (show (w3.alloc o).cell? ⟨w.heap.size + 1, 1, none⟩ = some (.bool a4_1) from cell_of_row _ _ 1 _ _ _ (S3.out.alloc o).sb)
  go_wp2_with (refine wpList_load_row_g (by kernel_rfl) 28 _ rfl w2.heap.size rfl 28 _ (0, 0) _ (S3.out.alloc _).row Tryd.underlying28 rfl hi ?_)
  refine (saggedG CC.out V M a3_1 a4_1 (by omega) (by omega) _ (S3.out.alloc _).pts).mono ?_
  rintro e w4 ⟨rfl, hb⟩
  have S4 := Lib.hid ((S3.out.alloc _).below hb)
  have P4 := Lib.hid ((Bx.new w3 #[.int .i64 L, .int .i64 H] 31).below hb)
  clear hb S3 x0 x1 y0 y1
  rw [HE.out.1, HE.out.2.1, HE.out.2.2]
  go_upto_region 9 with fail
  have S5 := Lib.hid (S4.out.alloc (.cells #[.int .i64 L, .int .i64 H] 31))
  have P5 := Lib.hid (P4.out.below ((Below.refl _ _).alloc (Nat.le_refl _) (.cells #[.int .i64 L, .int .i64 H] 31)))
  have Q5 := Lib.hid (Bx.new w4 #[.int .i64 L, .int .i64 H] 31)
  clear S4 P4 HE
  generalize World.alloc w4 _ = W5 at *
  have hB : W5.heap.size ≤ W5.heap.size := Nat.le_refl _
  have x0 := fun d => below_cell (reach_below W5.heap.size W5 d) (show W5.cell? ⟨w.heap.size, 0, none⟩ = some (.int .i64 V) from cell_of_row _ _ 0 _ _ _ S5.out.sa)
  have y0 := fun d => below_cell (reach_below W5.heap.size W5 d) (show W5.cell? ⟨w.heap.size + 1, 0, none⟩ = some (.int .i64 M) from cell_of_row _ _ 0 _ _ _ S5.out.sb)
  have p0 := fun d => below_cell (reach_below W5.heap.size W5 d) (show W5.cell? ⟨w3.heap.size, 0, none⟩ = some (.int .i64 L) from P5.out.cell 0 rfl)
  have p1 := fun d => below_cell (reach_below W5.heap.size W5 d) (show W5.cell? ⟨w3.heap.size, 1, none⟩ = some (.int .i64 H) from P5.out.cell 1 rfl)
  have q0 := fun d => below_cell (reach_below W5.heap.size W5 d) (show W5.cell? ⟨w4.heap.size, 0, none⟩ = some (.int .i64 L) from Q5.out.cell 0 rfl)
  have q1 := fun d => below_cell (reach_below W5.heap.size W5 d) (show W5.cell? ⟨w4.heap.size, 1, none⟩ = some (.int .i64 H) from Q5.out.cell 1 rfl)
  have K1 := Lib.hid fun (w : World) => sagRestC A V M 100 CC.out.g16 CC.out.g17 (by omega) (by omega) (by omega) w
  have K2 := Lib.hid fun (w : World) => refRestC A V M 100 CC.out.g16 CC.out.g17 (by omega) (by omega) (by omega) w
  have K3 := Lib.hid fun (w : World) => sameSpan (restL V M 100) (restH V M 100) (restL V M 100) (restH V M 100) w
  have K4 := Lib.hid fun (w : World) => sameSpan L H L H w
  rw [sameB_self] at K3 K4
  have HG := Lib.hid (fun (w' : World) (hw : ∃ d, w' = reach W5.heap.size W5 d) => (show w'.heap[w2.heap.size]? = some (.cells A 28 (0, 0)) by obtain ⟨d, rfl⟩ := hw; exact (S5.out.below (reach_below _ _ d)).row))
  have ek : (K == K) = true := by simp
  refine wp_region_reach W5.heap.size (by kernel_rfl) (by kernel_rfl) ?_
  repeat (first | (go_big_quiet_want; refine quiet_load_row 28 _ rfl w2.heap.size rfl 28 _ (0, 0) _ HG.out Tryd.underlying28 rfl hi ?_; go_big_quiet_on; simp only [Act.put, List.setIfInBounds_toArray, List.set_cons_succ, List.set_cons_zero]) | go_big_quiet_step ((first | (go_at_call 16; with_reducible exact reach_call hB (K1.out _)) | (go_at_call 17; with_reducible exact reach_call hB (K2.out _)) | (go_at_call 15; first | with_reducible exact reach_call hB (K3.out _) | with_reducible exact reach_call hB (K4.out _)))))
  refine wpQuiet_nil ?_
  rintro w' ⟨d, rfl⟩
  go_wp2_with fail
  go_returns
  exact ⟨rfl, S5.out.lo.trans ((reach_below W5.heap.size W5 d).mono S5.out.lo.size)⟩
end Go.Proofs.YtakdoagigbjngaaDoor
