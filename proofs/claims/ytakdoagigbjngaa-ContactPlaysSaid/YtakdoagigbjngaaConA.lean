/- ContactPlays holds: each call returns true. Conditions: the arguments are numbers of 64 bits, slices of cycles and of numbers. -/
import Derived.Test.YtakdoagigbjngaaConStp
import Derived.Test.YtakdoagigbjngaaFlat
namespace Go.Proofs.Ytakdoagigbjngaa
open Go.RowKit
set_option linter.unusedVariables false
def i01 (b : Bool) : Int := if b then 1 else 0
theorem backC (c f r : Bool) (w : World) :
    Calls Try.prog 21 #[.agg #[.bool c, .bool f, .bool r]] w fun e w' => e = .returned (.agg #[.int .i64 (i01 r), .bool f]) ∧ Below w.heap.size w w' := by
  have B0 := Below.refl w.heap.size w
  cases r
  all_goals
    have BB := Lib.hid fun o1 o2 o3 => ((B0.alloc B0.size o1).alloc (B0.alloc B0.size o1).size o2).alloc ((B0.alloc B0.size o1).alloc (B0.alloc B0.size o1).size o2).size o3
    clear B0
    go_enter Try.func21, Try.ntmps21
    go_wp2_with fail
    go_returns
    exact ⟨rfl, BB.out _ _ _⟩
/-- The contactor of the code, made of the document's. -/
def RK.ck (r : RK) : CK := ⟨r.D, r.L, r.c, r.s, r.g, i01 r.r, r.f, r.p, r.q⟩
structure Fit (r : RK) (i : Nat) : Prop where
  nf : r.n = true ∨ r.f = false
  s1 : -2 ≤ r.s
  s2 : r.s ≤ 1000
  g1 : 0 ≤ r.g
  g2 : r.g ≤ i
theorem i01_1 (b : Bool) : (i01 b == 1) = b := by cases b <;> rfl
theorem i01_0 (b : Bool) : (i01 b == 0) = !b := by cases b <;> rfl
theorem ck_step (r : RK) (t b f : Bool) : r.ck.step t (i01 b) f = (r.step t (i01 b) f).ck := by
  obtain ⟨D, L, c, s, g, n, f0, r0, p, q⟩ := r
  unfold CK.step RK.step CK.judge RK.judge CK.cl CK.tell RK.tell CK.look RK.look RK.ck
  simp only [i01_1]
  cases htc : (t == c) <;> cases f <;> simp only [Bool.true_and, if_true, if_false, Bool.false_eq_true]
  all_goals (repeat' split) <;> simp_all
theorem ck_cl {r : RK} {i : Nat} (h : Fit r i) : r.ck.cl = r.cl := by
  unfold CK.cl RK.cl RK.ck
  simp only [i01_1]
  rcases h.nf with h | h <;> rw [h] <;> simp
theorem ck_op {r : RK} {i : Nat} (h : Fit r i) : r.ck.op = r.op := by
  unfold CK.op RK.op RK.ck
  simp only [i01_0]
  rcases h.nf with h | h <;> rw [h] <;> simp
theorem Fit.step {r : RK} {i : Nat} (h : Fit r i) (t : Bool) (v : Int) (f : Bool) : Fit (r.step t v f) (i + 1) := by
  obtain ⟨D, L, c, s, g, n, f0, r0, p, q⟩ := r
  obtain ⟨h1, h2, h3, h4, h5⟩ := h
  simp only at h1 h2 h3 h4 h5
  unfold RK.step RK.judge RK.tell RK.look
  repeat' split
  all_goals (refine ⟨Or.inl rfl, ?_, ?_, ?_, ?_⟩ <;> (simp only []; omega))
theorem Fit.set {r : RK} {i : Nat} (h : Fit r i) (x y : Bool) : Fit { r with p := x, q := y } i := ⟨h.nf, h.s1, h.s2, h.g1, h.g2⟩
theorem Rt.put {w : World} {B : Nat} {k k' : RK} (h : Rt w B k) (j : Nat) (x : Value) (e : k.arr.setIfInBounds j x = k'.arr) : Rt (w.setCell ⟨B, j, none⟩ x) B k' := by
  unfold Rt; rw [← e]; exact row_set h j x
theorem three_of {z : List Value} (h : oks [.bool, .bool, .bool] z) : ∃ a b c : Bool, z = [.bool a, .bool b, .bool c] := by
  obtain ⟨_, _, rfl, ⟨a, rfl⟩, h1⟩ := oks_cons h
  obtain ⟨_, _, rfl, ⟨b, rfl⟩, h2⟩ := oks_cons h1
  obtain ⟨_, _, rfl, ⟨c, rfl⟩, h3⟩ := oks_cons h2
  obtain rfl := oks_nil h3
  exact ⟨a, b, c, rfl⟩
theorem three_at {w wr : World} {x : Addr} {o : Nat} {a b c : Bool} (hx : ∀ (j : Nat) u, [Value.bool a, .bool b, .bool c][j]? = some u → w.cell? (x.add (o + j)) = some u) (hb : Below w.heap.size w wr) :
    wr.cell? (x.add o) = some (.bool a) ∧ wr.cell? ⟨(x.add o).block, (x.add o).off + 1, none⟩ = some (.bool b) ∧ wr.cell? ⟨(x.add o).block, (x.add o).off + 2, none⟩ = some (.bool c) :=
  ⟨below_cell hb (hx 0 _ rfl),
   (show wr.cell? ((x.add o).add 1) = some (.bool b) by rw [Addr.add_add]; exact below_cell hb (hx 1 _ rfl)),
   (show wr.cell? ((x.add o).add 2) = some (.bool c) by rw [Addr.add_add]; exact below_cell hb (hx 2 _ rfl))⟩
set_option maxRecDepth 100000 in
set_option maxHeartbeats 8000000 in
theorem walkContactPlays (a0 : Int) (a1 : Int) (a2 : Option Addr) (len2 cap2 : Nat) (z2 : Nat → List Value) (a3 : Option Addr) (len3 cap3 : Nat) (z3 : List Int) (w : World) (w0 : (Lit.int .i64 a0).wf = true) (w1 : (Lit.int .i64 a1).wf = true) (w2 : CameS [.bool, .bool, .bool] w a2 len2 cap2 z2) (w3 : CameI .i64 w a3 len3 cap3 z3) :
    Calls Try.prog 4 #[.int .i64 a0, .int .i64 a1, .slice a2 len2 cap2, .slice a3 len3 cap3] w fun e w' => e = .returned (.bool true) ∧ Below w.heap.size w w' := by
  have C2 := Lib.hid fun i hi => w2.at i hi
  have C3 := Lib.hid fun i hi => w3.at i hi
  clear w2 w3 w0 w1
  by_cases h1 : 200 < len2
  · go_enter Try.func4, Try.ntmps4
    go_wp2_with fail
    refine (first16 _).mono ?_
    rintro e w0 ⟨rfl, hb0⟩
    have T0 := Lib.hid hb0
    clear hb0
    go_wp2_with fail
    go_ret
    exact ⟨rfl, T0.out⟩
  by_cases h2 : 200 < len3
  · go_enter Try.func4, Try.ntmps4
    go_wp2_with fail
    refine (first16 _).mono ?_
    rintro e w0 ⟨rfl, hb0⟩
    have T0 := Lib.hid hb0
    clear hb0
    go_wp2_with fail
    go_ret
    exact ⟨rfl, T0.out⟩
  go_enter Try.func4, Try.ntmps4
  go_wp2_with fail
  refine (first16 _).mono ?_
  rintro e w0 ⟨rfl, hb0⟩
  have T0 := Lib.hid hb0
  clear hb0
  go_wp2_with fail
  refine (newC a0 a1 _).mono ?_
  rintro e w1 ⟨rfl, H1, hb⟩
  have F1 := Lib.hid H1
  have T1 := Lib.hid (T0.out.trans (hb.mono T0.out.size))
  have SB := Lib.hid T0.out.size
  clear H1 hb T0
  generalize w0.heap.size = B at *
  have LB := Lib.hid F1.out.lt
  go_wp2_with fail
  refine (rNew a0 a1 _).mono ?_
  rintro e w3 ⟨rfl, H1, hb⟩
  have R1 := Lib.hid H1
  have F2 := Lib.hid (F1.out.below hb)
  have T2 := Lib.hid (T1.out.trans (hb.mono T1.out.size))
  have SX := Lib.hid T1.out.size
  clear H1 hb T1 F1
  generalize w1.heap.size = X at *
  have NE := Lib.hid (Nat.ne_of_gt LB.out)
  go_wp2_with fail
  go_loopw [12] (fun v wr => ∃ i : Nat, ∃ r : RK, i ≤ len2 ∧ v = .int .i64 i ∧ Fit r i ∧ Ct wr B r.ck ∧ Rt wr X r ∧ Below w.heap.size w wr) (fun v _ => len2 - (intOf v).toNat)
  case atStart => exact ⟨0, ⟨cutc a0, cutc a1, false, -2, 0, false, false, false, false, false⟩, by omega, rfl, ⟨Or.inr rfl, show (-2 : Int) ≤ -2 by omega, show (-2 : Int) ≤ 1000 by omega, show (0 : Int) ≤ 0 by omega, show (0 : Int) ≤ (0 : Nat) by omega⟩, F2.out, R1.out, T2.out⟩
  case round =>
    obtain ⟨i, r, hi, rfl, hk, hf, hr, hb⟩ := hrel
    clear F2 R1 T2
    have F := Lib.hid hf
    have R := Lib.hid hr
    have T := Lib.hid hb
    have KK := Lib.hid hk
    clear hf hr hb hk
    by_cases hl : i < len2
    · go_upto_region 13 with fail
      go_cut [52] (fun b wx => (∃ bb : Bool, b = .bool bb ∧ (bb = true → i < len3)) ∧ wx = wr)
      case first =>
        by_cases h3 : i < len3
        · obtain ⟨x3, rfl, c3⟩ := C3.out i h3
          replace c3 := below_cell T.out c3
          go_wp2_with fail
          go_meet
          exact ⟨⟨_, rfl, fun _ => h3⟩, rfl⟩
        · go_wp2_with fail
          go_meet
          exact ⟨⟨_, rfl, fun h => Bool.noConfusion h⟩, rfl⟩
      case rest =>
      obtain ⟨⟨bb, rfl, hbb⟩, rfl⟩ := hcut
      have HB3 := Lib.hid hbb
      clear hbb
      go_upto_if 52 with fail
      go_cut [52] (fun _ wx => ∃ r' : RK, Fit r' i ∧ Ct wx B r'.ck ∧ Rt wx X r' ∧ Below w.heap.size w wx)
      case first =>
        cases bb
        · go_wp2_with fail
          go_meet
          exact ⟨r, KK.out, F.out, R.out, T.out⟩
        · have h3 := HB3.out rfl
          obtain ⟨x3, rfl, c3⟩ := C3.out i h3
          generalize z3.getD i 0 = x at *
          have s3 := fun d => below_cell (T.out.trans ((reach_below wc.heap.size wc d).mono T.out.size)) c3
          have P3 := Lib.hid c3
          clear c3
          go_upto_region 14 with fail
          refine wp_region_tailR wc.heap.size 13 (by kernel_rfl) (by kernel_rfl) ?_
          simp only [List.take_succ_cons, List.take_zero, List.drop_succ_cons, List.drop_zero]
          repeat (go_big_quiet_step (fail))
          refine wpQuiet_nil ?_
          rintro w' ⟨d, rfl⟩
          clear s3
          go_wp2_with fail
          refine (setC' B r.ck _ _ _ (F.out.below (reach_below _ _ d))).mono ?_
          rintro e w5 ⟨rfl, hC, hO⟩
          have F5 := Lib.hid hC
          have R5 := Lib.hid ((R.out.below (reach_below _ _ d)).only hO NE.out)
          have TD := T.out.trans ((reach_below wc.heap.size wc d).mono T.out.size)
          have T5 := Lib.hid (TD.trans (hO.below SB.out TD.size))
          have c3 := below_cell T5.out P3.out
          clear hC hO F R T TD
          obtain ⟨-, -, -, -, -, -, -, -, c8, c9, cf⟩ := R5.out.cells
          have c4 : ∀ v, (w5.setCell ⟨X, 8, none⟩ v).cell? (x3.add i) = some (.int .i64 x) := fun v => below_cell (T5.out.trans ((Only.set X 8 w5 v).below SX.out T5.out.size)) P3.out
          cases hp : r.p <;> cases hq : r.q
          all_goals
            rw [hp] at c8
            rw [hq] at c9
            have HP := Lib.hid hp
            have HQ := Lib.hid hq
            clear hp hq
            go_wp2_with fail
            go_meet
            have t1 := fun v => T5.out.trans ((Only.set X 8 w5 v).below SX.out T5.out.size)
            refine ⟨{ r with p := r.p || decide (0 < bits BinOp.and IntKind.i64 x 16), q := r.q || decide (0 < bits BinOp.and IntKind.i64 x 32) }, KK.out.set _ _, ?_, ?_, ?_⟩
            · exact (F5.out.only (Only.set _ _ _ _) (Ne.symm NE.out)).only (Only.set _ _ _ _) (Ne.symm NE.out)
            · exact (R5.out.put (k' := { r with p := r.p || decide (0 < bits BinOp.and IntKind.i64 x 16) }) 8 _ (by simp [RK.arr, HP.out])).put 9 _ (by simp [RK.arr, HP.out, HQ.out])
            · exact (t1 _).trans ((Only.set X 9 _ _).below SX.out (t1 _).size)
      case rest =>
      clear F R T KK HB3
      obtain ⟨r', hk, hf, hr, hb⟩ := hcut
      have F := Lib.hid hf
      have R := Lib.hid hr
      have T := Lib.hid hb
      have KK := Lib.hid hk
      clear hf hr hb hk
      generalize r' = r at *
      obtain ⟨x2, rfl, hz, hx⟩ := C2.out i hl
      obtain ⟨ta, tb, tc, hvf⟩ := three_of hz
      rw [hvf] at hx
      have HX := Lib.hid (show ∀ (j : Nat) u, [Value.bool ta, .bool tb, .bool tc][j]? = some u → w.cell? (x2.add (i * 3 + j)) = some u from hx)
      clear hx hz hvf C2
      have KB := Lib.hid fun w => backC ta tb tc w
      go_upto_region 17 with fail
      have e0 := fun d => (three_at HX.out (T.out.trans ((reach_below wc.heap.size wc d).mono T.out.size))).1
      have e1 := fun d => (three_at HX.out (T.out.trans ((reach_below wc.heap.size wc d).mono T.out.size))).2.1
      have e2 := fun d => (three_at HX.out (T.out.trans ((reach_below wc.heap.size wc d).mono T.out.size))).2.2
      refine wp_region_tailR wc.heap.size 11 (by kernel_rfl) (by kernel_rfl) ?_
      simp only [List.take_succ_cons, List.take_zero, List.drop_succ_cons, List.drop_zero]
      repeat (go_big_quiet_step ((go_at_call 21; with_reducible exact reach_call (Nat.le_refl _) (KB.out _))))
      refine wpQuiet_nil ?_
      rintro w' ⟨d, rfl⟩
      clear e0 e1 e2
      go_wp2_with fail
      have TD := T.out.trans ((reach_below wc.heap.size wc d).mono T.out.size)
      refine (stepC B r.ck ta (i01 tc) tb KK.out.s1 KK.out.s2 KK.out.g1 (show r.g ≤ 1000000 by have := KK.out.g2; omega) _ (F.out.below (reach_below _ _ d))).mono ?_
      rintro e w5 ⟨rfl, hC, hO⟩
      rw [ck_step] at hC
      have F5 := Lib.hid hC
      have R5 := Lib.hid ((R.out.below (reach_below _ _ d)).only hO NE.out)
      have T5 := Lib.hid (TD.trans (hO.below SB.out TD.size))
      clear hC hO F R T TD
      go_upto_region 18 with fail
      have e0 := fun d => (three_at HX.out (T5.out.trans ((reach_below w5.heap.size w5 d).mono T5.out.size))).1
      have e1 := fun d => (three_at HX.out (T5.out.trans ((reach_below w5.heap.size w5 d).mono T5.out.size))).2.1
      have e2 := fun d => (three_at HX.out (T5.out.trans ((reach_below w5.heap.size w5 d).mono T5.out.size))).2.2
      refine wp_region_tailR w5.heap.size 11 (by kernel_rfl) (by kernel_rfl) ?_
      simp only [List.take_succ_cons, List.take_zero, List.drop_succ_cons, List.drop_zero]
      repeat (go_big_quiet_step ((go_at_call 21; with_reducible exact reach_call (Nat.le_refl _) (KB.out _))))
      refine wpQuiet_nil ?_
      rintro w' ⟨d, rfl⟩
      clear e0 e1 e2
      go_wp2_with fail
      have TD := T5.out.trans ((reach_below w5.heap.size w5 d).mono T5.out.size)
      refine (rStep X r ta (i01 tc) tb KK.out.s1 KK.out.s2 KK.out.g1 (show r.g ≤ 1000 by have := KK.out.g2; omega) _ (R5.out.below (reach_below _ _ d))).mono ?_
      rintro e w6 ⟨rfl, hC, hO⟩
      have R6 := Lib.hid hC
      have F6 := Lib.hid ((F5.out.below (reach_below _ _ d)).only hO (Ne.symm NE.out))
      have T6 := Lib.hid (TD.trans (hO.below SX.out TD.size))
      have K6 := Lib.hid (KK.out.step ta (i01 tc) tb)
      clear hC hO F5 R5 T5 TD KK KB HX
      generalize r.step ta (i01 tc) tb = r6 at *
      go_wp2_with fail
      refine (jamC B _ _ F6.out).mono ?_
      rintro e w7 ⟨he, hb⟩
      replace he : e = .returned (.tuple #[.bool r6.p, .bool r6.q]) := he
      subst he
      have F7 := Lib.hid (F6.out.below hb)
      have R7 := Lib.hid (R6.out.below hb)
      have T7 := Lib.hid (T6.out.trans (hb.mono T6.out.size))
      clear hb F6 R6 T6
      go_wp2_with fail
      refine (openC B _ _ F7.out).mono ?_
      rintro e w8 ⟨he, hb⟩
      rw [ck_op K6.out] at he
      subst he
      have F8 := Lib.hid (F7.out.below hb)
      have R8 := Lib.hid (R7.out.below hb)
      have T8 := Lib.hid (T7.out.trans (hb.mono T7.out.size))
      clear hb F7 R7 T7
      go_wp2_with fail
      refine (rOpen X _ _ R8.out).mono ?_
      rintro e w9 ⟨rfl, hb⟩
      have F9 := Lib.hid (F8.out.below hb)
      have R9 := Lib.hid (R8.out.below hb)
      have T9 := Lib.hid (T8.out.trans (hb.mono T8.out.size))
      clear hb F8 R8 T8
      have E1 : (r6.op != r6.op) = false := by cases r6.op <;> rfl
      have E2 : (r6.cl != r6.cl) = false := by cases r6.cl <;> rfl
      have E3 : (r6.p != r6.p) = false := by cases r6.p <;> rfl
      have E4 : (r6.q != r6.q) = false := by cases r6.q <;> rfl
      go_wp2_with fail
      refine (closedC B _ _ F9.out).mono ?_
      rintro e w10 ⟨he, rfl⟩
      rw [ck_cl K6.out] at he
      subst he
      go_wp2_with fail
      refine (rClosed X _ _ R9.out).mono ?_
      rintro e w11 ⟨rfl, rfl⟩
      obtain ⟨-, -, -, -, -, -, -, -, c8, c9, -⟩ := R9.out.cells
      go_wp2_with fail
      go_roundw
      case rel => exact ⟨i + 1, r6, by omega, by go_num, K6.out, F9.out, R9.out, T9.out⟩
      case measure => simp [intOf]; omega
    · go_wp2_with fail
      go_ret
      exact ⟨rfl, T.out⟩
end Go.Proofs.Ytakdoagigbjngaa
