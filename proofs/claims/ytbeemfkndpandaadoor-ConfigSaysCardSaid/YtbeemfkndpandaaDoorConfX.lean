/- Whether any configuration may be: the document's own answer. Conditions: the seven errors lie apart. -/
import Derived.Test.YtbeemfkndpandaaDoorConfE
import Derived.Test.YtbeemfkndpandaaDoorConfW
import Derived.Test.YtbeemfkndpandaaDoorMix
import Derived.Test.YtbeemfkndpandaaDoorFlat
namespace Go.Proofs.YtbeemfkndpandaaDoor
open Go.RowKit
set_option linter.unusedVariables false
set_option maxRecDepth 20000
set_option maxHeartbeats 4000000 in
theorem bootR (c : CG) (oc fe : Value) (hB : 0 ≤ c.B ∧ c.B ≤ 100000) (hS : 0 ≤ c.S ∧ c.S ≤ 100000) (w : World) : Calls Tryd.prog 35 #[.agg (cgA c oc fe)] w fun e w' => e = .returned (.int .i64 (c.B + c.S)) ∧ Below w.heap.size w w' := by
  have v1 : IntKind.i64.wrap (c.B + c.S) = c.B + c.S := IntWalk.i64_in _ (by omega)
  go_enter Tryd.func35, Tryd.ntmps35
  go_upto_region 1 with fail
  have B0 := Lib.hid (Bx.new w (cgA c oc fe) 31)
  generalize World.alloc w _ = W at *
  have x1 : W.cell? ⟨w.heap.size, 1, none⟩ = some (.int .i64 c.B) := B0.out.cell 1 rfl
  have x2 : W.cell? ⟨w.heap.size, 2, none⟩ = some (.int .i64 c.S) := B0.out.cell 2 rfl
  have s1 := fun d => below_cell (reach_below W.heap.size W d) x1
  have s2 := fun d => below_cell (reach_below W.heap.size W d) x2
  go_wp2_with fail
  go_returns
  exact ⟨rfl, B0.out.lo⟩
set_option maxHeartbeats 4000000 in
theorem boundRR (c : CG) (oc fe : Value) (hD : 0 ≤ c.D ∧ c.D ≤ 100000) (hB : 0 ≤ c.B ∧ c.B ≤ 100000) (hS : 0 ≤ c.S ∧ c.S ≤ 100000) (w : World) : Calls Tryd.prog 37 #[.agg (cgA c oc fe)] w fun e w' => e = .returned (.int .i64 (c.B + c.S + 6 * (c.B + c.S) + 6 * (c.D + 2))) ∧ Below w.heap.size w w' := by
  have v1 : IntKind.i64.wrap (c.B + c.S) = c.B + c.S := IntWalk.i64_in _ (by omega)
  have v2 : IntKind.i64.wrap (c.D + 2) = c.D + 2 := IntWalk.i64_in _ (by omega)
  have v3 : IntKind.i64.wrap (6 * (c.B + c.S)) = 6 * (c.B + c.S) := IntWalk.i64_in _ (by omega)
  have v4 : IntKind.i64.wrap (6 * (c.D + 2)) = 6 * (c.D + 2) := IntWalk.i64_in _ (by omega)
  have v5 : IntKind.i64.wrap (c.B + c.S + 6 * (c.B + c.S)) = c.B + c.S + 6 * (c.B + c.S) := IntWalk.i64_in _ (by omega)
  have v6 : IntKind.i64.wrap (c.B + c.S + 6 * (c.B + c.S) + 6 * (c.D + 2)) = c.B + c.S + 6 * (c.B + c.S) + 6 * (c.D + 2) := IntWalk.i64_in _ (by omega)
  have KB := Lib.hid fun (w : World) => bootR c oc fe hB hS w
  go_enter Tryd.func37, Tryd.ntmps37
  go_upto_region 1 with fail
  have B0 := Lib.hid (Bx.new w (cgA c oc fe) 31)
  generalize World.alloc w _ = W at *
  have hB : W.heap.size ≤ W.heap.size := Nat.le_refl _
  have x0 : W.cell? ⟨w.heap.size, 0, none⟩ = some (.int .i64 c.D) := B0.out.cell 0 rfl
  have x1 : W.cell? ⟨w.heap.size, 1, none⟩ = some (.int .i64 c.B) := B0.out.cell 1 rfl
  have x2 : W.cell? ⟨w.heap.size, 2, none⟩ = some (.int .i64 c.S) := B0.out.cell 2 rfl
  have s0 := fun d => below_cell (reach_below W.heap.size W d) x0
  have s1 := fun d => below_cell (reach_below W.heap.size W d) x1
  have s2 := fun d => below_cell (reach_below W.heap.size W d) x2
  have HG := Lib.hid (fun (w' : World) (hw : ∃ d, w' = reach W.heap.size W d) => (show w'.heap[w.heap.size]? = some (.cells (cgA c oc fe) 31 (0, 0)) by obtain ⟨d, rfl⟩ := hw; exact ((reach_below _ _ d).block _ B0.out.size).trans B0.out.row))
  refine wp_region_reach W.heap.size (by kernel_rfl) (by kernel_rfl) ?_
  repeat (first | (go_big_quiet_want; refine quiet_load_row 31 _ rfl (w.heap.size) rfl 31 _ (0, 0) _ HG.out Tryd.underlying31 rfl (by kernel_rfl) ?_; go_big_quiet_on; simp only [Act.put, List.setIfInBounds_toArray, List.set_cons_succ, List.set_cons_zero]) | go_big_quiet_step ((go_at_call 35; with_reducible exact reach_call hB (KB.out _))))
  refine wpQuiet_nil ?_
  rintro w' ⟨d, rfl⟩
  have B1 := Lib.hid (B0.out.reach d)
  clear s0 s1 s2 HG x0 x1 x2
  generalize reach W.heap.size W d = W2 at *
  go_wp2_with fail
  go_returns
  exact ⟨rfl, B1.out.lo⟩
set_option maxHeartbeats 4000000 in
theorem placed0C (n : Int) (w : World) : Calls Tryd.prog 31 #[.int .i64 0, .int .i64 n] w fun e w' => e = .returned (.agg #[.int .i64 0, .bool false, .int .i64 0]) ∧ Below w.heap.size w w' := by
  go_enter Tryd.func31, Tryd.ntmps31
  go_wp2_with fail
  have B1 := Lib.hid (Bx.new w #[.int .i64 0, .bool false, .int .i64 0] 61)
  generalize World.alloc w _ = W0 at *
  refine (noneF _).mono ?_
  rintro e w1 ⟨rfl, hb⟩
  have B5 := Lib.hid (B1.out.below hb)
  clear hb B1
  have x0 := B5.out.cell 0 rfl
  have x1 := B5.out.cell 1 rfl
  have x2 := B5.out.cell 2 rfl
  have xf := B5.out.froz
  go_wp2_with fail
  have B6 := Lib.hid (((B5.out.set 0 (.int .i64 (0))).set 1 (.bool false)).set 2 (.int .i64 (0)))
  clear x0 x1 x2 xf
  generalize World.setCell _ _ _ = W3 at *
  have q0 : W3.cell? ⟨w.heap.size, 0, none⟩ = some (.int .i64 (0)) := B6.out.cell 0 rfl
  have q1 : W3.cell? ⟨w.heap.size, 1, none⟩ = some (.bool false) := B6.out.cell 1 rfl
  have q2 : W3.cell? ⟨w.heap.size, 2, none⟩ = some (.int .i64 (0)) := B6.out.cell 2 rfl
  refine bodyPost_ret (v := .agg #[.int .i64 (0), .bool false, .int .i64 (0)]) (by simp [results, Tryd.results31, go_sem, q0, q1, q2]) rfl ⟨rfl, B6.out.lo⟩
/-- What a number that is amiss is told as. -/
def faC (k : Int) : Int := if 0 < k then 106 else 0
theorem oneC (k : Int) (w : World) : Calls Tryd.prog 32 #[.int .i64 k] w fun e w' => e = .returned (.int .i64 (faC k)) ∧ w = w' := by
  unfold faC
  by_cases q : 0 < k
  · have g1 : decide (0 < k) = true := decide_eq_true q
    rw [if_pos q]
    go_enter Tryd.func32, Tryd.ntmps32
    go_wp2_with fail
    go_ret
    exact ⟨rfl, rfl⟩
  · have g1 : decide (0 < k) = false := decide_eq_false q
    rw [if_neg q]
    go_enter Tryd.func32, Tryd.ntmps32
    go_wp2_with fail
    go_ret
    exact ⟨rfl, rfl⟩
theorem numTold {b : Nat → Bool} {k : Int} (h : NumIs b k) : ∃ p n, Amiss b (faC k) p n ∧ ((faC k = 0 ∧ p = false ∧ n = 0) ∨ (faC k = 106 ∧ p = true ∧ n = k)) := by
  cases h with
  | bad i hi h hj =>
    have e : faC ((i : Int) + 1) = 106 := if_pos (by omega)
    exact ⟨true, (i : Int) + 1, by rw [e]; exact .bad i hi h hj, .inr ⟨e, rfl, rfl⟩⟩
  | fine h => exact ⟨false, 0, .fine h, .inl ⟨rfl, rfl, rfl⟩⟩
theorem numSame {b : Nat → Bool} {k k' : Int} (h : NumIs b k) (g : NumIs b k') : k = k' := by
  cases h with
  | bad i hi h hj =>
    cases g with
    | fine gj => rw [gj i hi] at h; cases h
    | bad i' gi g gj =>
      rcases Nat.lt_trichotomy i i' with q | q | q
      · rw [gj i q] at h; cases h
      · subst q; rfl
      · rw [hj i' q] at g; cases g
  | fine hj =>
    cases g with
    | fine gj => rfl
    | bad i' gi g gj => rw [hj i' gi] at g; cases g
theorem add_succ (x : Addr) (k : Nat) : x.add (k + 1) = ⟨(x.add k).block, (x.add k).off + 1, none⟩ := by
  unfold Addr.add
  by_cases h : k = 0
  · subst h; simp
  · simp [h]; omega
theorem ptsG_of_came {w : World} {a : Option Addr} {len cap : Nat} {z : Nat → List Value} (h : CameS [.int .i64, .int .i64] w a len cap z) : PtsG w a len (fun i => intOf ((z i).getD 0 undef)) (fun i => intOf ((z i).getD 1 undef)) := fun i hi => by
  obtain ⟨x, hx, ho, hc⟩ := h.at i hi
  obtain ⟨c0, r0, e0, ⟨a0, rfl, _⟩, o1⟩ := oks_cons ho
  obtain ⟨c1, r1, e1, ⟨a1, rfl, _⟩, o2⟩ := oks_cons o1
  have h0 := hc 0 (.int .i64 a0) (by rw [e0]; rfl)
  have h1 := hc 1 (.int .i64 a1) (by rw [e0, e1]; rfl)
  simp only [List.length_cons, List.length_nil, Nat.add_zero, Nat.zero_add, Nat.reduceAdd] at h0 h1
  rw [add_succ] at h1
  refine ⟨x, hx, ?_, ?_⟩
  · rw [h0]; show some (Value.int .i64 a0) = some (.int .i64 (intOf ((z i).getD 0 undef))); rw [e0]; rfl
  · rw [h1]; show some (Value.int .i64 a1) = some (.int .i64 (intOf ((z i).getD 1 undef))); rw [e0, e1]; rfl
theorem fedG_of_came {w : World} {a : Option Addr} {len cap : Nat} {z : Nat → List Value} (h : CameS [.int .i64, .int .i64, .int .i64] w a len cap z) : FedG w a len (fun i => intOf ((z i).getD 0 undef)) (fun i => intOf ((z i).getD 1 undef)) (fun i => intOf ((z i).getD 2 undef)) := fun i hi => by
  obtain ⟨x, hx, ho, hc⟩ := h.at i hi
  obtain ⟨c0, r0, e0, ⟨a0, rfl, _⟩, o1⟩ := oks_cons ho
  obtain ⟨c1, r1, e1, ⟨a1, rfl, _⟩, o2⟩ := oks_cons o1
  obtain ⟨c2, r2, e2, ⟨a2, rfl, _⟩, o3⟩ := oks_cons o2
  have h0 := hc 0 (.int .i64 a0) (by rw [e0]; rfl)
  have h1 := hc 1 (.int .i64 a1) (by rw [e0, e1]; rfl)
  have h2 := hc 2 (.int .i64 a2) (by rw [e0, e1, e2]; rfl)
  simp only [List.length_cons, List.length_nil, Nat.add_zero, Nat.zero_add, Nat.reduceAdd] at h0 h1 h2
  rw [add_succ] at h1
  rw [show i * 3 + 2 = (i * 3 + 1) + 1 by omega, add_succ, add_succ] at h2
  refine ⟨x, hx, ?_, ?_, ?_⟩
  · rw [h0]; show some (Value.int .i64 a0) = some (.int .i64 (intOf ((z i).getD 0 undef))); rw [e0]; rfl
  · rw [h1]; show some (Value.int .i64 a1) = some (.int .i64 (intOf ((z i).getD 1 undef))); rw [e0, e1]; rfl
  · show w.cell? ⟨(x.add (i * 3)).block, (x.add (i * 3)).off + 1 + 1, none⟩ = _; rw [h2]; show some (Value.int .i64 a2) = some (.int .i64 (intOf ((z i).getD 2 undef))); rw [e0, e1, e2]; rfl
theorem CameS.len_le {ls : List Leaf} {w : World} {a : Option Addr} {len cap : Nat} {z : Nat → List Value} (h : CameS ls w a len cap z) : len ≤ maxLen := by
  rcases h with ⟨_, rfl, _⟩ | ⟨x, _, h1, h2, _⟩ <;> omega
theorem cfg_of {H : Type} {enc : TypeId × Value → H} {w : World} {held : Bool} {fuel : Nat} {cs : List Value} {x : DataW H × List MemPlace} (h : DataW.trod enc Tryd.prog w 0 (fun _ => true) held fuel 31 cs = some x) :
    ∃ (c : CG) (a : Option Addr) (n cp : Nat) (z : Nat → List Value) (b : Option Addr) (m cq : Nat) (y : Nat → List Value), cs = (cgA c (.slice a n cp) (.slice b m cq)).toList ∧ CameS [.int .i64, .int .i64] w a n cp z ∧ CameS [.int .i64, .int .i64, .int .i64] w b m cq y := by
  obtain ⟨xs, n, _, _, hl, hlen, hf⟩ := DataW.trod_struct Tryd.underlying31 h
  rw [show Tryd.prog.cellsOf 31 = 27 by kernel_rfl] at hl
  have hl2 : xs.length = 27 := hlen
  match cs, hl with
  | [c0, c1, c2, c3, c4, c5, c6, c7, c8, c9, c10, c11, c12, c13, c14, c15, c16, c17, c18, c19, c20, c21, c22, c23, c24, c25, c26], _ =>
    have e0 := hf 0 _ rfl
    rw [List.getElem?_eq_getElem (by omega)] at e0
    obtain ⟨_, _, q0, ⟨v0, rfl, _⟩, r0⟩ := oks_cons (flat_ok 1 3 [.int .i64] (by kernel_rfl) _ [c0] _ e0)
    obtain ⟨rfl, rfl⟩ := List.cons.inj q0
    clear e0 q0 r0
    have e1 := hf 1 _ rfl
    rw [List.getElem?_eq_getElem (by omega)] at e1
    obtain ⟨_, _, q1, ⟨v1, rfl, _⟩, r1⟩ := oks_cons (flat_ok 1 3 [.int .i64] (by kernel_rfl) _ [c1] _ e1)
    obtain ⟨rfl, rfl⟩ := List.cons.inj q1
    clear e1 q1 r1
    have e2 := hf 2 _ rfl
    rw [List.getElem?_eq_getElem (by omega)] at e2
    obtain ⟨_, _, q2, ⟨v2, rfl, _⟩, r2⟩ := oks_cons (flat_ok 1 3 [.int .i64] (by kernel_rfl) _ [c2] _ e2)
    obtain ⟨rfl, rfl⟩ := List.cons.inj q2
    clear e2 q2 r2
    have e3 := hf 3 _ rfl
    rw [List.getElem?_eq_getElem (by omega)] at e3
    obtain ⟨_, _, q3, ⟨v3, rfl, _⟩, r3⟩ := oks_cons (flat_ok 1 3 [.int .i64] (by kernel_rfl) _ [c3] _ e3)
    obtain ⟨rfl, rfl⟩ := List.cons.inj q3
    clear e3 q3 r3
    have e4 := hf 4 _ rfl
    rw [List.getElem?_eq_getElem (by omega)] at e4
    obtain ⟨_, _, q4, ⟨v4, rfl, _⟩, r4⟩ := oks_cons (flat_ok 1 3 [.int .i64] (by kernel_rfl) _ [c4] _ e4)
    obtain ⟨rfl, rfl⟩ := List.cons.inj q4
    clear e4 q4 r4
    have e5 := hf 5 _ rfl
    rw [List.getElem?_eq_getElem (by omega)] at e5
    obtain ⟨_, _, q5, ⟨v5, rfl, _⟩, r5⟩ := oks_cons (flat_ok 1 2 [.int .i64] (by kernel_rfl) _ [c5] _ e5)
    obtain ⟨rfl, rfl⟩ := List.cons.inj q5
    clear e5 q5 r5
    have e6 := hf 6 _ rfl
    rw [List.getElem?_eq_getElem (by omega)] at e6
    obtain ⟨_, _, q6, ⟨v6, rfl, _⟩, r6⟩ := oks_cons (flat_ok 1 2 [.int .i64] (by kernel_rfl) _ [c6] _ e6)
    obtain ⟨rfl, rfl⟩ := List.cons.inj q6
    clear e6 q6 r6
    have e7 := hf 7 _ rfl
    rw [List.getElem?_eq_getElem (by omega)] at e7
    obtain ⟨_, _, q7, ⟨v7, rfl, _⟩, r7⟩ := oks_cons (flat_ok 1 2 [.int .i64] (by kernel_rfl) _ [c7] _ e7)
    obtain ⟨rfl, rfl⟩ := List.cons.inj q7
    clear e7 q7 r7
    have e8 := hf 8 _ rfl
    rw [List.getElem?_eq_getElem (by omega)] at e8
    obtain ⟨_, _, q8, ⟨v8, rfl, _⟩, r8⟩ := oks_cons (flat_ok 1 2 [.int .i64] (by kernel_rfl) _ [c8] _ e8)
    obtain ⟨rfl, rfl⟩ := List.cons.inj q8
    clear e8 q8 r8
    have e9 := hf 9 _ rfl
    rw [List.getElem?_eq_getElem (by omega)] at e9
    obtain ⟨_, _, q9, ⟨v9, rfl, _⟩, r9⟩ := oks_cons (flat_ok 1 2 [.int .i64] (by kernel_rfl) _ [c9] _ e9)
    obtain ⟨rfl, rfl⟩ := List.cons.inj q9
    clear e9 q9 r9
    have e10 := hf 10 _ rfl
    rw [List.getElem?_eq_getElem (by omega)] at e10
    obtain ⟨_, _, q10, ⟨v10, rfl, _⟩, r10⟩ := oks_cons (flat_ok 1 2 [.int .i64] (by kernel_rfl) _ [c10] _ e10)
    obtain ⟨rfl, rfl⟩ := List.cons.inj q10
    clear e10 q10 r10
    have e11 := hf 11 _ rfl
    rw [List.getElem?_eq_getElem (by omega)] at e11
    obtain ⟨_, _, q11, ⟨v11, rfl, _⟩, r11⟩ := oks_cons (flat_ok 1 2 [.int .i64] (by kernel_rfl) _ [c11] _ e11)
    obtain ⟨rfl, rfl⟩ := List.cons.inj q11
    clear e11 q11 r11
    have e12 := hf 12 _ rfl
    rw [List.getElem?_eq_getElem (by omega)] at e12
    obtain ⟨_, _, q12, ⟨v12, rfl, _⟩, r12⟩ := oks_cons (flat_ok 1 2 [.int .i64] (by kernel_rfl) _ [c12] _ e12)
    obtain ⟨rfl, rfl⟩ := List.cons.inj q12
    clear e12 q12 r12
    have e13 := hf 13 _ rfl
    rw [List.getElem?_eq_getElem (by omega)] at e13
    obtain ⟨_, _, q13, ⟨v13, rfl, _⟩, r13⟩ := oks_cons (flat_ok 1 2 [.int .i64] (by kernel_rfl) _ [c13] _ e13)
    obtain ⟨rfl, rfl⟩ := List.cons.inj q13
    clear e13 q13 r13
    have e14 := hf 14 _ rfl
    rw [List.getElem?_eq_getElem (by omega)] at e14
    obtain ⟨_, _, q14, ⟨v14, rfl, _⟩, r14⟩ := oks_cons (flat_ok 1 2 [.int .i64] (by kernel_rfl) _ [c14] _ e14)
    obtain ⟨rfl, rfl⟩ := List.cons.inj q14
    clear e14 q14 r14
    have e15 := hf 15 _ rfl
    rw [List.getElem?_eq_getElem (by omega)] at e15
    obtain ⟨_, _, q15, ⟨v15, rfl, _⟩, r15⟩ := oks_cons (flat_ok 1 2 [.int .i64] (by kernel_rfl) _ [c15] _ e15)
    obtain ⟨rfl, rfl⟩ := List.cons.inj q15
    clear e15 q15 r15
    have e16 := hf 16 _ rfl
    rw [List.getElem?_eq_getElem (by omega)] at e16
    obtain ⟨_, _, q16, ⟨v16, rfl, _⟩, r16⟩ := oks_cons (flat_ok 1 2 [.int .i64] (by kernel_rfl) _ [c16] _ e16)
    obtain ⟨rfl, rfl⟩ := List.cons.inj q16
    clear e16 q16 r16
    have e17 := hf 17 _ rfl
    rw [List.getElem?_eq_getElem (by omega)] at e17
    obtain ⟨_, _, q17, ⟨v17, rfl, _⟩, r17⟩ := oks_cons (flat_ok 1 2 [.int .i64] (by kernel_rfl) _ [c17] _ e17)
    obtain ⟨rfl, rfl⟩ := List.cons.inj q17
    clear e17 q17 r17
    have e18 := hf 18 _ rfl
    rw [List.getElem?_eq_getElem (by omega)] at e18
    obtain ⟨_, _, q18, ⟨v18, rfl, _⟩, r18⟩ := oks_cons (flat_ok 1 2 [.int .i64] (by kernel_rfl) _ [c18] _ e18)
    obtain ⟨rfl, rfl⟩ := List.cons.inj q18
    clear e18 q18 r18
    have e19 := hf 19 _ rfl
    rw [List.getElem?_eq_getElem (by omega)] at e19
    obtain ⟨_, _, q19, ⟨v19, rfl, _⟩, r19⟩ := oks_cons (flat_ok 1 2 [.int .i64] (by kernel_rfl) _ [c19] _ e19)
    obtain ⟨rfl, rfl⟩ := List.cons.inj q19
    clear e19 q19 r19
    have e20 := hf 20 _ rfl
    rw [List.getElem?_eq_getElem (by omega)] at e20
    obtain ⟨a_o, n_o, p_o, z_o, q20, h_o⟩ := cameS_of (m := 6) (ls := [.int .i64, .int .i64]) (cs := [c20]) Tryd.underlying28 (by kernel_rfl) e20
    obtain ⟨rfl, _⟩ := List.cons.inj q20
    clear e20 q20
    have e21 := hf 21 _ rfl
    rw [List.getElem?_eq_getElem (by omega)] at e21
    obtain ⟨_, _, q21, ⟨v21, rfl, _⟩, r21⟩ := oks_cons (flat_ok 1 2 [.int .i64] (by kernel_rfl) _ [c21] _ e21)
    obtain ⟨rfl, rfl⟩ := List.cons.inj q21
    clear e21 q21 r21
    have e22 := hf 22 _ rfl
    rw [List.getElem?_eq_getElem (by omega)] at e22
    obtain ⟨_, _, q22, ⟨v22, rfl, _⟩, r22⟩ := oks_cons (flat_ok 1 2 [.int .i64] (by kernel_rfl) _ [c22] _ e22)
    obtain ⟨rfl, rfl⟩ := List.cons.inj q22
    clear e22 q22 r22
    have e23 := hf 23 _ rfl
    rw [List.getElem?_eq_getElem (by omega)] at e23
    obtain ⟨_, _, q23, ⟨v23, rfl, _⟩, r23⟩ := oks_cons (flat_ok 1 2 [.int .i64] (by kernel_rfl) _ [c23] _ e23)
    obtain ⟨rfl, rfl⟩ := List.cons.inj q23
    clear e23 q23 r23
    have e24 := hf 24 _ rfl
    rw [List.getElem?_eq_getElem (by omega)] at e24
    obtain ⟨_, _, q24, ⟨v24, rfl, _⟩, r24⟩ := oks_cons (flat_ok 1 2 [.int .i64] (by kernel_rfl) _ [c24] _ e24)
    obtain ⟨rfl, rfl⟩ := List.cons.inj q24
    clear e24 q24 r24
    have e25 := hf 25 _ rfl
    rw [List.getElem?_eq_getElem (by omega)] at e25
    obtain ⟨_, _, q25, ⟨v25, rfl, _⟩, r25⟩ := oks_cons (flat_ok 1 2 [.int .i64] (by kernel_rfl) _ [c25] _ e25)
    obtain ⟨rfl, rfl⟩ := List.cons.inj q25
    clear e25 q25 r25
    have e26 := hf 26 _ rfl
    rw [List.getElem?_eq_getElem (by omega)] at e26
    obtain ⟨a_f, n_f, p_f, z_f, q26, h_f⟩ := cameS_of (m := 6) (ls := [.int .i64, .int .i64, .int .i64]) (cs := [c26]) Tryd.underlying29 (by kernel_rfl) e26
    obtain ⟨rfl, _⟩ := List.cons.inj q26
    clear e26 q26
    exact ⟨⟨v0, v1, v2, v3, v4, v5, v6, v7, v8, v9, v10, v11, v12, v13, v14, v15, v16, v17, v18, v19, v21, v22, v23, v24, v25⟩, a_o, n_o, p_o, z_o, a_f, n_f, p_f, z_f, rfl, h_o, h_f⟩
set_option maxHeartbeats 16000000 in
theorem walkConfigSays (g0 : CG) (oa0 : Option Addr) (on0 oc0 : Nat) (oz0 : Nat → List Value) (fa0 : Option Addr) (fn0 fc0 : Nat) (fz0 : Nat → List Value) (a1 : Int) (a2 : Int) (a3 : Int) (w : World) (w0o : CameS [.int .i64, .int .i64] w oa0 on0 oc0 oz0) (w0f : CameS [.int .i64, .int .i64, .int .i64] w fa0 fn0 fc0 fz0) (w1 : (Lit.int .i64 a1).wf = true) (w2 : (Lit.int .i64 a2).wf = true) (w3 : (Lit.int .i64 a3).wf = true) (hE : ∃ E, Ers E w) :
    Calls Tryd.prog 10 #[.agg (cgA g0 (.slice oa0 on0 oc0) (.slice fa0 fn0 fc0)), .int .i64 a1, .int .i64 a2, .int .i64 a3] w fun e w' => e = .returned (.bool true) ∧ Below w.heap.size w w' := by
  obtain ⟨E, hE⟩ := hE
  have HE := Lib.hid hE
  have HP := Lib.hid (ptsG_of_came w0o)
  have HF0 := Lib.hid (fedG_of_came w0f)
  have lo := w0o.len_le
  have lf := w0f.len_le
  unfold maxLen at lo lf
  clear w0o w0f w1 w2 w3 hE
  generalize (fun i => intOf ((oz0 i).getD 0 undef)) = px at *
  generalize (fun i => intOf ((oz0 i).getD 1 undef)) = py at *
  generalize (fun i => intOf ((fz0 i).getD 0 undef)) = bu at *
  generalize (fun i => intOf ((fz0 i).getD 1 undef)) = lod at *
  generalize (fun i => intOf ((fz0 i).getD 2 undef)) = pr at *
  go_enter Tryd.func10, Tryd.ntmps10
  go_upto_region 1 with fail
  have B0 := Lib.hid (Bx.new w (cgA g0 (.slice oa0 on0 oc0) (.slice fa0 fn0 fc0)) 31)
  generalize World.alloc w _ = W at *
  go_wp2_with fail
  refine (first27 W (HE.out.below B0.out.lo)).mono ?_
  rintro e wa ⟨rfl, hba⟩
  have B1 := Lib.hid (B0.out.below hba)
  clear hba B0
  have x20 : wa.cell? ⟨w.heap.size, 20, none⟩ = some (.slice oa0 on0 oc0) := B1.out.cell 20 rfl
  have x26 : wa.cell? ⟨w.heap.size, 26, none⟩ = some (.slice fa0 fn0 fc0) := B1.out.cell 26 rfl
  by_cases l1 : 70 < on0
  · have g1 : decide ((70 : Int) < (on0 : Int)) = true := decide_eq_true (by omega)
    go_wp2_with fail
    go_returns
    exact ⟨rfl, B1.out.lo⟩
  have g1 : decide ((70 : Int) < (on0 : Int)) = false := decide_eq_false (by omega)
  by_cases l2 : 20 < fn0
  · have g2 : decide ((20 : Int) < (fn0 : Int)) = true := decide_eq_true (by omega)
    go_wp2_with fail
    go_returns
    exact ⟨rfl, B1.out.lo⟩
  have g2 : decide ((20 : Int) < (fn0 : Int)) = false := decide_eq_false (by omega)
  go_wp2_with fail
  refine (configF a1 a2 a3 wa).mono ?_
  rintro e w4 ⟨O, fa, fc, rfl, hO, ho, hf, hb⟩
  have B4 := Lib.hid (B1.out.below hb)
  have CC := Lib.hid (CB.of (a1 % 1048576) (a2 % 1048576) (a3 % 1048576) (by omega) (by omega) (by omega))
  have HO := Lib.hid ho
  have HF := Lib.hid hf
  have hk : 0 ≤ a3 % 1048576 := by omega
  have hn : (a2 % 1048576 / 20 % 7).toNat ≤ 6 := by omega
  unfold cfgV
  rw [cgA_of]
  have n1 : on0 < 4611686018427387904 := by omega
  have n2 : fn0 < 4611686018427387904 := by omega
  clear hb ho hf hO x20 x26 B1 l1 l2
  generalize (a2 % 1048576 / 20 % 7).toNat = fn at *
  generalize cfgOf (a1 % 1048576) (a2 % 1048576) (a3 % 1048576) = c at *
  generalize a3 % 1048576 = k at *
  go_wp2_with fail
  refine upon_fresh (by simp) rfl (by kernel_rfl) ?_
  intro W1 b1 s1 h1
  have R8 := Lib.hid (show Rw W1 w4.heap.size c.cg (.slice (some ⟨O, 0, none⟩) 4 4) (.slice fa fn fc) from h1)
  have B5 := Lib.hid (B4.out.below b1)
  have O5 := Lib.hid (HO.out.below b1 (Array.getElem?_eq_some_iff.1 HO.out).1)
  have F5 := Lib.hid (HF.out.below b1)
  have L5 := Lib.hid (show w4.heap.size < W1.heap.size by omega)
  clear h1 b1 s1 B4 HO HF
  go_upto_region 7 with fail
  obtain ⟨o, hoo⟩ : ∃ o : Bool, o = true ↔ ocvOk on0 px py g0.Cap := by
    by_cases h : ocvOk on0 px py g0.Cap
    · exact ⟨true, by simp [h]⟩
    · exact ⟨false, by simp [h]⟩
  obtain ⟨f, hff⟩ : ∃ f : Bool, f = true ↔ fedOk fn0 bu lod pr := by
    by_cases h : fedOk fn0 bu lod pr
    · exact ⟨true, by simp [h]⟩
    · exact ⟨false, by simp [h]⟩
  have hBw := B5.out.lo
  have K1 := Lib.hid fun (u : World) (hu : Below W1.heap.size W1 u) => checkConf g0 oa0 on0 oc0 px py fa0 fn0 fc0 bu lod pr o f hoo hff n1 n2 u (HE.out.below (hBw.trans (hu.mono hBw.size))) (HP.out.below (hBw.trans (hu.mono hBw.size))) (HF0.out.below (hBw.trans (hu.mono hBw.size)))
  have K2 := Lib.hid fun (u : World) (hu : Below W1.heap.size W1 u) => refConf g0 oa0 on0 oc0 px py fa0 fn0 fc0 bu lod pr o f hoo hff n1 n2 u (HP.out.below (hBw.trans (hu.mono hBw.size))) (HF0.out.below (hBw.trans (hu.mono hBw.size)))
  have EU := Lib.hid fun (u : World) (hu : Below W1.heap.size W1 u) => (HE.out.below (hBw.trans (hu.mono hBw.size)) : Ers E u)
  have K3 := Lib.hid fun (u : World) (hu : Below W1.heap.size W1 u) => checkMade c CC.out k hk O fa fn fc hn u (EU.out u hu) (O5.out.below hu (Array.getElem?_eq_some_iff.1 O5.out).1) (F5.out.below hu)
  have HC := CC.out
  have hb1 : 0 ≤ c.cg.B ∧ c.cg.B ≤ 100000 := ⟨Int.le_trans (by omega) HC.b.1, Int.le_trans HC.b.2 (by omega)⟩
  have hs1 : 0 ≤ c.cg.S ∧ c.cg.S ≤ 100000 := ⟨Int.le_trans (by omega) HC.s.1, Int.le_trans HC.s.2 (by omega)⟩
  have hd1 : 0 ≤ c.cg.D ∧ c.cg.D ≤ 100000 := ⟨Int.le_trans (by omega) HC.d.1, Int.le_trans HC.d.2 (by omega)⟩
  obtain ⟨vb, hvb⟩ : ∃ v, v = c.cg.B + c.cg.S := ⟨_, rfl⟩
  obtain ⟨vc, hvc⟩ : ∃ v, v = c.cg.B + c.cg.S + 6 * (c.cg.B + c.cg.S) + 6 * (c.cg.D + 2) := ⟨_, rfl⟩
  have K4 := Lib.hid fun (u : World) => bootC c.cg (.slice (some ⟨O, 0, none⟩) 4 4) (.slice fa fn fc) hb1 hs1 u
  have K5 := Lib.hid fun (u : World) => bootR c.cg (.slice (some ⟨O, 0, none⟩) 4 4) (.slice fa fn fc) hb1 hs1 u
  have K6 := Lib.hid fun (u : World) => boundC c.cg (.slice (some ⟨O, 0, none⟩) 4 4) (.slice fa fn fc) hd1 hb1 hs1 u
  have K7 := Lib.hid fun (u : World) => boundRR c.cg (.slice (some ⟨O, 0, none⟩) 4 4) (.slice fa fn fc) hd1 hb1 hs1 u
  rw [← hvb] at K4 K5
  rw [← hvc] at K6 K7
  have e1 : (vb == vb) = true := by simp
  have e2 : (vc == vc) = true := by simp
  have S0 := Lib.hid ((Below.refl W1.heap.size W1).drew)
  have HG0 := Lib.hid (fun (w' : World) (hw : Below W1.heap.size W1 w') => (show w'.heap[w.heap.size]? = some (.cells (cgA g0 (.slice oa0 on0 oc0) (.slice fa0 fn0 fc0)) 31 (0, 0)) from (hw.block _ B5.out.size).trans B5.out.row))
  have HG1 := Lib.hid (fun (w' : World) (hw : Below W1.heap.size W1 w') => (show w'.heap[w4.heap.size]? = some (.cells (cgA c.cg (.slice (some ⟨O, 0, none⟩) 4 4) (.slice fa fn fc)) 31 (0, 0)) from (hw.block _ L5.out).trans R8.out))
  have BW := Lib.hid hBw
  clear hoo hff hBw hk hn lo lf n1 n2 hb1 hs1 hd1 hvb hvc HC g1 g2
  refine wp_region_mix (fun w' => Below W1.heap.size W1 w') (by kernel_rfl) ?_
  change wpAnyH _ _ _ _ _ 32 (Array.replicate 32 false) _ _
  dsimp only [Act.put]
  refine mix_quiet 0 rfl (by kernel_rfl) (by kernel_rfl) (by kernel_rfl) (by kernel_rfl) (by kernel_rfl) S0.out ?_
  intro K hK
  go_big_quiet_op
  first | go_big_quiet_on | (refine ⟨_, fun _ _ => rfl, ?_⟩; go_big_quiet_on)
  try simp only [Act.put, List.setIfInBounds_toArray, List.set_cons_succ, List.set_cons_zero]
  refine mix_quiet 1 rfl (by kernel_rfl) (by kernel_rfl) (by kernel_rfl) (by kernel_rfl) (by kernel_rfl) S0.out ?_
  intro K hK
  go_big_quiet_op
  first | go_big_quiet_on | (refine ⟨_, fun _ _ => rfl, ?_⟩; go_big_quiet_on)
  try simp only [Act.put, List.setIfInBounds_toArray, List.set_cons_succ, List.set_cons_zero]
  refine mix_quiet 2 rfl (by kernel_rfl) (by kernel_rfl) (by kernel_rfl) (by kernel_rfl) (by kernel_rfl) S0.out ?_
  intro K hK
  refine quiet_load_row 31 _ rfl (w.heap.size) rfl 31 _ (0, 0) _ HG0.out Tryd.underlying31 rfl (by kernel_rfl) ?_
  go_big_quiet_on
  try simp only [Act.put, List.setIfInBounds_toArray, List.set_cons_succ, List.set_cons_zero]
  refine mix_quiet 4 rfl (by kernel_rfl) (by kernel_rfl) (by kernel_rfl) (by kernel_rfl) (by kernel_rfl) S0.out ?_
  intro K hK
  refine quiet_load_row 31 _ rfl (w.heap.size) rfl 31 _ (0, 0) _ HG0.out Tryd.underlying31 rfl (by kernel_rfl) ?_
  go_big_quiet_on
  try simp only [Act.put, List.setIfInBounds_toArray, List.set_cons_succ, List.set_cons_zero]
  refine mix_quiet 7 rfl (by kernel_rfl) (by kernel_rfl) (by kernel_rfl) (by kernel_rfl) (by kernel_rfl) S0.out ?_
  intro K hK
  refine quiet_load_row 31 _ rfl (w.heap.size) rfl 31 _ (0, 0) _ HG0.out Tryd.underlying31 rfl (by kernel_rfl) ?_
  go_big_quiet_on
  try simp only [Act.put, List.setIfInBounds_toArray, List.set_cons_succ, List.set_cons_zero]
  refine mix_one 3 rfl (by kernel_rfl) ?_
  intro R hR
  go_wp2_with fail
  refine (K1.out _ S0.out).mono ?_
  rintro e u1 ⟨v, c1, p1, k1, rfl, hv, hd, hb⟩
  have S1 := Lib.hid (S0.out.trans (hb.mono S0.out.size))
  have V1 := Lib.hid hv
  have D1 := Lib.hid hd
  clear hv hd hb
  go_wp2_with fail
  refine ⟨S1.out, ?_⟩
  try simp only [Act.put, List.setIfInBounds_toArray, List.set_cons_succ, List.set_cons_zero]
  refine mix_one 5 rfl (by kernel_rfl) ?_
  intro R hR
  go_wp2_with fail
  refine (K2.out _ S1.out).mono ?_
  rintro e u2 ⟨k2, rfl, hk2, hb⟩
  have S2 := Lib.hid (S1.out.trans (hb.mono S1.out.size))
  have V2 := Lib.hid (V1.out.below hb)
  have N2 := Lib.hid hk2
  clear hk2 hb
  go_wp2_with fail
  refine ⟨S2.out, ?_⟩
  try simp only [Act.put, List.setIfInBounds_toArray, List.set_cons_succ, List.set_cons_zero]
  refine mix_one 6 rfl (by kernel_rfl) ?_
  intro R hR
  go_wp2_with fail
  refine (oneC k2 _).mono ?_
  rintro e u3 ⟨rfl, rfl⟩
  have S3 := S2
  go_wp2_with fail
  refine ⟨S3.out, ?_⟩
  try simp only [Act.put, List.setIfInBounds_toArray, List.set_cons_succ, List.set_cons_zero]
  refine mix_one 8 rfl (by kernel_rfl) ?_
  intro R hR
  go_wp2_with fail
  refine (K2.out _ S3.out).mono ?_
  rintro e u4 ⟨k4, rfl, hk4, hb⟩
  have S4 := Lib.hid (S3.out.trans (hb.mono S3.out.size))
  have V4 := Lib.hid (V2.out.below hb)
  obtain rfl := numSame N2.out hk4
  clear hk4 hb
  go_wp2_with fail
  refine ⟨S4.out, ?_⟩
  try simp only [Act.put, List.setIfInBounds_toArray, List.set_cons_succ, List.set_cons_zero]
  obtain ⟨p9, n9, ha9, hc9⟩ := numTold N2.out
  have A9 := Lib.hid ha9
  have PL := Lib.hid (show ∀ u : World, Calls Tryd.prog 31 #[.int .i64 (faC k2), .int .i64 k2] u fun e w' => e = .returned (.agg #[.int .i64 (faC k2), .bool p9, .int .i64 n9]) ∧ Below u.heap.size u w' by
    intro u
    rcases hc9 with ⟨h1, h2, h3⟩ | ⟨h1, h2, h3⟩
    · rw [h1, h2, h3]; exact placed0C k2 u
    · rw [h1, h2, h3]; exact placedC 106 k2 (by omega) u)
  clear ha9 hc9
  generalize faC k2 = fk at *
  refine mix_one 9 rfl (by kernel_rfl) ?_
  intro R hR
  go_wp2_with fail
  refine (PL.out _).mono ?_
  rintro e u5 ⟨rfl, hb⟩
  have S5 := Lib.hid (S4.out.trans (hb.mono S4.out.size))
  have V5 := Lib.hid (V4.out.below hb)
  clear hb
  go_wp2_with fail
  refine ⟨S5.out, ?_⟩
  try simp only [Act.put, List.setIfInBounds_toArray, List.set_cons_succ, List.set_cons_zero]
  refine mix_one 10 rfl (by kernel_rfl) ?_
  intro R hR
  go_wp2_with fail
  refine (sameA (EU.out _ S5.out) V5.out D1.out A9.out).mono ?_
  rintro e u6 ⟨rfl, hb⟩
  have S6 := Lib.hid (S5.out.trans (hb.mono S5.out.size))
  clear hb
  go_wp2_with fail
  refine ⟨S6.out, ?_⟩
  try simp only [Act.put, List.setIfInBounds_toArray, List.set_cons_succ, List.set_cons_zero]
  refine mix_quiet 11 rfl (by kernel_rfl) (by kernel_rfl) (by kernel_rfl) (by kernel_rfl) (by kernel_rfl) S6.out ?_
  intro K hK
  go_big_quiet_op
  first | go_big_quiet_on | (refine ⟨_, fun _ _ => rfl, ?_⟩; go_big_quiet_on)
  try simp only [Act.put, List.setIfInBounds_toArray, List.set_cons_succ, List.set_cons_zero]
  refine mix_quiet 12 rfl (by kernel_rfl) (by kernel_rfl) (by kernel_rfl) (by kernel_rfl) (by kernel_rfl) S6.out ?_
  intro K hK
  go_big_quiet_op
  first | go_big_quiet_on | (refine ⟨_, fun _ _ => rfl, ?_⟩; go_big_quiet_on)
  try simp only [Act.put, List.setIfInBounds_toArray, List.set_cons_succ, List.set_cons_zero]
  refine mix_quiet 13 rfl (by kernel_rfl) (by kernel_rfl) (by kernel_rfl) (by kernel_rfl) (by kernel_rfl) S6.out ?_
  intro K hK
  refine quiet_load_row 31 _ rfl (w4.heap.size) rfl 31 _ (0, 0) _ HG1.out Tryd.underlying31 rfl (by kernel_rfl) ?_
  go_big_quiet_on
  try simp only [Act.put, List.setIfInBounds_toArray, List.set_cons_succ, List.set_cons_zero]
  refine mix_one 14 rfl (by kernel_rfl) ?_
  intro R hR
  go_wp2_with fail
  refine (K3.out _ S6.out).mono ?_
  rintro e u7 ⟨rfl, hb⟩
  have S7 := Lib.hid (S6.out.trans (hb.mono S6.out.size))
  clear hb
  go_wp2_with fail
  refine ⟨S7.out, ?_⟩
  try simp only [Act.put, List.setIfInBounds_toArray, List.set_cons_succ, List.set_cons_zero]
  refine mix_quiet 15 rfl (by kernel_rfl) (by kernel_rfl) (by kernel_rfl) (by kernel_rfl) (by kernel_rfl) S7.out ?_
  intro K hK
  go_big_quiet_op
  first | go_big_quiet_on | (refine ⟨_, fun _ _ => rfl, ?_⟩; go_big_quiet_on)
  try simp only [Act.put, List.setIfInBounds_toArray, List.set_cons_succ, List.set_cons_zero]
  refine mix_quiet 16 rfl (by kernel_rfl) (by kernel_rfl) (by kernel_rfl) (by kernel_rfl) (by kernel_rfl) S7.out ?_
  intro K hK
  go_big_quiet_op
  first | go_big_quiet_on | (refine ⟨_, fun _ _ => rfl, ?_⟩; go_big_quiet_on)
  try simp only [Act.put, List.setIfInBounds_toArray, List.set_cons_succ, List.set_cons_zero]
  refine mix_quiet 17 rfl (by kernel_rfl) (by kernel_rfl) (by kernel_rfl) (by kernel_rfl) (by kernel_rfl) S7.out ?_
  intro K hK
  go_big_quiet_op
  first | go_big_quiet_on | (refine ⟨_, fun _ _ => rfl, ?_⟩; go_big_quiet_on)
  try simp only [Act.put, List.setIfInBounds_toArray, List.set_cons_succ, List.set_cons_zero]
  refine mix_quiet 18 rfl (by kernel_rfl) (by kernel_rfl) (by kernel_rfl) (by kernel_rfl) (by kernel_rfl) S7.out ?_
  intro K hK
  refine quiet_load_row 31 _ rfl (w4.heap.size) rfl 31 _ (0, 0) _ HG1.out Tryd.underlying31 rfl (by kernel_rfl) ?_
  go_big_quiet_on
  try simp only [Act.put, List.setIfInBounds_toArray, List.set_cons_succ, List.set_cons_zero]
  refine mix_quiet 20 rfl (by kernel_rfl) (by kernel_rfl) (by kernel_rfl) (by kernel_rfl) (by kernel_rfl) S7.out ?_
  intro K hK
  refine quiet_load_row 31 _ rfl (w4.heap.size) rfl 31 _ (0, 0) _ HG1.out Tryd.underlying31 rfl (by kernel_rfl) ?_
  go_big_quiet_on
  try simp only [Act.put, List.setIfInBounds_toArray, List.set_cons_succ, List.set_cons_zero]
  refine mix_one 19 rfl (by kernel_rfl) ?_
  intro R hR
  go_wp2_with fail
  refine (K4.out _).mono ?_
  rintro e u8 ⟨rfl, hb⟩
  have S8 := Lib.hid (S7.out.trans (hb.mono S7.out.size))
  clear hb
  go_wp2_with fail
  refine ⟨S8.out, ?_⟩
  try simp only [Act.put, List.setIfInBounds_toArray, List.set_cons_succ, List.set_cons_zero]
  refine mix_one 21 rfl (by kernel_rfl) ?_
  intro R hR
  go_wp2_with fail
  refine (K5.out _).mono ?_
  rintro e u9 ⟨rfl, hb⟩
  have S9 := Lib.hid (S8.out.trans (hb.mono S8.out.size))
  clear hb
  go_wp2_with fail
  refine ⟨S9.out, ?_⟩
  try simp only [Act.put, List.setIfInBounds_toArray, List.set_cons_succ, List.set_cons_zero]
  refine mix_quiet 22 rfl (by kernel_rfl) (by kernel_rfl) (by kernel_rfl) (by kernel_rfl) (by kernel_rfl) S9.out ?_
  intro K hK
  go_big_quiet_op
  first | go_big_quiet_on | (refine ⟨_, fun _ _ => rfl, ?_⟩; go_big_quiet_on)
  try simp only [Act.put, List.setIfInBounds_toArray, List.set_cons_succ, List.set_cons_zero]
  refine mix_quiet 23 rfl (by kernel_rfl) (by kernel_rfl) (by kernel_rfl) (by kernel_rfl) (by kernel_rfl) S9.out ?_
  intro K hK
  go_big_quiet_op
  first | go_big_quiet_on | (refine ⟨_, fun _ _ => rfl, ?_⟩; go_big_quiet_on)
  try simp only [Act.put, List.setIfInBounds_toArray, List.set_cons_succ, List.set_cons_zero]
  refine mix_quiet 24 rfl (by kernel_rfl) (by kernel_rfl) (by kernel_rfl) (by kernel_rfl) (by kernel_rfl) S9.out ?_
  intro K hK
  go_big_quiet_op
  first | go_big_quiet_on | (refine ⟨_, fun _ _ => rfl, ?_⟩; go_big_quiet_on)
  try simp only [Act.put, List.setIfInBounds_toArray, List.set_cons_succ, List.set_cons_zero]
  refine mix_quiet 25 rfl (by kernel_rfl) (by kernel_rfl) (by kernel_rfl) (by kernel_rfl) (by kernel_rfl) S9.out ?_
  intro K hK
  refine quiet_load_row 31 _ rfl (w4.heap.size) rfl 31 _ (0, 0) _ HG1.out Tryd.underlying31 rfl (by kernel_rfl) ?_
  go_big_quiet_on
  try simp only [Act.put, List.setIfInBounds_toArray, List.set_cons_succ, List.set_cons_zero]
  refine mix_quiet 27 rfl (by kernel_rfl) (by kernel_rfl) (by kernel_rfl) (by kernel_rfl) (by kernel_rfl) S9.out ?_
  intro K hK
  refine quiet_load_row 31 _ rfl (w4.heap.size) rfl 31 _ (0, 0) _ HG1.out Tryd.underlying31 rfl (by kernel_rfl) ?_
  go_big_quiet_on
  try simp only [Act.put, List.setIfInBounds_toArray, List.set_cons_succ, List.set_cons_zero]
  refine mix_one 26 rfl (by kernel_rfl) ?_
  intro R hR
  go_wp2_with fail
  refine (K6.out _).mono ?_
  rintro e u10 ⟨rfl, hb⟩
  have S10 := Lib.hid (S9.out.trans (hb.mono S9.out.size))
  clear hb
  go_wp2_with fail
  refine ⟨S10.out, ?_⟩
  try simp only [Act.put, List.setIfInBounds_toArray, List.set_cons_succ, List.set_cons_zero]
  refine mix_one 28 rfl (by kernel_rfl) ?_
  intro R hR
  go_wp2_with fail
  refine (K7.out _).mono ?_
  rintro e u11 ⟨rfl, hb⟩
  have S11 := Lib.hid (S10.out.trans (hb.mono S10.out.size))
  clear hb
  go_wp2_with fail
  refine ⟨S11.out, ?_⟩
  try simp only [Act.put, List.setIfInBounds_toArray, List.set_cons_succ, List.set_cons_zero]
  refine mix_quiet 29 rfl (by kernel_rfl) (by kernel_rfl) (by kernel_rfl) (by kernel_rfl) (by kernel_rfl) S11.out ?_
  intro K hK
  go_big_quiet_op
  first | go_big_quiet_on | (refine ⟨_, fun _ _ => rfl, ?_⟩; go_big_quiet_on)
  try simp only [Act.put, List.setIfInBounds_toArray, List.set_cons_succ, List.set_cons_zero]
  refine mix_quiet 30 rfl (by kernel_rfl) (by kernel_rfl) (by kernel_rfl) (by kernel_rfl) (by kernel_rfl) S11.out ?_
  intro K hK
  go_big_quiet_op
  first | go_big_quiet_on | (refine ⟨_, fun _ _ => rfl, ?_⟩; go_big_quiet_on)
  try simp only [Act.put, List.setIfInBounds_toArray, List.set_cons_succ, List.set_cons_zero]
  refine mix_quiet 31 rfl (by kernel_rfl) (by kernel_rfl) (by kernel_rfl) (by kernel_rfl) (by kernel_rfl) S11.out ?_
  intro K hK
  go_big_quiet_op
  first | go_big_quiet_on | (refine ⟨_, fun _ _ => rfl, ?_⟩; go_big_quiet_on)
  try simp only [Act.put, List.setIfInBounds_toArray, List.set_cons_succ, List.set_cons_zero]
  refine mix_done (by kernel_rfl) ?_
  go_wp2_with fail
  go_returns
  exact ⟨rfl, BW.out.trans (S11.out.mono BW.out.size)⟩
end Go.Proofs.YtbeemfkndpandaaDoor
