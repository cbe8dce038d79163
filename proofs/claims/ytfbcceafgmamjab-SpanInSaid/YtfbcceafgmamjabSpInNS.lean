/- SpanIn returns true, in one of its cases. Conditions: the numbers of the calls are as the other texts show them to be. -/
import Derived.Test.YtfbcceafgmamjabSpanC
import Derived.Test.YtfbcceafgmamjabLex
import Derived.Test.YtfbcceafgmamjabSpanf
namespace Go.Proofs.Ytfbcceafgmamjab
open Go.RowKit
set_option maxRecDepth 100000 in
set_option maxHeartbeats 8000000 in
theorem spanInNSA (a b bb lo hi x pl ph wl wh vl vh cl ch : Int) (hbb : -9223372036854775808 ≤ bb) (hbb2 : bb ≤ 9223372036854775807)
    (hn : bb < 0)
    (hs : hi < lo)
    (f1 : cl ≤ ch) (f2 : hi ≤ cl) (f3 : ch ≤ lo)
    (K0 : Hid (∀ w : World, Calls Try.prog 7 #[.int .i64 (a), .int .i64 (b)] w fun e w' => e = .returned (.agg #[.int .i64 (pl), .int .i64 (ph)]) ∧ Below w.heap.size w w'))
    (KW : Hid (∀ w : World, Calls Try.prog 17 #[.agg #[.int .i64 (pl), .int .i64 (ph)], .int .i64 (-(bb + 1))] w fun e w' => e = .returned (.agg #[.int .i64 (wl), .int .i64 (wh)]) ∧ Below w.heap.size w w'))
    (KV : Hid (∀ w : World, Calls Try.prog 17 #[.agg #[.int .i64 (wl), .int .i64 (wh)], .int .i64 (-(bb + 1))] w fun e w' => e = .returned (.agg #[.int .i64 (vl), .int .i64 (vh)]) ∧ Below w.heap.size w w'))
    (KC : Hid (∀ w : World, Calls Try.prog 20 #[.agg #[.int .i64 (pl), .int .i64 (ph)], .int .i64 (hi), .int .i64 (lo)] w fun e w' => e = .returned (.agg #[.int .i64 (cl), .int .i64 (ch)]) ∧ Below w.heap.size w w'))
    (KI1 : Hid (∀ w : World, Calls Try.prog 15 #[.agg #[.int .i64 (pl), .int .i64 (ph)], .agg #[.int .i64 (wl), .int .i64 (wh)]] w fun e w' => e = .returned (.bool true) ∧ Below w.heap.size w w'))
    (KI2 : Hid (∀ w : World, Calls Try.prog 15 #[.agg #[.int .i64 (wl), .int .i64 (wh)], .agg #[.int .i64 (vl), .int .i64 (vh)]] w fun e w' => e = .returned (.bool true) ∧ Below w.heap.size w w'))
    (KI3 : Hid (∀ w : World, Calls Try.prog 15 #[.agg #[.int .i64 (pl), .int .i64 (ph)], .agg #[.int .i64 (vl), .int .i64 (vh)]] w fun e w' => e = .returned (.bool true) ∧ Below w.heap.size w w'))
    (KN : Hid (∀ w : World, Calls Try.prog 17 #[.agg #[.int .i64 (pl), .int .i64 (ph)], .int .i64 (-1)] w fun e w' => e = .returned (.agg #[.int .i64 (pl), .int .i64 (ph)]) ∧ Below w.heap.size w w'))
    (KS : Hid (∀ (a b : Int) (w : World), Calls Try.prog 18 #[.agg #[.int .i64 a, .int .i64 b], .agg #[.int .i64 a, .int .i64 b]] w fun e w' => e = .returned (.bool true) ∧ Below w.heap.size w w'))
    (x1 : hi ≤ x) (x2 : x ≤ lo)
    (KP : Hid (∀ w : World, Calls Try.prog 9 #[.agg #[.int .i64 (pl), .int .i64 (ph)], .int .i64 (x)] w fun e w' => e = .returned (.bool true) ∧ Below w.heap.size w w'))
    (KX : Hid (∀ w : World, Calls Try.prog 9 #[.agg #[.int .i64 (cl), .int .i64 (ch)], .int .i64 (x)] w fun e w' => e = .returned (.bool true) ∧ Below w.heap.size w w')) (w : World) :
    Calls Try.prog 5 #[.int .i64 a, .int .i64 b, .int .i64 bb, .int .i64 lo, .int .i64 hi, .int .i64 x] w fun e w' => e = .returned (.bool true) ∧ Below w.heap.size w w' := by
  have t0 : Below w.heap.size w w := Below.refl _ _
  go_enter Try.func5, Try.ntmps5
  go_wp2_with fail
  refine (first2 _).mono ?_; rintro e w1 ⟨rfl, hb1⟩
  have t1 : Below w.heap.size w w1 := by first | exact below_step t0 hb1 | exact below_stepA t0 hb1
  clear hb1 t0
  go_wp2_with fail
  refine (K0.out _).mono ?_; rintro e w2 ⟨rfl, hb2⟩
  have t2 : Below w.heap.size w w2 := by first | exact below_step t1 hb2 | exact below_stepA t1 hb2
  clear hb2 t1
  go_wp2_with fail
  refine (KW.out _).mono ?_; rintro e w3 ⟨rfl, hb3⟩
  have p_3 : SpAt w3 w2.heap.size (pl) (ph) := (SpAt.new _ _ _ _).keep hb3
  have t3 : Below w.heap.size w w3 := by first | exact below_step t2 hb3 | exact below_stepA t2 hb3
  clear hb3 t2
  have pa := p_3.1; have pb := p_3.2.1; have pc := p_3.2.2
  go_wp2_with fail
  refine (KV.out _).mono ?_; rintro e w4 ⟨rfl, hb4⟩
  have p_4 : SpAt w4 w2.heap.size (pl) (ph) := by first | exact p_3.keep hb4 | exact (p_3.alloc _).keep hb4
  clear pa pb pc p_3
  have q_4 : SpAt w4 w3.heap.size (wl) (wh) := (SpAt.new _ _ _ _).keep hb4
  have t4 : Below w.heap.size w w4 := by first | exact below_step t3 hb4 | exact below_stepA t3 hb4
  clear hb4 t3
  have pa := p_4.1; have pb := p_4.2.1; have pc := p_4.2.2
  have qa := q_4.1; have qb := q_4.2.1; have qc := q_4.2.2
  go_wp2_with fail
  refine (KC.out _).mono ?_; rintro e w5 ⟨rfl, hb5⟩
  have p_5 : SpAt w5 w2.heap.size (pl) (ph) := by first | exact p_4.keep hb5 | exact (p_4.alloc _).keep hb5
  clear pa pb pc p_4
  have q_5 : SpAt w5 w3.heap.size (wl) (wh) := by first | exact q_4.keep hb5 | exact (q_4.alloc _).keep hb5
  clear qa qb qc q_4
  have r_5 : SpAt w5 w4.heap.size (vl) (vh) := (SpAt.new _ _ _ _).keep hb5
  have t5 : Below w.heap.size w w5 := by first | exact below_step t4 hb5 | exact below_stepA t4 hb5
  clear hb5 t4
  have pa := p_5.1; have pb := p_5.2.1; have pc := p_5.2.2
  have qa := q_5.1; have qb := q_5.2.1; have qc := q_5.2.2
  have ra := r_5.1; have rb := r_5.2.1; have rc := r_5.2.2
  go_wp2_with fail
  have pA := (p_5.alloc (.cells #[.int .i64 (cl), .int .i64 (ch)] 24))
  have qA := (q_5.alloc (.cells #[.int .i64 (cl), .int .i64 (ch)] 24))
  have rA := (r_5.alloc (.cells #[.int .i64 (cl), .int .i64 (ch)] 24))
  have cA := SpAt.new w5 (cl) (ch) 24
  have tA : Below w.heap.size w (w5.alloc (.cells #[.int .i64 (cl), .int .i64 (ch)] 24)) := t5.alloc t5.size _
  clear pa pb pc p_5
  have pa := fun d => reach_cell pA.1 pA.2.2 d; have pb := fun d => reach_cell pA.2.1 pA.2.2 d; clear pA
  clear qa qb qc q_5
  have qa := fun d => reach_cell qA.1 qA.2.2 d; have qb := fun d => reach_cell qA.2.1 qA.2.2 d; clear qA
  clear ra rb rc r_5
  have ra := fun d => reach_cell rA.1 rA.2.2 d; have rb := fun d => reach_cell rA.2.1 rA.2.2 d; clear rA
  have ca := fun d => reach_cell cA.1 cA.2.2 d; have cb := fun d => reach_cell cA.2.1 cA.2.2 d; clear cA
  clear t5
  have hB : (w5.alloc (.cells #[.int .i64 (cl), .int .i64 (ch)] 24)).heap.size ≤ (w5.alloc (.cells #[.int .i64 (cl), .int .i64 (ch)] 24)).heap.size := Nat.le_refl _
  have tB : ∀ d, Below w.heap.size w (reach (w5.alloc (.cells #[.int .i64 (cl), .int .i64 (ch)] 24)).heap.size (w5.alloc (.cells #[.int .i64 (cl), .int .i64 (ch)] 24)) d) := fun d => tA.trans ((reach_below _ _ d).mono tA.size)
  have TB := Lib.hid tB; clear tB tA
  generalize (w5.alloc (.cells #[.int .i64 (cl), .int .i64 (ch)] 24)) = W at *
  try simp only [List.append]
  refine wp_region_light W.heap.size (by kernel_rfl) (by kernel_rfl) (by kernel_rfl) ?_
  repeat (go_big_quiet_step ((first | (go_at_call 18; with_reducible exact reach_call hB (KS.out _ _ _)) | (go_at_call 15; with_reducible exact reach_call hB (KI1.out _)) | (go_at_call 15; with_reducible exact reach_call hB (KI2.out _)) | (go_at_call 15; with_reducible exact reach_call hB (KI3.out _)) | (go_at_call 17; with_reducible exact reach_call hB (KN.out _)) | (go_at_call 9; with_reducible exact reach_call hB (KP.out _)) | (go_at_call 9; with_reducible exact reach_call hB (KX.out _)))))
  all_goals (refine wpQuiet_nil ?_)
  all_goals (rintro w' ⟨d, rfl⟩)
  all_goals go_wp2
  all_goals go_ret
  exact ⟨rfl, TB.out d⟩
set_option maxRecDepth 100000 in
set_option maxHeartbeats 8000000 in
theorem spanInNSB (a b bb lo hi x pl ph wl wh vl vh cl ch : Int) (hbb : -9223372036854775808 ≤ bb) (hbb2 : bb ≤ 9223372036854775807)
    (hn : bb < 0)
    (hs : hi < lo)
    (f1 : cl ≤ ch) (f2 : hi ≤ cl) (f3 : ch ≤ lo)
    (K0 : Hid (∀ w : World, Calls Try.prog 7 #[.int .i64 (a), .int .i64 (b)] w fun e w' => e = .returned (.agg #[.int .i64 (pl), .int .i64 (ph)]) ∧ Below w.heap.size w w'))
    (KW : Hid (∀ w : World, Calls Try.prog 17 #[.agg #[.int .i64 (pl), .int .i64 (ph)], .int .i64 (-(bb + 1))] w fun e w' => e = .returned (.agg #[.int .i64 (wl), .int .i64 (wh)]) ∧ Below w.heap.size w w'))
    (KV : Hid (∀ w : World, Calls Try.prog 17 #[.agg #[.int .i64 (wl), .int .i64 (wh)], .int .i64 (-(bb + 1))] w fun e w' => e = .returned (.agg #[.int .i64 (vl), .int .i64 (vh)]) ∧ Below w.heap.size w w'))
    (KC : Hid (∀ w : World, Calls Try.prog 20 #[.agg #[.int .i64 (pl), .int .i64 (ph)], .int .i64 (hi), .int .i64 (lo)] w fun e w' => e = .returned (.agg #[.int .i64 (cl), .int .i64 (ch)]) ∧ Below w.heap.size w w'))
    (KI1 : Hid (∀ w : World, Calls Try.prog 15 #[.agg #[.int .i64 (pl), .int .i64 (ph)], .agg #[.int .i64 (wl), .int .i64 (wh)]] w fun e w' => e = .returned (.bool true) ∧ Below w.heap.size w w'))
    (KI2 : Hid (∀ w : World, Calls Try.prog 15 #[.agg #[.int .i64 (wl), .int .i64 (wh)], .agg #[.int .i64 (vl), .int .i64 (vh)]] w fun e w' => e = .returned (.bool true) ∧ Below w.heap.size w w'))
    (KI3 : Hid (∀ w : World, Calls Try.prog 15 #[.agg #[.int .i64 (pl), .int .i64 (ph)], .agg #[.int .i64 (vl), .int .i64 (vh)]] w fun e w' => e = .returned (.bool true) ∧ Below w.heap.size w w'))
    (KN : Hid (∀ w : World, Calls Try.prog 17 #[.agg #[.int .i64 (pl), .int .i64 (ph)], .int .i64 (-1)] w fun e w' => e = .returned (.agg #[.int .i64 (pl), .int .i64 (ph)]) ∧ Below w.heap.size w w'))
    (KS : Hid (∀ (a b : Int) (w : World), Calls Try.prog 18 #[.agg #[.int .i64 a, .int .i64 b], .agg #[.int .i64 a, .int .i64 b]] w fun e w' => e = .returned (.bool true) ∧ Below w.heap.size w w'))
    (x1 : hi ≤ x) (x2 : x ≤ lo)
    (KP : Hid (∀ w : World, Calls Try.prog 9 #[.agg #[.int .i64 (pl), .int .i64 (ph)], .int .i64 (x)] w fun e w' => e = .returned (.bool false) ∧ Below w.heap.size w w')) (w : World) :
    Calls Try.prog 5 #[.int .i64 a, .int .i64 b, .int .i64 bb, .int .i64 lo, .int .i64 hi, .int .i64 x] w fun e w' => e = .returned (.bool true) ∧ Below w.heap.size w w' := by
  have t0 : Below w.heap.size w w := Below.refl _ _
  go_enter Try.func5, Try.ntmps5
  go_wp2_with fail
  refine (first2 _).mono ?_; rintro e w1 ⟨rfl, hb1⟩
  have t1 : Below w.heap.size w w1 := by first | exact below_step t0 hb1 | exact below_stepA t0 hb1
  clear hb1 t0
  go_wp2_with fail
  refine (K0.out _).mono ?_; rintro e w2 ⟨rfl, hb2⟩
  have t2 : Below w.heap.size w w2 := by first | exact below_step t1 hb2 | exact below_stepA t1 hb2
  clear hb2 t1
  go_wp2_with fail
  refine (KW.out _).mono ?_; rintro e w3 ⟨rfl, hb3⟩
  have p_3 : SpAt w3 w2.heap.size (pl) (ph) := (SpAt.new _ _ _ _).keep hb3
  have t3 : Below w.heap.size w w3 := by first | exact below_step t2 hb3 | exact below_stepA t2 hb3
  clear hb3 t2
  have pa := p_3.1; have pb := p_3.2.1; have pc := p_3.2.2
  go_wp2_with fail
  refine (KV.out _).mono ?_; rintro e w4 ⟨rfl, hb4⟩
  have p_4 : SpAt w4 w2.heap.size (pl) (ph) := by first | exact p_3.keep hb4 | exact (p_3.alloc _).keep hb4
  clear pa pb pc p_3
  have q_4 : SpAt w4 w3.heap.size (wl) (wh) := (SpAt.new _ _ _ _).keep hb4
  have t4 : Below w.heap.size w w4 := by first | exact below_step t3 hb4 | exact below_stepA t3 hb4
  clear hb4 t3
  have pa := p_4.1; have pb := p_4.2.1; have pc := p_4.2.2
  have qa := q_4.1; have qb := q_4.2.1; have qc := q_4.2.2
  go_wp2_with fail
  refine (KC.out _).mono ?_; rintro e w5 ⟨rfl, hb5⟩
  have p_5 : SpAt w5 w2.heap.size (pl) (ph) := by first | exact p_4.keep hb5 | exact (p_4.alloc _).keep hb5
  clear pa pb pc p_4
  have q_5 : SpAt w5 w3.heap.size (wl) (wh) := by first | exact q_4.keep hb5 | exact (q_4.alloc _).keep hb5
  clear qa qb qc q_4
  have r_5 : SpAt w5 w4.heap.size (vl) (vh) := (SpAt.new _ _ _ _).keep hb5
  have t5 : Below w.heap.size w w5 := by first | exact below_step t4 hb5 | exact below_stepA t4 hb5
  clear hb5 t4
  have pa := p_5.1; have pb := p_5.2.1; have pc := p_5.2.2
  have qa := q_5.1; have qb := q_5.2.1; have qc := q_5.2.2
  have ra := r_5.1; have rb := r_5.2.1; have rc := r_5.2.2
  go_wp2_with fail
  have pA := (p_5.alloc (.cells #[.int .i64 (cl), .int .i64 (ch)] 24))
  have qA := (q_5.alloc (.cells #[.int .i64 (cl), .int .i64 (ch)] 24))
  have rA := (r_5.alloc (.cells #[.int .i64 (cl), .int .i64 (ch)] 24))
  have cA := SpAt.new w5 (cl) (ch) 24
  have tA : Below w.heap.size w (w5.alloc (.cells #[.int .i64 (cl), .int .i64 (ch)] 24)) := t5.alloc t5.size _
  clear pa pb pc p_5
  have pa := fun d => reach_cell pA.1 pA.2.2 d; have pb := fun d => reach_cell pA.2.1 pA.2.2 d; clear pA
  clear qa qb qc q_5
  have qa := fun d => reach_cell qA.1 qA.2.2 d; have qb := fun d => reach_cell qA.2.1 qA.2.2 d; clear qA
  clear ra rb rc r_5
  have ra := fun d => reach_cell rA.1 rA.2.2 d; have rb := fun d => reach_cell rA.2.1 rA.2.2 d; clear rA
  have ca := fun d => reach_cell cA.1 cA.2.2 d; have cb := fun d => reach_cell cA.2.1 cA.2.2 d; clear cA
  clear t5
  have hB : (w5.alloc (.cells #[.int .i64 (cl), .int .i64 (ch)] 24)).heap.size ≤ (w5.alloc (.cells #[.int .i64 (cl), .int .i64 (ch)] 24)).heap.size := Nat.le_refl _
  have tB : ∀ d, Below w.heap.size w (reach (w5.alloc (.cells #[.int .i64 (cl), .int .i64 (ch)] 24)).heap.size (w5.alloc (.cells #[.int .i64 (cl), .int .i64 (ch)] 24)) d) := fun d => tA.trans ((reach_below _ _ d).mono tA.size)
  have TB := Lib.hid tB; clear tB tA
  generalize (w5.alloc (.cells #[.int .i64 (cl), .int .i64 (ch)] 24)) = W at *
  try simp only [List.append]
  refine wp_region_light W.heap.size (by kernel_rfl) (by kernel_rfl) (by kernel_rfl) ?_
  repeat (go_big_quiet_step ((first | (go_at_call 18; with_reducible exact reach_call hB (KS.out _ _ _)) | (go_at_call 15; with_reducible exact reach_call hB (KI1.out _)) | (go_at_call 15; with_reducible exact reach_call hB (KI2.out _)) | (go_at_call 15; with_reducible exact reach_call hB (KI3.out _)) | (go_at_call 17; with_reducible exact reach_call hB (KN.out _)) | (go_at_call 9; with_reducible exact reach_call hB (KP.out _)))))
  all_goals (refine wpQuiet_nil ?_)
  all_goals (rintro w' ⟨d, rfl⟩)
  all_goals go_wp2
  all_goals go_ret
  exact ⟨rfl, TB.out d⟩
set_option maxRecDepth 100000 in
set_option maxHeartbeats 8000000 in
theorem spanInNSC (a b bb lo hi x pl ph wl wh vl vh cl ch : Int) (hbb : -9223372036854775808 ≤ bb) (hbb2 : bb ≤ 9223372036854775807)
    (hn : bb < 0)
    (hs : hi < lo)
    (f1 : cl ≤ ch) (f2 : hi ≤ cl) (f3 : ch ≤ lo)
    (K0 : Hid (∀ w : World, Calls Try.prog 7 #[.int .i64 (a), .int .i64 (b)] w fun e w' => e = .returned (.agg #[.int .i64 (pl), .int .i64 (ph)]) ∧ Below w.heap.size w w'))
    (KW : Hid (∀ w : World, Calls Try.prog 17 #[.agg #[.int .i64 (pl), .int .i64 (ph)], .int .i64 (-(bb + 1))] w fun e w' => e = .returned (.agg #[.int .i64 (wl), .int .i64 (wh)]) ∧ Below w.heap.size w w'))
    (KV : Hid (∀ w : World, Calls Try.prog 17 #[.agg #[.int .i64 (wl), .int .i64 (wh)], .int .i64 (-(bb + 1))] w fun e w' => e = .returned (.agg #[.int .i64 (vl), .int .i64 (vh)]) ∧ Below w.heap.size w w'))
    (KC : Hid (∀ w : World, Calls Try.prog 20 #[.agg #[.int .i64 (pl), .int .i64 (ph)], .int .i64 (hi), .int .i64 (lo)] w fun e w' => e = .returned (.agg #[.int .i64 (cl), .int .i64 (ch)]) ∧ Below w.heap.size w w'))
    (KI1 : Hid (∀ w : World, Calls Try.prog 15 #[.agg #[.int .i64 (pl), .int .i64 (ph)], .agg #[.int .i64 (wl), .int .i64 (wh)]] w fun e w' => e = .returned (.bool true) ∧ Below w.heap.size w w'))
    (KI2 : Hid (∀ w : World, Calls Try.prog 15 #[.agg #[.int .i64 (wl), .int .i64 (wh)], .agg #[.int .i64 (vl), .int .i64 (vh)]] w fun e w' => e = .returned (.bool true) ∧ Below w.heap.size w w'))
    (KI3 : Hid (∀ w : World, Calls Try.prog 15 #[.agg #[.int .i64 (pl), .int .i64 (ph)], .agg #[.int .i64 (vl), .int .i64 (vh)]] w fun e w' => e = .returned (.bool true) ∧ Below w.heap.size w w'))
    (KN : Hid (∀ w : World, Calls Try.prog 17 #[.agg #[.int .i64 (pl), .int .i64 (ph)], .int .i64 (-1)] w fun e w' => e = .returned (.agg #[.int .i64 (pl), .int .i64 (ph)]) ∧ Below w.heap.size w w'))
    (KS : Hid (∀ (a b : Int) (w : World), Calls Try.prog 18 #[.agg #[.int .i64 a, .int .i64 b], .agg #[.int .i64 a, .int .i64 b]] w fun e w' => e = .returned (.bool true) ∧ Below w.heap.size w w'))
    (x1 : hi ≤ x) (x2 : decide (x ≤ lo) = false) (w : World) :
    Calls Try.prog 5 #[.int .i64 a, .int .i64 b, .int .i64 bb, .int .i64 lo, .int .i64 hi, .int .i64 x] w fun e w' => e = .returned (.bool true) ∧ Below w.heap.size w w' := by
  have t0 : Below w.heap.size w w := Below.refl _ _
  go_enter Try.func5, Try.ntmps5
  go_wp2_with fail
  refine (first2 _).mono ?_; rintro e w1 ⟨rfl, hb1⟩
  have t1 : Below w.heap.size w w1 := by first | exact below_step t0 hb1 | exact below_stepA t0 hb1
  clear hb1 t0
  go_wp2_with fail
  refine (K0.out _).mono ?_; rintro e w2 ⟨rfl, hb2⟩
  have t2 : Below w.heap.size w w2 := by first | exact below_step t1 hb2 | exact below_stepA t1 hb2
  clear hb2 t1
  go_wp2_with fail
  refine (KW.out _).mono ?_; rintro e w3 ⟨rfl, hb3⟩
  have p_3 : SpAt w3 w2.heap.size (pl) (ph) := (SpAt.new _ _ _ _).keep hb3
  have t3 : Below w.heap.size w w3 := by first | exact below_step t2 hb3 | exact below_stepA t2 hb3
  clear hb3 t2
  have pa := p_3.1; have pb := p_3.2.1; have pc := p_3.2.2
  go_wp2_with fail
  refine (KV.out _).mono ?_; rintro e w4 ⟨rfl, hb4⟩
  have p_4 : SpAt w4 w2.heap.size (pl) (ph) := by first | exact p_3.keep hb4 | exact (p_3.alloc _).keep hb4
  clear pa pb pc p_3
  have q_4 : SpAt w4 w3.heap.size (wl) (wh) := (SpAt.new _ _ _ _).keep hb4
  have t4 : Below w.heap.size w w4 := by first | exact below_step t3 hb4 | exact below_stepA t3 hb4
  clear hb4 t3
  have pa := p_4.1; have pb := p_4.2.1; have pc := p_4.2.2
  have qa := q_4.1; have qb := q_4.2.1; have qc := q_4.2.2
  go_wp2_with fail
  refine (KC.out _).mono ?_; rintro e w5 ⟨rfl, hb5⟩
  have p_5 : SpAt w5 w2.heap.size (pl) (ph) := by first | exact p_4.keep hb5 | exact (p_4.alloc _).keep hb5
  clear pa pb pc p_4
  have q_5 : SpAt w5 w3.heap.size (wl) (wh) := by first | exact q_4.keep hb5 | exact (q_4.alloc _).keep hb5
  clear qa qb qc q_4
  have r_5 : SpAt w5 w4.heap.size (vl) (vh) := (SpAt.new _ _ _ _).keep hb5
  have t5 : Below w.heap.size w w5 := by first | exact below_step t4 hb5 | exact below_stepA t4 hb5
  clear hb5 t4
  have pa := p_5.1; have pb := p_5.2.1; have pc := p_5.2.2
  have qa := q_5.1; have qb := q_5.2.1; have qc := q_5.2.2
  have ra := r_5.1; have rb := r_5.2.1; have rc := r_5.2.2
  go_wp2_with fail
  have pA := (p_5.alloc (.cells #[.int .i64 (cl), .int .i64 (ch)] 24))
  have qA := (q_5.alloc (.cells #[.int .i64 (cl), .int .i64 (ch)] 24))
  have rA := (r_5.alloc (.cells #[.int .i64 (cl), .int .i64 (ch)] 24))
  have cA := SpAt.new w5 (cl) (ch) 24
  have tA : Below w.heap.size w (w5.alloc (.cells #[.int .i64 (cl), .int .i64 (ch)] 24)) := t5.alloc t5.size _
  clear pa pb pc p_5
  have pa := fun d => reach_cell pA.1 pA.2.2 d; have pb := fun d => reach_cell pA.2.1 pA.2.2 d; clear pA
  clear qa qb qc q_5
  have qa := fun d => reach_cell qA.1 qA.2.2 d; have qb := fun d => reach_cell qA.2.1 qA.2.2 d; clear qA
  clear ra rb rc r_5
  have ra := fun d => reach_cell rA.1 rA.2.2 d; have rb := fun d => reach_cell rA.2.1 rA.2.2 d; clear rA
  have ca := fun d => reach_cell cA.1 cA.2.2 d; have cb := fun d => reach_cell cA.2.1 cA.2.2 d; clear cA
  clear t5
  have hB : (w5.alloc (.cells #[.int .i64 (cl), .int .i64 (ch)] 24)).heap.size ≤ (w5.alloc (.cells #[.int .i64 (cl), .int .i64 (ch)] 24)).heap.size := Nat.le_refl _
  have tB : ∀ d, Below w.heap.size w (reach (w5.alloc (.cells #[.int .i64 (cl), .int .i64 (ch)] 24)).heap.size (w5.alloc (.cells #[.int .i64 (cl), .int .i64 (ch)] 24)) d) := fun d => tA.trans ((reach_below _ _ d).mono tA.size)
  have TB := Lib.hid tB; clear tB tA
  generalize (w5.alloc (.cells #[.int .i64 (cl), .int .i64 (ch)] 24)) = W at *
  try simp only [List.append]
  refine wp_region_light W.heap.size (by kernel_rfl) (by kernel_rfl) (by kernel_rfl) ?_
  repeat (go_big_quiet_step ((first | (go_at_call 18; with_reducible exact reach_call hB (KS.out _ _ _)) | (go_at_call 15; with_reducible exact reach_call hB (KI1.out _)) | (go_at_call 15; with_reducible exact reach_call hB (KI2.out _)) | (go_at_call 15; with_reducible exact reach_call hB (KI3.out _)) | (go_at_call 17; with_reducible exact reach_call hB (KN.out _)))))
  all_goals (refine wpQuiet_nil ?_)
  all_goals (rintro w' ⟨d, rfl⟩)
  all_goals go_wp2
  all_goals go_ret
  exact ⟨rfl, TB.out d⟩
set_option maxRecDepth 100000 in
set_option maxHeartbeats 8000000 in
theorem spanInNSD (a b bb lo hi x pl ph wl wh vl vh cl ch : Int) (hbb : -9223372036854775808 ≤ bb) (hbb2 : bb ≤ 9223372036854775807)
    (hn : bb < 0)
    (hs : hi < lo)
    (f1 : cl ≤ ch) (f2 : hi ≤ cl) (f3 : ch ≤ lo)
    (K0 : Hid (∀ w : World, Calls Try.prog 7 #[.int .i64 (a), .int .i64 (b)] w fun e w' => e = .returned (.agg #[.int .i64 (pl), .int .i64 (ph)]) ∧ Below w.heap.size w w'))
    (KW : Hid (∀ w : World, Calls Try.prog 17 #[.agg #[.int .i64 (pl), .int .i64 (ph)], .int .i64 (-(bb + 1))] w fun e w' => e = .returned (.agg #[.int .i64 (wl), .int .i64 (wh)]) ∧ Below w.heap.size w w'))
    (KV : Hid (∀ w : World, Calls Try.prog 17 #[.agg #[.int .i64 (wl), .int .i64 (wh)], .int .i64 (-(bb + 1))] w fun e w' => e = .returned (.agg #[.int .i64 (vl), .int .i64 (vh)]) ∧ Below w.heap.size w w'))
    (KC : Hid (∀ w : World, Calls Try.prog 20 #[.agg #[.int .i64 (pl), .int .i64 (ph)], .int .i64 (hi), .int .i64 (lo)] w fun e w' => e = .returned (.agg #[.int .i64 (cl), .int .i64 (ch)]) ∧ Below w.heap.size w w'))
    (KI1 : Hid (∀ w : World, Calls Try.prog 15 #[.agg #[.int .i64 (pl), .int .i64 (ph)], .agg #[.int .i64 (wl), .int .i64 (wh)]] w fun e w' => e = .returned (.bool true) ∧ Below w.heap.size w w'))
    (KI2 : Hid (∀ w : World, Calls Try.prog 15 #[.agg #[.int .i64 (wl), .int .i64 (wh)], .agg #[.int .i64 (vl), .int .i64 (vh)]] w fun e w' => e = .returned (.bool true) ∧ Below w.heap.size w w'))
    (KI3 : Hid (∀ w : World, Calls Try.prog 15 #[.agg #[.int .i64 (pl), .int .i64 (ph)], .agg #[.int .i64 (vl), .int .i64 (vh)]] w fun e w' => e = .returned (.bool true) ∧ Below w.heap.size w w'))
    (KN : Hid (∀ w : World, Calls Try.prog 17 #[.agg #[.int .i64 (pl), .int .i64 (ph)], .int .i64 (-1)] w fun e w' => e = .returned (.agg #[.int .i64 (pl), .int .i64 (ph)]) ∧ Below w.heap.size w w'))
    (KS : Hid (∀ (a b : Int) (w : World), Calls Try.prog 18 #[.agg #[.int .i64 a, .int .i64 b], .agg #[.int .i64 a, .int .i64 b]] w fun e w' => e = .returned (.bool true) ∧ Below w.heap.size w w'))
    (x1 : decide (hi ≤ x) = false) (w : World) :
    Calls Try.prog 5 #[.int .i64 a, .int .i64 b, .int .i64 bb, .int .i64 lo, .int .i64 hi, .int .i64 x] w fun e w' => e = .returned (.bool true) ∧ Below w.heap.size w w' := by
  have t0 : Below w.heap.size w w := Below.refl _ _
  go_enter Try.func5, Try.ntmps5
  go_wp2_with fail
  refine (first2 _).mono ?_; rintro e w1 ⟨rfl, hb1⟩
  have t1 : Below w.heap.size w w1 := by first | exact below_step t0 hb1 | exact below_stepA t0 hb1
  clear hb1 t0
  go_wp2_with fail
  refine (K0.out _).mono ?_; rintro e w2 ⟨rfl, hb2⟩
  have t2 : Below w.heap.size w w2 := by first | exact below_step t1 hb2 | exact below_stepA t1 hb2
  clear hb2 t1
  go_wp2_with fail
  refine (KW.out _).mono ?_; rintro e w3 ⟨rfl, hb3⟩
  have p_3 : SpAt w3 w2.heap.size (pl) (ph) := (SpAt.new _ _ _ _).keep hb3
  have t3 : Below w.heap.size w w3 := by first | exact below_step t2 hb3 | exact below_stepA t2 hb3
  clear hb3 t2
  have pa := p_3.1; have pb := p_3.2.1; have pc := p_3.2.2
  go_wp2_with fail
  refine (KV.out _).mono ?_; rintro e w4 ⟨rfl, hb4⟩
  have p_4 : SpAt w4 w2.heap.size (pl) (ph) := by first | exact p_3.keep hb4 | exact (p_3.alloc _).keep hb4
  clear pa pb pc p_3
  have q_4 : SpAt w4 w3.heap.size (wl) (wh) := (SpAt.new _ _ _ _).keep hb4
  have t4 : Below w.heap.size w w4 := by first | exact below_step t3 hb4 | exact below_stepA t3 hb4
  clear hb4 t3
  have pa := p_4.1; have pb := p_4.2.1; have pc := p_4.2.2
  have qa := q_4.1; have qb := q_4.2.1; have qc := q_4.2.2
  go_wp2_with fail
  refine (KC.out _).mono ?_; rintro e w5 ⟨rfl, hb5⟩
  have p_5 : SpAt w5 w2.heap.size (pl) (ph) := by first | exact p_4.keep hb5 | exact (p_4.alloc _).keep hb5
  clear pa pb pc p_4
  have q_5 : SpAt w5 w3.heap.size (wl) (wh) := by first | exact q_4.keep hb5 | exact (q_4.alloc _).keep hb5
  clear qa qb qc q_4
  have r_5 : SpAt w5 w4.heap.size (vl) (vh) := (SpAt.new _ _ _ _).keep hb5
  have t5 : Below w.heap.size w w5 := by first | exact below_step t4 hb5 | exact below_stepA t4 hb5
  clear hb5 t4
  have pa := p_5.1; have pb := p_5.2.1; have pc := p_5.2.2
  have qa := q_5.1; have qb := q_5.2.1; have qc := q_5.2.2
  have ra := r_5.1; have rb := r_5.2.1; have rc := r_5.2.2
  go_wp2_with fail
  have pA := (p_5.alloc (.cells #[.int .i64 (cl), .int .i64 (ch)] 24))
  have qA := (q_5.alloc (.cells #[.int .i64 (cl), .int .i64 (ch)] 24))
  have rA := (r_5.alloc (.cells #[.int .i64 (cl), .int .i64 (ch)] 24))
  have cA := SpAt.new w5 (cl) (ch) 24
  have tA : Below w.heap.size w (w5.alloc (.cells #[.int .i64 (cl), .int .i64 (ch)] 24)) := t5.alloc t5.size _
  clear pa pb pc p_5
  have pa := fun d => reach_cell pA.1 pA.2.2 d; have pb := fun d => reach_cell pA.2.1 pA.2.2 d; clear pA
  clear qa qb qc q_5
  have qa := fun d => reach_cell qA.1 qA.2.2 d; have qb := fun d => reach_cell qA.2.1 qA.2.2 d; clear qA
  clear ra rb rc r_5
  have ra := fun d => reach_cell rA.1 rA.2.2 d; have rb := fun d => reach_cell rA.2.1 rA.2.2 d; clear rA
  have ca := fun d => reach_cell cA.1 cA.2.2 d; have cb := fun d => reach_cell cA.2.1 cA.2.2 d; clear cA
  clear t5
  have hB : (w5.alloc (.cells #[.int .i64 (cl), .int .i64 (ch)] 24)).heap.size ≤ (w5.alloc (.cells #[.int .i64 (cl), .int .i64 (ch)] 24)).heap.size := Nat.le_refl _
  have tB : ∀ d, Below w.heap.size w (reach (w5.alloc (.cells #[.int .i64 (cl), .int .i64 (ch)] 24)).heap.size (w5.alloc (.cells #[.int .i64 (cl), .int .i64 (ch)] 24)) d) := fun d => tA.trans ((reach_below _ _ d).mono tA.size)
  have TB := Lib.hid tB; clear tB tA
  generalize (w5.alloc (.cells #[.int .i64 (cl), .int .i64 (ch)] 24)) = W at *
  try simp only [List.append]
  refine wp_region_light W.heap.size (by kernel_rfl) (by kernel_rfl) (by kernel_rfl) ?_
  repeat (go_big_quiet_step ((first | (go_at_call 18; with_reducible exact reach_call hB (KS.out _ _ _)) | (go_at_call 15; with_reducible exact reach_call hB (KI1.out _)) | (go_at_call 15; with_reducible exact reach_call hB (KI2.out _)) | (go_at_call 15; with_reducible exact reach_call hB (KI3.out _)) | (go_at_call 17; with_reducible exact reach_call hB (KN.out _)))))
  all_goals (refine wpQuiet_nil ?_)
  all_goals (rintro w' ⟨d, rfl⟩)
  all_goals go_wp2
  all_goals go_ret
  exact ⟨rfl, TB.out d⟩
end Go.Proofs.Ytfbcceafgmamjab
