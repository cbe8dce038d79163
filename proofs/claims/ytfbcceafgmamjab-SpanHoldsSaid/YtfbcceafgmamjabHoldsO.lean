/- SpanHolds returns true, in one of its cases. Conditions: the numbers of the calls are as the other texts show them to be. -/
import Derived.Test.YtfbcceafgmamjabSpanC
import Derived.Test.YtfbcceafgmamjabLex
import Derived.Test.YtfbcceafgmamjabSpanf
import Derived.Test.YtfbcceafgmamjabIns
namespace Go.Proofs.Ytfbcceafgmamjab
open Go.RowKit
set_option maxRecDepth 100000 in
set_option maxHeartbeats 8000000 in
theorem holdsOP (a b c d x y k pl ph ql qh X Y al ah sl sh cl ch hl hh rl rh wl wh xl xh : Int) (bX1 : -1073741824 ≤ X) (bX2 : X ≤ 1073741824) (bY1 : -1073741824 ≤ Y) (bY2 : Y ≤ 1073741824) (bM1 : -1152921504606846976 ≤ X * (k.tmod 1073741824)) (bM2 : X * (k.tmod 1073741824) ≤ 1152921504606846976)
    (kc : 1 ≤ k.tmod 1073741824)
    (m1 : pl ≤ qh) (m2 : decide (ql ≤ ph) = false)
    (K0 : Hid (∀ w : World, Calls Try.prog 7 #[.int .i64 (a.tmod 1073741824), .int .i64 (b.tmod 1073741824)] w fun e w' => e = .returned (.agg #[.int .i64 (pl), .int .i64 (ph)]) ∧ Below w.heap.size w w'))
    (K1 : Hid (∀ w : World, Calls Try.prog 7 #[.int .i64 (c.tmod 1073741824), .int .i64 (d.tmod 1073741824)] w fun e w' => e = .returned (.agg #[.int .i64 (ql), .int .i64 (qh)]) ∧ Below w.heap.size w w'))
    (KXi : Hid (∀ w : World, Calls Try.prog 8 #[.agg #[.int .i64 (pl), .int .i64 (ph)], .int .i64 (x)] w fun e w' => e = .returned (.int .i64 X) ∧ Below w.heap.size w w'))
    (KYi : Hid (∀ w : World, Calls Try.prog 8 #[.agg #[.int .i64 (ql), .int .i64 (qh)], .int .i64 (y)] w fun e w' => e = .returned (.int .i64 Y) ∧ Below w.heap.size w w'))
    (KA : Hid (∀ w : World, Calls Try.prog 10 #[.agg #[.int .i64 (pl), .int .i64 (ph)], .agg #[.int .i64 (ql), .int .i64 (qh)]] w fun e w' => e = .returned (.agg #[.int .i64 (al), .int .i64 (ah)]) ∧ Below w.heap.size w w'))
    (KB : Hid (∀ w : World, Calls Try.prog 11 #[.agg #[.int .i64 (pl), .int .i64 (ph)], .agg #[.int .i64 (ql), .int .i64 (qh)]] w fun e w' => e = .returned (.agg #[.int .i64 (sl), .int .i64 (sh)]) ∧ Below w.heap.size w w'))
    (KC : Hid (∀ w : World, Calls Try.prog 12 #[.agg #[.int .i64 (pl), .int .i64 (ph)], .int .i64 (k.tmod 1073741824)] w fun e w' => e = .returned (.agg #[.int .i64 (cl), .int .i64 (ch)]) ∧ Below w.heap.size w w'))
    (KH : Hid (∀ w : World, Calls Try.prog 13 #[.agg #[.int .i64 (pl), .int .i64 (ph)], .agg #[.int .i64 (ql), .int .i64 (qh)]] w fun e w' => e = .returned (.agg #[.int .i64 (hl), .int .i64 (hh)]) ∧ Below w.heap.size w w'))
    (h1 : Hid (∀ w : World, Calls Try.prog 9 #[.agg #[.int .i64 (pl), .int .i64 (ph)], .int .i64 (X)] w fun e w' => e = .returned (.bool true) ∧ Below w.heap.size w w'))
    (h2 : Hid (∀ w : World, Calls Try.prog 9 #[.agg #[.int .i64 (ql), .int .i64 (qh)], .int .i64 (Y)] w fun e w' => e = .returned (.bool true) ∧ Below w.heap.size w w'))
    (h3 : Hid (∀ w : World, Calls Try.prog 9 #[.agg #[.int .i64 (al), .int .i64 (ah)], .int .i64 (X + Y)] w fun e w' => e = .returned (.bool true) ∧ Below w.heap.size w w'))
    (h4 : Hid (∀ w : World, Calls Try.prog 9 #[.agg #[.int .i64 (sl), .int .i64 (sh)], .int .i64 (X - Y)] w fun e w' => e = .returned (.bool true) ∧ Below w.heap.size w w'))
    (h5 : Hid (∀ w : World, Calls Try.prog 9 #[.agg #[.int .i64 (cl), .int .i64 (ch)], .int .i64 (X * (k.tmod 1073741824))] w fun e w' => e = .returned (.bool true) ∧ Below w.heap.size w w'))
    (h6 : Hid (∀ w : World, Calls Try.prog 9 #[.agg #[.int .i64 (hl), .int .i64 (hh)], .int .i64 (X)] w fun e w' => e = .returned (.bool true) ∧ Below w.heap.size w w'))
    (h7 : Hid (∀ w : World, Calls Try.prog 9 #[.agg #[.int .i64 (hl), .int .i64 (hh)], .int .i64 (Y)] w fun e w' => e = .returned (.bool true) ∧ Below w.heap.size w w'))
    (KM : Hid (∀ w : World, Calls Try.prog 14 #[.agg #[.int .i64 (pl), .int .i64 (ph)], .agg #[.int .i64 (ql), .int .i64 (qh)]] w fun e w' => e = .returned (.tuple #[.agg #[.int .i64 (0), .int .i64 (0)], .bool false]) ∧ Below w.heap.size w w'))
    (KR : Hid (∀ w : World, Calls Try.prog 16 #[.agg #[.int .i64 (pl), .int .i64 (ph)], .int .i64 (k.tmod 1073741824)] w fun e w' => e = .returned (.agg #[.int .i64 (rl), .int .i64 (rh)]) ∧ Below w.heap.size w w'))
    (h8 : Hid (∀ w : World, Calls Try.prog 9 #[.agg #[.int .i64 (rl), .int .i64 (rh)], .int .i64 (X.tdiv (k.tmod 1073741824))] w fun e w' => e = .returned (.bool true) ∧ Below w.heap.size w w'))
    (KW : Hid (∀ w : World, Calls Try.prog 17 #[.agg #[.int .i64 (pl), .int .i64 (ph)], .int .i64 (k.tmod 1073741824)] w fun e w' => e = .returned (.agg #[.int .i64 (wl), .int .i64 (wh)]) ∧ Below w.heap.size w w'))
    (i3 : Hid (∀ w : World, Calls Try.prog 15 #[.agg #[.int .i64 (pl), .int .i64 (ph)], .agg #[.int .i64 (wl), .int .i64 (wh)]] w fun e w' => e = .returned (.bool true) ∧ Below w.heap.size w w'))
    (KT : Hid (∀ w : World, Calls Try.prog 19 #[.int .i64 (Y)] w fun e w' => e = .returned (.agg #[.int .i64 (Y), .int .i64 (Y)]) ∧ Below w.heap.size w w'))
    (KD : Hid (∀ w : World, Calls Try.prog 10 #[.agg #[.int .i64 (pl), .int .i64 (ph)], .agg #[.int .i64 (Y), .int .i64 (Y)]] w fun e w' => e = .returned (.agg #[.int .i64 (xl), .int .i64 (xh)]) ∧ Below w.heap.size w w'))
    (KE : Hid (∀ w : World, Calls Try.prog 11 #[.agg #[.int .i64 (xl), .int .i64 (xh)], .agg #[.int .i64 (Y), .int .i64 (Y)]] w fun e w' => e = .returned (.agg #[.int .i64 (pl), .int .i64 (ph)]) ∧ Below w.heap.size w w'))
    (KS : Hid (∀ (a b : Int) (w : World), Calls Try.prog 18 #[.agg #[.int .i64 a, .int .i64 b], .agg #[.int .i64 a, .int .i64 b]] w fun e w' => e = .returned (.bool true) ∧ Below w.heap.size w w')) (w : World) :
    Calls Try.prog 3 #[.int .i64 a, .int .i64 b, .int .i64 c, .int .i64 d, .int .i64 x, .int .i64 y, .int .i64 k] w fun e w' => e = .returned (.bool true) ∧ Below w.heap.size w w' := by
  have t0 : Below w.heap.size w w := Below.refl _ _
  go_enter Try.func3, Try.ntmps3
  go_wp2_with fail
  refine (first2 _).mono ?_; rintro e w1 ⟨rfl, hb1⟩
  have t1 : Below w.heap.size w w1 := by first | exact below_step t0 hb1 | exact below_stepA t0 hb1
  clear hb1 t0
  go_wp2_with fail
  refine (K0.out _).mono ?_; rintro e w2 ⟨rfl, hb2⟩
  have t2 : Below w.heap.size w w2 := by first | exact below_step t1 hb2 | exact below_stepA t1 hb2
  clear hb2 t1
  go_wp2_with fail
  refine (K1.out _).mono ?_; rintro e w3 ⟨rfl, hb3⟩
  have p_3 : SpAt w3 w2.heap.size (pl) (ph) := (SpAt.new _ _ _ _).keep hb3
  have t3 : Below w.heap.size w w3 := by first | exact below_step t2 hb3 | exact below_stepA t2 hb3
  clear hb3 t2
  have pa := p_3.1; have pb := p_3.2.1; have pc := p_3.2.2
  go_wp2_with fail
  refine (KXi.out _).mono ?_; rintro e w4 ⟨rfl, hb4⟩
  have p_4 : SpAt w4 w2.heap.size (pl) (ph) := by first | exact p_3.keep hb4 | exact (p_3.alloc _).keep hb4
  clear pa pb pc p_3
  have q_4 : SpAt w4 w3.heap.size (ql) (qh) := (SpAt.new _ _ _ _).keep hb4
  have t4 : Below w.heap.size w w4 := by first | exact below_step t3 hb4 | exact below_stepA t3 hb4
  clear hb4 t3
  have pa := p_4.1; have pb := p_4.2.1; have pc := p_4.2.2
  have qa := q_4.1; have qb := q_4.2.1; have qc := q_4.2.2
  go_wp2_with fail
  refine (KYi.out _).mono ?_; rintro e w5 ⟨rfl, hb5⟩
  have p_5 : SpAt w5 w2.heap.size (pl) (ph) := by first | exact p_4.keep hb5 | exact (p_4.alloc _).keep hb5
  clear pa pb pc p_4
  have q_5 : SpAt w5 w3.heap.size (ql) (qh) := by first | exact q_4.keep hb5 | exact (q_4.alloc _).keep hb5
  clear qa qb qc q_4
  have t5 : Below w.heap.size w w5 := by first | exact below_step t4 hb5 | exact below_stepA t4 hb5
  clear hb5 t4
  have pa := p_5.1; have pb := p_5.2.1; have pc := p_5.2.2
  have qa := q_5.1; have qb := q_5.2.1; have qc := q_5.2.2
  go_wp2_with fail
  refine (h1.out _).mono ?_; rintro e w6 ⟨rfl, hb6⟩
  have p_6 : SpAt w6 w2.heap.size (pl) (ph) := by first | exact p_5.keep hb6 | exact (p_5.alloc _).keep hb6
  clear pa pb pc p_5
  have q_6 : SpAt w6 w3.heap.size (ql) (qh) := by first | exact q_5.keep hb6 | exact (q_5.alloc _).keep hb6
  clear qa qb qc q_5
  have t6 : Below w.heap.size w w6 := by first | exact below_step t5 hb6 | exact below_stepA t5 hb6
  clear hb6 t5
  have pa := p_6.1; have pb := p_6.2.1; have pc := p_6.2.2
  have qa := q_6.1; have qb := q_6.2.1; have qc := q_6.2.2
  go_wp2_with fail
  refine (h2.out _).mono ?_; rintro e w7 ⟨rfl, hb7⟩
  have p_7 : SpAt w7 w2.heap.size (pl) (ph) := by first | exact p_6.keep hb7 | exact (p_6.alloc _).keep hb7
  clear pa pb pc p_6
  have q_7 : SpAt w7 w3.heap.size (ql) (qh) := by first | exact q_6.keep hb7 | exact (q_6.alloc _).keep hb7
  clear qa qb qc q_6
  have t7 : Below w.heap.size w w7 := by first | exact below_step t6 hb7 | exact below_stepA t6 hb7
  clear hb7 t6
  have pa := p_7.1; have pb := p_7.2.1; have pc := p_7.2.2
  have qa := q_7.1; have qb := q_7.2.1; have qc := q_7.2.2
  go_wp2_with fail
  refine (KA.out _).mono ?_; rintro e w8 ⟨rfl, hb8⟩
  have p_8 : SpAt w8 w2.heap.size (pl) (ph) := by first | exact p_7.keep hb8 | exact (p_7.alloc _).keep hb8
  clear pa pb pc p_7
  have q_8 : SpAt w8 w3.heap.size (ql) (qh) := by first | exact q_7.keep hb8 | exact (q_7.alloc _).keep hb8
  clear qa qb qc q_7
  have t8 : Below w.heap.size w w8 := by first | exact below_step t7 hb8 | exact below_stepA t7 hb8
  clear hb8 t7
  have pa := p_8.1; have pb := p_8.2.1; have pc := p_8.2.2
  have qa := q_8.1; have qb := q_8.2.1; have qc := q_8.2.2
  go_wp2_with fail
  refine (h3.out _).mono ?_; rintro e w9 ⟨rfl, hb9⟩
  have p_9 : SpAt w9 w2.heap.size (pl) (ph) := by first | exact p_8.keep hb9 | exact (p_8.alloc _).keep hb9
  clear pa pb pc p_8
  have q_9 : SpAt w9 w3.heap.size (ql) (qh) := by first | exact q_8.keep hb9 | exact (q_8.alloc _).keep hb9
  clear qa qb qc q_8
  have t9 : Below w.heap.size w w9 := by first | exact below_step t8 hb9 | exact below_stepA t8 hb9
  clear hb9 t8
  have pa := p_9.1; have pb := p_9.2.1; have pc := p_9.2.2
  have qa := q_9.1; have qb := q_9.2.1; have qc := q_9.2.2
  go_wp2_with fail
  refine (KB.out _).mono ?_; rintro e w10 ⟨rfl, hb10⟩
  have p_10 : SpAt w10 w2.heap.size (pl) (ph) := by first | exact p_9.keep hb10 | exact (p_9.alloc _).keep hb10
  clear pa pb pc p_9
  have q_10 : SpAt w10 w3.heap.size (ql) (qh) := by first | exact q_9.keep hb10 | exact (q_9.alloc _).keep hb10
  clear qa qb qc q_9
  have t10 : Below w.heap.size w w10 := by first | exact below_step t9 hb10 | exact below_stepA t9 hb10
  clear hb10 t9
  have pa := p_10.1; have pb := p_10.2.1; have pc := p_10.2.2
  have qa := q_10.1; have qb := q_10.2.1; have qc := q_10.2.2
  go_wp2_with fail
  refine (h4.out _).mono ?_; rintro e w11 ⟨rfl, hb11⟩
  have p_11 : SpAt w11 w2.heap.size (pl) (ph) := by first | exact p_10.keep hb11 | exact (p_10.alloc _).keep hb11
  clear pa pb pc p_10
  have q_11 : SpAt w11 w3.heap.size (ql) (qh) := by first | exact q_10.keep hb11 | exact (q_10.alloc _).keep hb11
  clear qa qb qc q_10
  have t11 : Below w.heap.size w w11 := by first | exact below_step t10 hb11 | exact below_stepA t10 hb11
  clear hb11 t10
  have pa := p_11.1; have pb := p_11.2.1; have pc := p_11.2.2
  have qa := q_11.1; have qb := q_11.2.1; have qc := q_11.2.2
  go_wp2_with fail
  refine (KC.out _).mono ?_; rintro e w12 ⟨rfl, hb12⟩
  have p_12 : SpAt w12 w2.heap.size (pl) (ph) := by first | exact p_11.keep hb12 | exact (p_11.alloc _).keep hb12
  clear pa pb pc p_11
  have q_12 : SpAt w12 w3.heap.size (ql) (qh) := by first | exact q_11.keep hb12 | exact (q_11.alloc _).keep hb12
  clear qa qb qc q_11
  have t12 : Below w.heap.size w w12 := by first | exact below_step t11 hb12 | exact below_stepA t11 hb12
  clear hb12 t11
  have pa := p_12.1; have pb := p_12.2.1; have pc := p_12.2.2
  have qa := q_12.1; have qb := q_12.2.1; have qc := q_12.2.2
  go_wp2_with fail
  refine (h5.out _).mono ?_; rintro e w13 ⟨rfl, hb13⟩
  have p_13 : SpAt w13 w2.heap.size (pl) (ph) := by first | exact p_12.keep hb13 | exact (p_12.alloc _).keep hb13
  clear pa pb pc p_12
  have q_13 : SpAt w13 w3.heap.size (ql) (qh) := by first | exact q_12.keep hb13 | exact (q_12.alloc _).keep hb13
  clear qa qb qc q_12
  have t13 : Below w.heap.size w w13 := by first | exact below_step t12 hb13 | exact below_stepA t12 hb13
  clear hb13 t12
  have pa := p_13.1; have pb := p_13.2.1; have pc := p_13.2.2
  have qa := q_13.1; have qb := q_13.2.1; have qc := q_13.2.2
  go_wp2_with fail
  refine (KH.out _).mono ?_; rintro e w14 ⟨rfl, hb14⟩
  have p_14 : SpAt w14 w2.heap.size (pl) (ph) := by first | exact p_13.keep hb14 | exact (p_13.alloc _).keep hb14
  clear pa pb pc p_13
  have q_14 : SpAt w14 w3.heap.size (ql) (qh) := by first | exact q_13.keep hb14 | exact (q_13.alloc _).keep hb14
  clear qa qb qc q_13
  have t14 : Below w.heap.size w w14 := by first | exact below_step t13 hb14 | exact below_stepA t13 hb14
  clear hb14 t13
  have pa := p_14.1; have pb := p_14.2.1; have pc := p_14.2.2
  have qa := q_14.1; have qb := q_14.2.1; have qc := q_14.2.2
  go_wp2_with fail
  refine (h6.out _).mono ?_; rintro e w15 ⟨rfl, hb15⟩
  have p_15 : SpAt w15 w2.heap.size (pl) (ph) := by first | exact p_14.keep hb15 | exact (p_14.alloc _).keep hb15
  clear pa pb pc p_14
  have q_15 : SpAt w15 w3.heap.size (ql) (qh) := by first | exact q_14.keep hb15 | exact (q_14.alloc _).keep hb15
  clear qa qb qc q_14
  have t15 : Below w.heap.size w w15 := by first | exact below_step t14 hb15 | exact below_stepA t14 hb15
  clear hb15 t14
  have pa := p_15.1; have pb := p_15.2.1; have pc := p_15.2.2
  have qa := q_15.1; have qb := q_15.2.1; have qc := q_15.2.2
  go_wp2_with fail
  refine (KH.out _).mono ?_; rintro e w16 ⟨rfl, hb16⟩
  have p_16 : SpAt w16 w2.heap.size (pl) (ph) := by first | exact p_15.keep hb16 | exact (p_15.alloc _).keep hb16
  clear pa pb pc p_15
  have q_16 : SpAt w16 w3.heap.size (ql) (qh) := by first | exact q_15.keep hb16 | exact (q_15.alloc _).keep hb16
  clear qa qb qc q_15
  have t16 : Below w.heap.size w w16 := by first | exact below_step t15 hb16 | exact below_stepA t15 hb16
  clear hb16 t15
  have pa := p_16.1; have pb := p_16.2.1; have pc := p_16.2.2
  have qa := q_16.1; have qb := q_16.2.1; have qc := q_16.2.2
  go_wp2_with fail
  refine (h7.out _).mono ?_; rintro e w17 ⟨rfl, hb17⟩
  have p_17 : SpAt w17 w2.heap.size (pl) (ph) := by first | exact p_16.keep hb17 | exact (p_16.alloc _).keep hb17
  clear pa pb pc p_16
  have q_17 : SpAt w17 w3.heap.size (ql) (qh) := by first | exact q_16.keep hb17 | exact (q_16.alloc _).keep hb17
  clear qa qb qc q_16
  have t17 : Below w.heap.size w w17 := by first | exact below_step t16 hb17 | exact below_stepA t16 hb17
  clear hb17 t16
  have pa := p_17.1; have pb := p_17.2.1; have pc := p_17.2.2
  have qa := q_17.1; have qb := q_17.2.1; have qc := q_17.2.2
  go_wp2_with fail
  refine (KM.out _).mono ?_; rintro e w18 ⟨rfl, hb18⟩
  have p_18 : SpAt w18 w2.heap.size (pl) (ph) := by first | exact p_17.keep hb18 | exact (p_17.alloc _).keep hb18
  clear pa pb pc p_17
  have q_18 : SpAt w18 w3.heap.size (ql) (qh) := by first | exact q_17.keep hb18 | exact (q_17.alloc _).keep hb18
  clear qa qb qc q_17
  have t18 : Below w.heap.size w w18 := by first | exact below_step t17 hb18 | exact below_stepA t17 hb18
  clear hb18 t17
  have pa := p_18.1; have pb := p_18.2.1; have pc := p_18.2.2
  have qa := q_18.1; have qb := q_18.2.1; have qc := q_18.2.2
  go_wp2_with fail
  refine (KR.out _).mono ?_; rintro e w19 ⟨rfl, hb19⟩
  have p_19 : SpAt w19 w2.heap.size (pl) (ph) := by first | exact p_18.keep hb19 | exact (p_18.alloc _).keep hb19
  clear pa pb pc p_18
  have q_19 : SpAt w19 w3.heap.size (ql) (qh) := by first | exact q_18.keep hb19 | exact (q_18.alloc _).keep hb19
  clear qa qb qc q_18
  have m_19 : SpAt w19 w18.heap.size (0) (0) := (SpAt.new _ _ _ _).keep hb19
  have t19 : Below w.heap.size w w19 := by first | exact below_step t18 hb19 | exact below_stepA t18 hb19
  clear hb19 t18
  have pa := p_19.1; have pb := p_19.2.1; have pc := p_19.2.2
  have qa := q_19.1; have qb := q_19.2.1; have qc := q_19.2.2
  have ma := m_19.1; have mb := m_19.2.1; have mc := m_19.2.2
  go_wp2_with fail
  have pA := (p_19.alloc (.cells #[.int .i64 (rl), .int .i64 (rh)] 24))
  have qA := (q_19.alloc (.cells #[.int .i64 (rl), .int .i64 (rh)] 24))
  have mA := (m_19.alloc (.cells #[.int .i64 (rl), .int .i64 (rh)] 24))
  have sA := SpAt.new w19 (rl) (rh) 24
  have tA : Below w.heap.size w (w19.alloc (.cells #[.int .i64 (rl), .int .i64 (rh)] 24)) := t19.alloc t19.size _
  clear pa pb pc p_19
  have pa := fun d => reach_cell pA.1 pA.2.2 d; have pb := fun d => reach_cell pA.2.1 pA.2.2 d
  clear qa qb qc q_19
  have qa := fun d => reach_cell qA.1 qA.2.2 d; have qb := fun d => reach_cell qA.2.1 qA.2.2 d
  clear ma mb mc m_19
  have ma := fun d => reach_cell mA.1 mA.2.2 d; have mb := fun d => reach_cell mA.2.1 mA.2.2 d
  have sa := fun d => reach_cell sA.1 sA.2.2 d; have sb := fun d => reach_cell sA.2.1 sA.2.2 d
  clear t19
  have hB : (w19.alloc (.cells #[.int .i64 (rl), .int .i64 (rh)] 24)).heap.size ≤ (w19.alloc (.cells #[.int .i64 (rl), .int .i64 (rh)] 24)).heap.size := Nat.le_refl _
  generalize hW : (w19.alloc (.cells #[.int .i64 (rl), .int .i64 (rh)] 24)) = W20 at *
  clear hW
  try simp only [List.append]
  refine wp_region_light W20.heap.size (by kernel_rfl) (by kernel_rfl) (by kernel_rfl) ?_
  repeat (go_big_quiet_step ((first | (go_at_call 18; with_reducible exact reach_call hB (KS.out _ _ _)) | (go_at_call 9; with_reducible exact reach_call hB (h8.out _)) | (go_at_call 17; with_reducible exact reach_call hB (KW.out _)) | (go_at_call 15; with_reducible exact reach_call hB (i3.out _)) | (go_at_call 19; with_reducible exact reach_call hB (KT.out _)) | (go_at_call 10; with_reducible exact reach_call hB (KD.out _)) | (go_at_call 11; with_reducible exact reach_call hB (KE.out _)))))
  refine wpQuiet_nil ?_
  rintro w' ⟨d20, rfl⟩
  have t20 : Below w.heap.size w (reach W20.heap.size W20 d20) := tA.trans ((reach_below _ _ d20).mono tA.size)
  clear pa pb
  have p_20 := pA.keep (reach_below W20.heap.size W20 d20)
  clear pA
  clear qa qb
  have q_20 := qA.keep (reach_below W20.heap.size W20 d20)
  clear qA
  clear ma mb
  have m_20 := mA.keep (reach_below W20.heap.size W20 d20)
  clear mA
  clear sa sb
  have s_20 := sA.keep (reach_below W20.heap.size W20 d20)
  clear sA
  clear tA hB
  generalize hW : reach W20.heap.size W20 d20 = w20 at *
  clear hW
  have pa := p_20.1; have pb := p_20.2.1; have pc := p_20.2.2
  have qa := q_20.1; have qb := q_20.2.1; have qc := q_20.2.2
  have ma := m_20.1; have mb := m_20.2.1; have mc := m_20.2.2
  have sa := s_20.1; have sb := s_20.2.1; have sc := s_20.2.2
  go_wp2
  go_ret
  exact ⟨rfl, t20⟩
set_option maxRecDepth 100000 in
set_option maxHeartbeats 8000000 in
theorem holdsOQ (a b c d x y k pl ph ql qh X Y al ah sl sh cl ch hl hh rl rh wl wh xl xh : Int) (bX1 : -1073741824 ≤ X) (bX2 : X ≤ 1073741824) (bY1 : -1073741824 ≤ Y) (bY2 : Y ≤ 1073741824) (bM1 : -1152921504606846976 ≤ X * (k.tmod 1073741824)) (bM2 : X * (k.tmod 1073741824) ≤ 1152921504606846976)
    (kc : k.tmod 1073741824 < 1)
    (m1 : pl ≤ qh) (m2 : decide (ql ≤ ph) = false)
    (K0 : Hid (∀ w : World, Calls Try.prog 7 #[.int .i64 (a.tmod 1073741824), .int .i64 (b.tmod 1073741824)] w fun e w' => e = .returned (.agg #[.int .i64 (pl), .int .i64 (ph)]) ∧ Below w.heap.size w w'))
    (K1 : Hid (∀ w : World, Calls Try.prog 7 #[.int .i64 (c.tmod 1073741824), .int .i64 (d.tmod 1073741824)] w fun e w' => e = .returned (.agg #[.int .i64 (ql), .int .i64 (qh)]) ∧ Below w.heap.size w w'))
    (KXi : Hid (∀ w : World, Calls Try.prog 8 #[.agg #[.int .i64 (pl), .int .i64 (ph)], .int .i64 (x)] w fun e w' => e = .returned (.int .i64 X) ∧ Below w.heap.size w w'))
    (KYi : Hid (∀ w : World, Calls Try.prog 8 #[.agg #[.int .i64 (ql), .int .i64 (qh)], .int .i64 (y)] w fun e w' => e = .returned (.int .i64 Y) ∧ Below w.heap.size w w'))
    (KA : Hid (∀ w : World, Calls Try.prog 10 #[.agg #[.int .i64 (pl), .int .i64 (ph)], .agg #[.int .i64 (ql), .int .i64 (qh)]] w fun e w' => e = .returned (.agg #[.int .i64 (al), .int .i64 (ah)]) ∧ Below w.heap.size w w'))
    (KB : Hid (∀ w : World, Calls Try.prog 11 #[.agg #[.int .i64 (pl), .int .i64 (ph)], .agg #[.int .i64 (ql), .int .i64 (qh)]] w fun e w' => e = .returned (.agg #[.int .i64 (sl), .int .i64 (sh)]) ∧ Below w.heap.size w w'))
    (KC : Hid (∀ w : World, Calls Try.prog 12 #[.agg #[.int .i64 (pl), .int .i64 (ph)], .int .i64 (k.tmod 1073741824)] w fun e w' => e = .returned (.agg #[.int .i64 (cl), .int .i64 (ch)]) ∧ Below w.heap.size w w'))
    (KH : Hid (∀ w : World, Calls Try.prog 13 #[.agg #[.int .i64 (pl), .int .i64 (ph)], .agg #[.int .i64 (ql), .int .i64 (qh)]] w fun e w' => e = .returned (.agg #[.int .i64 (hl), .int .i64 (hh)]) ∧ Below w.heap.size w w'))
    (h1 : Hid (∀ w : World, Calls Try.prog 9 #[.agg #[.int .i64 (pl), .int .i64 (ph)], .int .i64 (X)] w fun e w' => e = .returned (.bool true) ∧ Below w.heap.size w w'))
    (h2 : Hid (∀ w : World, Calls Try.prog 9 #[.agg #[.int .i64 (ql), .int .i64 (qh)], .int .i64 (Y)] w fun e w' => e = .returned (.bool true) ∧ Below w.heap.size w w'))
    (h3 : Hid (∀ w : World, Calls Try.prog 9 #[.agg #[.int .i64 (al), .int .i64 (ah)], .int .i64 (X + Y)] w fun e w' => e = .returned (.bool true) ∧ Below w.heap.size w w'))
    (h4 : Hid (∀ w : World, Calls Try.prog 9 #[.agg #[.int .i64 (sl), .int .i64 (sh)], .int .i64 (X - Y)] w fun e w' => e = .returned (.bool true) ∧ Below w.heap.size w w'))
    (h5 : Hid (∀ w : World, Calls Try.prog 9 #[.agg #[.int .i64 (cl), .int .i64 (ch)], .int .i64 (X * (k.tmod 1073741824))] w fun e w' => e = .returned (.bool true) ∧ Below w.heap.size w w'))
    (h6 : Hid (∀ w : World, Calls Try.prog 9 #[.agg #[.int .i64 (hl), .int .i64 (hh)], .int .i64 (X)] w fun e w' => e = .returned (.bool true) ∧ Below w.heap.size w w'))
    (h7 : Hid (∀ w : World, Calls Try.prog 9 #[.agg #[.int .i64 (hl), .int .i64 (hh)], .int .i64 (Y)] w fun e w' => e = .returned (.bool true) ∧ Below w.heap.size w w'))
    (KM : Hid (∀ w : World, Calls Try.prog 14 #[.agg #[.int .i64 (pl), .int .i64 (ph)], .agg #[.int .i64 (ql), .int .i64 (qh)]] w fun e w' => e = .returned (.tuple #[.agg #[.int .i64 (0), .int .i64 (0)], .bool false]) ∧ Below w.heap.size w w'))
    (KR : Hid (∀ w : World, Calls Try.prog 16 #[.agg #[.int .i64 (pl), .int .i64 (ph)], .int .i64 (1)] w fun e w' => e = .returned (.agg #[.int .i64 (rl), .int .i64 (rh)]) ∧ Below w.heap.size w w'))
    (h8 : Hid (∀ w : World, Calls Try.prog 9 #[.agg #[.int .i64 (rl), .int .i64 (rh)], .int .i64 (X)] w fun e w' => e = .returned (.bool true) ∧ Below w.heap.size w w'))
    (KW : Hid (∀ w : World, Calls Try.prog 17 #[.agg #[.int .i64 (pl), .int .i64 (ph)], .int .i64 (k.tmod 1073741824)] w fun e w' => e = .returned (.agg #[.int .i64 (wl), .int .i64 (wh)]) ∧ Below w.heap.size w w'))
    (i3 : Hid (∀ w : World, Calls Try.prog 15 #[.agg #[.int .i64 (pl), .int .i64 (ph)], .agg #[.int .i64 (wl), .int .i64 (wh)]] w fun e w' => e = .returned (.bool true) ∧ Below w.heap.size w w'))
    (KT : Hid (∀ w : World, Calls Try.prog 19 #[.int .i64 (Y)] w fun e w' => e = .returned (.agg #[.int .i64 (Y), .int .i64 (Y)]) ∧ Below w.heap.size w w'))
    (KD : Hid (∀ w : World, Calls Try.prog 10 #[.agg #[.int .i64 (pl), .int .i64 (ph)], .agg #[.int .i64 (Y), .int .i64 (Y)]] w fun e w' => e = .returned (.agg #[.int .i64 (xl), .int .i64 (xh)]) ∧ Below w.heap.size w w'))
    (KE : Hid (∀ w : World, Calls Try.prog 11 #[.agg #[.int .i64 (xl), .int .i64 (xh)], .agg #[.int .i64 (Y), .int .i64 (Y)]] w fun e w' => e = .returned (.agg #[.int .i64 (pl), .int .i64 (ph)]) ∧ Below w.heap.size w w'))
    (KS : Hid (∀ (a b : Int) (w : World), Calls Try.prog 18 #[.agg #[.int .i64 a, .int .i64 b], .agg #[.int .i64 a, .int .i64 b]] w fun e w' => e = .returned (.bool true) ∧ Below w.heap.size w w')) (w : World) :
    Calls Try.prog 3 #[.int .i64 a, .int .i64 b, .int .i64 c, .int .i64 d, .int .i64 x, .int .i64 y, .int .i64 k] w fun e w' => e = .returned (.bool true) ∧ Below w.heap.size w w' := by
  have t0 : Below w.heap.size w w := Below.refl _ _
  go_enter Try.func3, Try.ntmps3
  go_wp2_with fail
  refine (first2 _).mono ?_; rintro e w1 ⟨rfl, hb1⟩
  have t1 : Below w.heap.size w w1 := by first | exact below_step t0 hb1 | exact below_stepA t0 hb1
  clear hb1 t0
  go_wp2_with fail
  refine (K0.out _).mono ?_; rintro e w2 ⟨rfl, hb2⟩
  have t2 : Below w.heap.size w w2 := by first | exact below_step t1 hb2 | exact below_stepA t1 hb2
  clear hb2 t1
  go_wp2_with fail
  refine (K1.out _).mono ?_; rintro e w3 ⟨rfl, hb3⟩
  have p_3 : SpAt w3 w2.heap.size (pl) (ph) := (SpAt.new _ _ _ _).keep hb3
  have t3 : Below w.heap.size w w3 := by first | exact below_step t2 hb3 | exact below_stepA t2 hb3
  clear hb3 t2
  have pa := p_3.1; have pb := p_3.2.1; have pc := p_3.2.2
  go_wp2_with fail
  refine (KXi.out _).mono ?_; rintro e w4 ⟨rfl, hb4⟩
  have p_4 : SpAt w4 w2.heap.size (pl) (ph) := by first | exact p_3.keep hb4 | exact (p_3.alloc _).keep hb4
  clear pa pb pc p_3
  have q_4 : SpAt w4 w3.heap.size (ql) (qh) := (SpAt.new _ _ _ _).keep hb4
  have t4 : Below w.heap.size w w4 := by first | exact below_step t3 hb4 | exact below_stepA t3 hb4
  clear hb4 t3
  have pa := p_4.1; have pb := p_4.2.1; have pc := p_4.2.2
  have qa := q_4.1; have qb := q_4.2.1; have qc := q_4.2.2
  go_wp2_with fail
  refine (KYi.out _).mono ?_; rintro e w5 ⟨rfl, hb5⟩
  have p_5 : SpAt w5 w2.heap.size (pl) (ph) := by first | exact p_4.keep hb5 | exact (p_4.alloc _).keep hb5
  clear pa pb pc p_4
  have q_5 : SpAt w5 w3.heap.size (ql) (qh) := by first | exact q_4.keep hb5 | exact (q_4.alloc _).keep hb5
  clear qa qb qc q_4
  have t5 : Below w.heap.size w w5 := by first | exact below_step t4 hb5 | exact below_stepA t4 hb5
  clear hb5 t4
  have pa := p_5.1; have pb := p_5.2.1; have pc := p_5.2.2
  have qa := q_5.1; have qb := q_5.2.1; have qc := q_5.2.2
  go_wp2_with fail
  refine (h1.out _).mono ?_; rintro e w6 ⟨rfl, hb6⟩
  have p_6 : SpAt w6 w2.heap.size (pl) (ph) := by first | exact p_5.keep hb6 | exact (p_5.alloc _).keep hb6
  clear pa pb pc p_5
  have q_6 : SpAt w6 w3.heap.size (ql) (qh) := by first | exact q_5.keep hb6 | exact (q_5.alloc _).keep hb6
  clear qa qb qc q_5
  have t6 : Below w.heap.size w w6 := by first | exact below_step t5 hb6 | exact below_stepA t5 hb6
  clear hb6 t5
  have pa := p_6.1; have pb := p_6.2.1; have pc := p_6.2.2
  have qa := q_6.1; have qb := q_6.2.1; have qc := q_6.2.2
  go_wp2_with fail
  refine (h2.out _).mono ?_; rintro e w7 ⟨rfl, hb7⟩
  have p_7 : SpAt w7 w2.heap.size (pl) (ph) := by first | exact p_6.keep hb7 | exact (p_6.alloc _).keep hb7
  clear pa pb pc p_6
  have q_7 : SpAt w7 w3.heap.size (ql) (qh) := by first | exact q_6.keep hb7 | exact (q_6.alloc _).keep hb7
  clear qa qb qc q_6
  have t7 : Below w.heap.size w w7 := by first | exact below_step t6 hb7 | exact below_stepA t6 hb7
  clear hb7 t6
  have pa := p_7.1; have pb := p_7.2.1; have pc := p_7.2.2
  have qa := q_7.1; have qb := q_7.2.1; have qc := q_7.2.2
  go_wp2_with fail
  refine (KA.out _).mono ?_; rintro e w8 ⟨rfl, hb8⟩
  have p_8 : SpAt w8 w2.heap.size (pl) (ph) := by first | exact p_7.keep hb8 | exact (p_7.alloc _).keep hb8
  clear pa pb pc p_7
  have q_8 : SpAt w8 w3.heap.size (ql) (qh) := by first | exact q_7.keep hb8 | exact (q_7.alloc _).keep hb8
  clear qa qb qc q_7
  have t8 : Below w.heap.size w w8 := by first | exact below_step t7 hb8 | exact below_stepA t7 hb8
  clear hb8 t7
  have pa := p_8.1; have pb := p_8.2.1; have pc := p_8.2.2
  have qa := q_8.1; have qb := q_8.2.1; have qc := q_8.2.2
  go_wp2_with fail
  refine (h3.out _).mono ?_; rintro e w9 ⟨rfl, hb9⟩
  have p_9 : SpAt w9 w2.heap.size (pl) (ph) := by first | exact p_8.keep hb9 | exact (p_8.alloc _).keep hb9
  clear pa pb pc p_8
  have q_9 : SpAt w9 w3.heap.size (ql) (qh) := by first | exact q_8.keep hb9 | exact (q_8.alloc _).keep hb9
  clear qa qb qc q_8
  have t9 : Below w.heap.size w w9 := by first | exact below_step t8 hb9 | exact below_stepA t8 hb9
  clear hb9 t8
  have pa := p_9.1; have pb := p_9.2.1; have pc := p_9.2.2
  have qa := q_9.1; have qb := q_9.2.1; have qc := q_9.2.2
  go_wp2_with fail
  refine (KB.out _).mono ?_; rintro e w10 ⟨rfl, hb10⟩
  have p_10 : SpAt w10 w2.heap.size (pl) (ph) := by first | exact p_9.keep hb10 | exact (p_9.alloc _).keep hb10
  clear pa pb pc p_9
  have q_10 : SpAt w10 w3.heap.size (ql) (qh) := by first | exact q_9.keep hb10 | exact (q_9.alloc _).keep hb10
  clear qa qb qc q_9
  have t10 : Below w.heap.size w w10 := by first | exact below_step t9 hb10 | exact below_stepA t9 hb10
  clear hb10 t9
  have pa := p_10.1; have pb := p_10.2.1; have pc := p_10.2.2
  have qa := q_10.1; have qb := q_10.2.1; have qc := q_10.2.2
  go_wp2_with fail
  refine (h4.out _).mono ?_; rintro e w11 ⟨rfl, hb11⟩
  have p_11 : SpAt w11 w2.heap.size (pl) (ph) := by first | exact p_10.keep hb11 | exact (p_10.alloc _).keep hb11
  clear pa pb pc p_10
  have q_11 : SpAt w11 w3.heap.size (ql) (qh) := by first | exact q_10.keep hb11 | exact (q_10.alloc _).keep hb11
  clear qa qb qc q_10
  have t11 : Below w.heap.size w w11 := by first | exact below_step t10 hb11 | exact below_stepA t10 hb11
  clear hb11 t10
  have pa := p_11.1; have pb := p_11.2.1; have pc := p_11.2.2
  have qa := q_11.1; have qb := q_11.2.1; have qc := q_11.2.2
  go_wp2_with fail
  refine (KC.out _).mono ?_; rintro e w12 ⟨rfl, hb12⟩
  have p_12 : SpAt w12 w2.heap.size (pl) (ph) := by first | exact p_11.keep hb12 | exact (p_11.alloc _).keep hb12
  clear pa pb pc p_11
  have q_12 : SpAt w12 w3.heap.size (ql) (qh) := by first | exact q_11.keep hb12 | exact (q_11.alloc _).keep hb12
  clear qa qb qc q_11
  have t12 : Below w.heap.size w w12 := by first | exact below_step t11 hb12 | exact below_stepA t11 hb12
  clear hb12 t11
  have pa := p_12.1; have pb := p_12.2.1; have pc := p_12.2.2
  have qa := q_12.1; have qb := q_12.2.1; have qc := q_12.2.2
  go_wp2_with fail
  refine (h5.out _).mono ?_; rintro e w13 ⟨rfl, hb13⟩
  have p_13 : SpAt w13 w2.heap.size (pl) (ph) := by first | exact p_12.keep hb13 | exact (p_12.alloc _).keep hb13
  clear pa pb pc p_12
  have q_13 : SpAt w13 w3.heap.size (ql) (qh) := by first | exact q_12.keep hb13 | exact (q_12.alloc _).keep hb13
  clear qa qb qc q_12
  have t13 : Below w.heap.size w w13 := by first | exact below_step t12 hb13 | exact below_stepA t12 hb13
  clear hb13 t12
  have pa := p_13.1; have pb := p_13.2.1; have pc := p_13.2.2
  have qa := q_13.1; have qb := q_13.2.1; have qc := q_13.2.2
  go_wp2_with fail
  refine (KH.out _).mono ?_; rintro e w14 ⟨rfl, hb14⟩
  have p_14 : SpAt w14 w2.heap.size (pl) (ph) := by first | exact p_13.keep hb14 | exact (p_13.alloc _).keep hb14
  clear pa pb pc p_13
  have q_14 : SpAt w14 w3.heap.size (ql) (qh) := by first | exact q_13.keep hb14 | exact (q_13.alloc _).keep hb14
  clear qa qb qc q_13
  have t14 : Below w.heap.size w w14 := by first | exact below_step t13 hb14 | exact below_stepA t13 hb14
  clear hb14 t13
  have pa := p_14.1; have pb := p_14.2.1; have pc := p_14.2.2
  have qa := q_14.1; have qb := q_14.2.1; have qc := q_14.2.2
  go_wp2_with fail
  refine (h6.out _).mono ?_; rintro e w15 ⟨rfl, hb15⟩
  have p_15 : SpAt w15 w2.heap.size (pl) (ph) := by first | exact p_14.keep hb15 | exact (p_14.alloc _).keep hb15
  clear pa pb pc p_14
  have q_15 : SpAt w15 w3.heap.size (ql) (qh) := by first | exact q_14.keep hb15 | exact (q_14.alloc _).keep hb15
  clear qa qb qc q_14
  have t15 : Below w.heap.size w w15 := by first | exact below_step t14 hb15 | exact below_stepA t14 hb15
  clear hb15 t14
  have pa := p_15.1; have pb := p_15.2.1; have pc := p_15.2.2
  have qa := q_15.1; have qb := q_15.2.1; have qc := q_15.2.2
  go_wp2_with fail
  refine (KH.out _).mono ?_; rintro e w16 ⟨rfl, hb16⟩
  have p_16 : SpAt w16 w2.heap.size (pl) (ph) := by first | exact p_15.keep hb16 | exact (p_15.alloc _).keep hb16
  clear pa pb pc p_15
  have q_16 : SpAt w16 w3.heap.size (ql) (qh) := by first | exact q_15.keep hb16 | exact (q_15.alloc _).keep hb16
  clear qa qb qc q_15
  have t16 : Below w.heap.size w w16 := by first | exact below_step t15 hb16 | exact below_stepA t15 hb16
  clear hb16 t15
  have pa := p_16.1; have pb := p_16.2.1; have pc := p_16.2.2
  have qa := q_16.1; have qb := q_16.2.1; have qc := q_16.2.2
  go_wp2_with fail
  refine (h7.out _).mono ?_; rintro e w17 ⟨rfl, hb17⟩
  have p_17 : SpAt w17 w2.heap.size (pl) (ph) := by first | exact p_16.keep hb17 | exact (p_16.alloc _).keep hb17
  clear pa pb pc p_16
  have q_17 : SpAt w17 w3.heap.size (ql) (qh) := by first | exact q_16.keep hb17 | exact (q_16.alloc _).keep hb17
  clear qa qb qc q_16
  have t17 : Below w.heap.size w w17 := by first | exact below_step t16 hb17 | exact below_stepA t16 hb17
  clear hb17 t16
  have pa := p_17.1; have pb := p_17.2.1; have pc := p_17.2.2
  have qa := q_17.1; have qb := q_17.2.1; have qc := q_17.2.2
  go_wp2_with fail
  refine (KM.out _).mono ?_; rintro e w18 ⟨rfl, hb18⟩
  have p_18 : SpAt w18 w2.heap.size (pl) (ph) := by first | exact p_17.keep hb18 | exact (p_17.alloc _).keep hb18
  clear pa pb pc p_17
  have q_18 : SpAt w18 w3.heap.size (ql) (qh) := by first | exact q_17.keep hb18 | exact (q_17.alloc _).keep hb18
  clear qa qb qc q_17
  have t18 : Below w.heap.size w w18 := by first | exact below_step t17 hb18 | exact below_stepA t17 hb18
  clear hb18 t17
  have pa := p_18.1; have pb := p_18.2.1; have pc := p_18.2.2
  have qa := q_18.1; have qb := q_18.2.1; have qc := q_18.2.2
  go_wp2_with fail
  refine (KR.out _).mono ?_; rintro e w19 ⟨rfl, hb19⟩
  have p_19 : SpAt w19 w2.heap.size (pl) (ph) := by first | exact p_18.keep hb19 | exact (p_18.alloc _).keep hb19
  clear pa pb pc p_18
  have q_19 : SpAt w19 w3.heap.size (ql) (qh) := by first | exact q_18.keep hb19 | exact (q_18.alloc _).keep hb19
  clear qa qb qc q_18
  have m_19 : SpAt w19 w18.heap.size (0) (0) := (SpAt.new _ _ _ _).keep hb19
  have t19 : Below w.heap.size w w19 := by first | exact below_step t18 hb19 | exact below_stepA t18 hb19
  clear hb19 t18
  have pa := p_19.1; have pb := p_19.2.1; have pc := p_19.2.2
  have qa := q_19.1; have qb := q_19.2.1; have qc := q_19.2.2
  have ma := m_19.1; have mb := m_19.2.1; have mc := m_19.2.2
  go_wp2_with fail
  have pA := (p_19.alloc (.cells #[.int .i64 (rl), .int .i64 (rh)] 24))
  have qA := (q_19.alloc (.cells #[.int .i64 (rl), .int .i64 (rh)] 24))
  have mA := (m_19.alloc (.cells #[.int .i64 (rl), .int .i64 (rh)] 24))
  have sA := SpAt.new w19 (rl) (rh) 24
  have tA : Below w.heap.size w (w19.alloc (.cells #[.int .i64 (rl), .int .i64 (rh)] 24)) := t19.alloc t19.size _
  clear pa pb pc p_19
  have pa := fun d => reach_cell pA.1 pA.2.2 d; have pb := fun d => reach_cell pA.2.1 pA.2.2 d
  clear qa qb qc q_19
  have qa := fun d => reach_cell qA.1 qA.2.2 d; have qb := fun d => reach_cell qA.2.1 qA.2.2 d
  clear ma mb mc m_19
  have ma := fun d => reach_cell mA.1 mA.2.2 d; have mb := fun d => reach_cell mA.2.1 mA.2.2 d
  have sa := fun d => reach_cell sA.1 sA.2.2 d; have sb := fun d => reach_cell sA.2.1 sA.2.2 d
  clear t19
  have hB : (w19.alloc (.cells #[.int .i64 (rl), .int .i64 (rh)] 24)).heap.size ≤ (w19.alloc (.cells #[.int .i64 (rl), .int .i64 (rh)] 24)).heap.size := Nat.le_refl _
  generalize hW : (w19.alloc (.cells #[.int .i64 (rl), .int .i64 (rh)] 24)) = W20 at *
  clear hW
  try simp only [List.append]
  refine wp_region_light W20.heap.size (by kernel_rfl) (by kernel_rfl) (by kernel_rfl) ?_
  repeat (go_big_quiet_step ((first | (go_at_call 18; with_reducible exact reach_call hB (KS.out _ _ _)) | (go_at_call 9; with_reducible exact reach_call hB (h8.out _)) | (go_at_call 17; with_reducible exact reach_call hB (KW.out _)) | (go_at_call 15; with_reducible exact reach_call hB (i3.out _)) | (go_at_call 19; with_reducible exact reach_call hB (KT.out _)) | (go_at_call 10; with_reducible exact reach_call hB (KD.out _)) | (go_at_call 11; with_reducible exact reach_call hB (KE.out _)))))
  refine wpQuiet_nil ?_
  rintro w' ⟨d20, rfl⟩
  have t20 : Below w.heap.size w (reach W20.heap.size W20 d20) := tA.trans ((reach_below _ _ d20).mono tA.size)
  clear pa pb
  have p_20 := pA.keep (reach_below W20.heap.size W20 d20)
  clear pA
  clear qa qb
  have q_20 := qA.keep (reach_below W20.heap.size W20 d20)
  clear qA
  clear ma mb
  have m_20 := mA.keep (reach_below W20.heap.size W20 d20)
  clear mA
  clear sa sb
  have s_20 := sA.keep (reach_below W20.heap.size W20 d20)
  clear sA
  clear tA hB
  generalize hW : reach W20.heap.size W20 d20 = w20 at *
  clear hW
  have pa := p_20.1; have pb := p_20.2.1; have pc := p_20.2.2
  have qa := q_20.1; have qb := q_20.2.1; have qc := q_20.2.2
  have ma := m_20.1; have mb := m_20.2.1; have mc := m_20.2.2
  have sa := s_20.1; have sb := s_20.2.1; have sc := s_20.2.2
  go_wp2
  go_ret
  exact ⟨rfl, t20⟩
end Go.Proofs.Ytfbcceafgmamjab
