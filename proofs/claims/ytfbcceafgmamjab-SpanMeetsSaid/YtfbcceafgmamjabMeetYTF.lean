/- SpanMeets returns true, in one of its cases (YTF). Conditions: the numbers of the calls are as the other texts show them to be. -/
import Derived.Test.YtfbcceafgmamjabSpanC
import Derived.Test.YtfbcceafgmamjabLex
import Derived.Test.YtfbcceafgmamjabSpanf
namespace Go.Proofs.Ytfbcceafgmamjab
open Go.RowKit
set_option maxRecDepth 100000 in
set_option maxHeartbeats 8000000 in
theorem meetsYTFa (a b c d x pl ph ql qh ml mh hl hh : Int) (K0 : Hid (∀ w : World, Calls Try.prog 7 #[.int .i64 (a), .int .i64 (b)] w fun e w' => e = .returned (.agg #[.int .i64 (pl), .int .i64 (ph)]) ∧ Below w.heap.size w w'))
    (K1 : Hid (∀ w : World, Calls Try.prog 7 #[.int .i64 (c), .int .i64 (d)] w fun e w' => e = .returned (.agg #[.int .i64 (ql), .int .i64 (qh)]) ∧ Below w.heap.size w w'))
    (KM1 : Hid (∀ w : World, Calls Try.prog 14 #[.agg #[.int .i64 (pl), .int .i64 (ph)], .agg #[.int .i64 (ql), .int .i64 (qh)]] w fun e w' => e = .returned (.tuple #[.agg #[.int .i64 (ml), .int .i64 (mh)], .bool true]) ∧ Below w.heap.size w w'))
    (KM2 : Hid (∀ w : World, Calls Try.prog 14 #[.agg #[.int .i64 (ql), .int .i64 (qh)], .agg #[.int .i64 (pl), .int .i64 (ph)]] w fun e w' => e = .returned (.tuple #[.agg #[.int .i64 (ml), .int .i64 (mh)], .bool true]) ∧ Below w.heap.size w w'))
    (KP : Hid (∀ w : World, Calls Try.prog 9 #[.agg #[.int .i64 (pl), .int .i64 (ph)], .int .i64 (x)] w fun e w' => e = .returned (.bool true) ∧ Below w.heap.size w w'))
    (KQ : Hid (∀ w : World, Calls Try.prog 9 #[.agg #[.int .i64 (ql), .int .i64 (qh)], .int .i64 (x)] w fun e w' => e = .returned (.bool false) ∧ Below w.heap.size w w'))
    (KX : Hid (∀ w : World, Calls Try.prog 9 #[.agg #[.int .i64 (ml), .int .i64 (mh)], .int .i64 (x)] w fun e w' => e = .returned (.bool false) ∧ Below w.heap.size w w'))
    (KH1 : Hid (∀ w : World, Calls Try.prog 13 #[.agg #[.int .i64 (pl), .int .i64 (ph)], .agg #[.int .i64 (ql), .int .i64 (qh)]] w fun e w' => e = .returned (.agg #[.int .i64 (hl), .int .i64 (hh)]) ∧ Below w.heap.size w w'))
    (KH2 : Hid (∀ w : World, Calls Try.prog 13 #[.agg #[.int .i64 (ql), .int .i64 (qh)], .agg #[.int .i64 (pl), .int .i64 (ph)]] w fun e w' => e = .returned (.agg #[.int .i64 (hl), .int .i64 (hh)]) ∧ Below w.heap.size w w'))
    (KS : Hid (∀ (a b : Int) (w : World), Calls Try.prog 18 #[.agg #[.int .i64 a, .int .i64 b], .agg #[.int .i64 a, .int .i64 b]] w fun e w' => e = .returned (.bool true) ∧ Below w.heap.size w w'))
    (KI1 : Hid (∀ w : World, Calls Try.prog 15 #[.agg #[.int .i64 (pl), .int .i64 (ph)], .agg #[.int .i64 (hl), .int .i64 (hh)]] w fun e w' => e = .returned (.bool true) ∧ Below w.heap.size w w'))
    (KI2 : Hid (∀ w : World, Calls Try.prog 15 #[.agg #[.int .i64 (ql), .int .i64 (qh)], .agg #[.int .i64 (hl), .int .i64 (hh)]] w fun e w' => e = .returned (.bool true) ∧ Below w.heap.size w w'))
    (e1 : (hl == pl) = true)
    (e2 : (hh == ph) = true) (w : World) :
    Calls Try.prog 4 #[.int .i64 a, .int .i64 b, .int .i64 c, .int .i64 d, .int .i64 x] w fun e w' => e = .returned (.bool true) ∧ Below w.heap.size w w' := by
  have E1 := Lib.hid e1; clear e1
  have E2 := Lib.hid e2; clear e2
  have t0 : Below w.heap.size w w := Below.refl _ _
  go_enter Try.func4, Try.ntmps4
  go_wp2_with fail
  refine (first2 _).mono ?_; rintro e w1 ⟨rfl, hb1⟩
  have t1 : Below w.heap.size w w1 := by first | exact below_step t0 hb1 | exact below_stepA t0 hb1
  clear hb1 t0
  go_wp2_with fail
  refine (K0.out _).mono ?_; rintro e w2 ⟨rfl, hb2⟩
  have t2 : Below w.heap.size w w2 := by first | exact below_step t1 hb2 | exact below_stepA t1 hb2
  clear hb2 t1
  go_wp2_with fail
  refine (K1.out _).mono ?_; rintro e w3 ⟨rfl, hb3⟩
  have p_3 : SpAt w3 w2.heap.size (pl) (ph) := (SpAt.new _ _ _ _).keep hb3
  have t3 : Below w.heap.size w w3 := by first | exact below_step t2 hb3 | exact below_stepA t2 hb3
  clear hb3 t2
  have pa := p_3.1; have pb := p_3.2.1; have pc := p_3.2.2
  go_wp2_with fail
  refine (KM1.out _).mono ?_; rintro e w4 ⟨rfl, hb4⟩
  have p_4 : SpAt w4 w2.heap.size (pl) (ph) := by first | exact p_3.keep hb4 | exact (p_3.alloc _).keep hb4
  clear pa pb pc p_3
  have q_4 : SpAt w4 w3.heap.size (ql) (qh) := (SpAt.new _ _ _ _).keep hb4
  have t4 : Below w.heap.size w w4 := by first | exact below_step t3 hb4 | exact below_stepA t3 hb4
  clear hb4 t3
  have pa := p_4.1; have pb := p_4.2.1; have pc := p_4.2.2
  have qa := q_4.1; have qb := q_4.2.1; have qc := q_4.2.2
  go_wp2_with fail
  refine (KM2.out _).mono ?_; rintro e w5 ⟨rfl, hb5⟩
  have p_5 : SpAt w5 w2.heap.size (pl) (ph) := by first | exact p_4.keep hb5 | exact (p_4.alloc _).keep hb5
  clear pa pb pc p_4
  have q_5 : SpAt w5 w3.heap.size (ql) (qh) := by first | exact q_4.keep hb5 | exact (q_4.alloc _).keep hb5
  clear qa qb qc q_4
  have m_5 : SpAt w5 w4.heap.size (ml) (mh) := (SpAt.new _ _ _ _).keep hb5
  have t5 : Below w.heap.size w w5 := by first | exact below_step t4 hb5 | exact below_stepA t4 hb5
  clear hb5 t4
  have pa := p_5.1; have pb := p_5.2.1; have pc := p_5.2.2
  have qa := q_5.1; have qb := q_5.2.1; have qc := q_5.2.2
  have ma := m_5.1; have mb := m_5.2.1; have mc := m_5.2.2
  go_wp2_with fail
  refine (KP.out _).mono ?_; rintro e w6 ⟨rfl, hb6⟩
  have p_6 : SpAt w6 w2.heap.size (pl) (ph) := by first | exact p_5.keep hb6 | exact (p_5.alloc _).keep hb6
  clear pa pb pc p_5
  have q_6 : SpAt w6 w3.heap.size (ql) (qh) := by first | exact q_5.keep hb6 | exact (q_5.alloc _).keep hb6
  clear qa qb qc q_5
  have m_6 : SpAt w6 w4.heap.size (ml) (mh) := by first | exact m_5.keep hb6 | exact (m_5.alloc _).keep hb6
  clear ma mb mc m_5
  have n_6 : SpAt w6 w5.heap.size (ml) (mh) := (SpAt.new _ _ _ _).keep hb6
  have t6 : Below w.heap.size w w6 := by first | exact below_step t5 hb6 | exact below_stepA t5 hb6
  clear hb6 t5
  have pa := p_6.1; have pb := p_6.2.1; have pc := p_6.2.2
  have qa := q_6.1; have qb := q_6.2.1; have qc := q_6.2.2
  have ma := m_6.1; have mb := m_6.2.1; have mc := m_6.2.2
  have na := n_6.1; have nb := n_6.2.1; have nc := n_6.2.2
  go_wp2_with fail
  refine (KQ.out _).mono ?_; rintro e w7 ⟨rfl, hb7⟩
  have p_7 : SpAt w7 w2.heap.size (pl) (ph) := by first | exact p_6.keep hb7 | exact (p_6.alloc _).keep hb7
  clear pa pb pc p_6
  have q_7 : SpAt w7 w3.heap.size (ql) (qh) := by first | exact q_6.keep hb7 | exact (q_6.alloc _).keep hb7
  clear qa qb qc q_6
  have m_7 : SpAt w7 w4.heap.size (ml) (mh) := by first | exact m_6.keep hb7 | exact (m_6.alloc _).keep hb7
  clear ma mb mc m_6
  have n_7 : SpAt w7 w5.heap.size (ml) (mh) := by first | exact n_6.keep hb7 | exact (n_6.alloc _).keep hb7
  clear na nb nc n_6
  have t7 : Below w.heap.size w w7 := by first | exact below_step t6 hb7 | exact below_stepA t6 hb7
  clear hb7 t6
  have pa := p_7.1; have pb := p_7.2.1; have pc := p_7.2.2
  have qa := q_7.1; have qb := q_7.2.1; have qc := q_7.2.2
  have ma := m_7.1; have mb := m_7.2.1; have mc := m_7.2.2
  have na := n_7.1; have nb := n_7.2.1; have nc := n_7.2.2
  go_wp2_with fail
  refine (KH1.out _).mono ?_; rintro e w8 ⟨rfl, hb8⟩
  have p_8 : SpAt w8 w2.heap.size (pl) (ph) := by first | exact p_7.keep hb8 | exact (p_7.alloc _).keep hb8
  clear pa pb pc p_7
  have q_8 : SpAt w8 w3.heap.size (ql) (qh) := by first | exact q_7.keep hb8 | exact (q_7.alloc _).keep hb8
  clear qa qb qc q_7
  have m_8 : SpAt w8 w4.heap.size (ml) (mh) := by first | exact m_7.keep hb8 | exact (m_7.alloc _).keep hb8
  clear ma mb mc m_7
  have n_8 : SpAt w8 w5.heap.size (ml) (mh) := by first | exact n_7.keep hb8 | exact (n_7.alloc _).keep hb8
  clear na nb nc n_7
  have t8 : Below w.heap.size w w8 := by first | exact below_step t7 hb8 | exact below_stepA t7 hb8
  clear hb8 t7
  have pa := p_8.1; have pb := p_8.2.1; have pc := p_8.2.2
  have qa := q_8.1; have qb := q_8.2.1; have qc := q_8.2.2
  have ma := m_8.1; have mb := m_8.2.1; have mc := m_8.2.2
  have na := n_8.1; have nb := n_8.2.1; have nc := n_8.2.2
  go_wp2_with fail
  have e1 := E1.out; clear E1
  have e2 := E2.out; clear E2
  have pA := (p_8.alloc (.cells #[.int .i64 (hl), .int .i64 (hh)] 24))
  have qA := (q_8.alloc (.cells #[.int .i64 (hl), .int .i64 (hh)] 24))
  have mA := (m_8.alloc (.cells #[.int .i64 (hl), .int .i64 (hh)] 24))
  have nA := (n_8.alloc (.cells #[.int .i64 (hl), .int .i64 (hh)] 24))
  have hA := SpAt.new w8 (hl) (hh) 24
  have tA : Below w.heap.size w (w8.alloc (.cells #[.int .i64 (hl), .int .i64 (hh)] 24)) := t8.alloc t8.size _
  clear pa pb pc p_8
  have pa := fun d => reach_cell pA.1 pA.2.2 d; have pb := fun d => reach_cell pA.2.1 pA.2.2 d; clear pA
  clear qa qb qc q_8
  have qa := fun d => reach_cell qA.1 qA.2.2 d; have qb := fun d => reach_cell qA.2.1 qA.2.2 d; clear qA
  clear ma mb mc m_8
  have ma := fun d => reach_cell mA.1 mA.2.2 d; have mb := fun d => reach_cell mA.2.1 mA.2.2 d; clear mA
  clear na nb nc n_8
  have na := fun d => reach_cell nA.1 nA.2.2 d; have nb := fun d => reach_cell nA.2.1 nA.2.2 d; clear nA
  have ha := fun d => reach_cell hA.1 hA.2.2 d; have hb := fun d => reach_cell hA.2.1 hA.2.2 d; clear hA
  clear t8
  have hB : (w8.alloc (.cells #[.int .i64 (hl), .int .i64 (hh)] 24)).heap.size ≤ (w8.alloc (.cells #[.int .i64 (hl), .int .i64 (hh)] 24)).heap.size := Nat.le_refl _
  have tB : ∀ d, Below w.heap.size w (reach (w8.alloc (.cells #[.int .i64 (hl), .int .i64 (hh)] 24)).heap.size (w8.alloc (.cells #[.int .i64 (hl), .int .i64 (hh)] 24)) d) := fun d => tA.trans ((reach_below _ _ d).mono tA.size)
  have TB := Lib.hid tB; clear tB tA
  generalize (w8.alloc (.cells #[.int .i64 (hl), .int .i64 (hh)] 24)) = W at *
  try simp only [List.append]
  refine wp_region_light W.heap.size (by kernel_rfl) (by kernel_rfl) (by kernel_rfl) ?_
  repeat (go_big_quiet_step ((first | (go_at_call 18; with_reducible exact reach_call hB (KS.out _ _ _)) | (go_at_call 9; with_reducible exact reach_call hB (KX.out _)) | (go_at_call 15; with_reducible exact reach_call hB (KI1.out _)) | (go_at_call 15; with_reducible exact reach_call hB (KI2.out _)) | (go_at_call 13; with_reducible exact reach_call hB (KH2.out _)))))
  all_goals (refine wpQuiet_nil ?_)
  all_goals (rintro w' ⟨d, rfl⟩)
  all_goals go_wp2
  all_goals go_ret
  exact ⟨rfl, TB.out d⟩
set_option maxRecDepth 100000 in
set_option maxHeartbeats 8000000 in
theorem meetsYTFb (a b c d x pl ph ql qh ml mh hl hh : Int) (K0 : Hid (∀ w : World, Calls Try.prog 7 #[.int .i64 (a), .int .i64 (b)] w fun e w' => e = .returned (.agg #[.int .i64 (pl), .int .i64 (ph)]) ∧ Below w.heap.size w w'))
    (K1 : Hid (∀ w : World, Calls Try.prog 7 #[.int .i64 (c), .int .i64 (d)] w fun e w' => e = .returned (.agg #[.int .i64 (ql), .int .i64 (qh)]) ∧ Below w.heap.size w w'))
    (KM1 : Hid (∀ w : World, Calls Try.prog 14 #[.agg #[.int .i64 (pl), .int .i64 (ph)], .agg #[.int .i64 (ql), .int .i64 (qh)]] w fun e w' => e = .returned (.tuple #[.agg #[.int .i64 (ml), .int .i64 (mh)], .bool true]) ∧ Below w.heap.size w w'))
    (KM2 : Hid (∀ w : World, Calls Try.prog 14 #[.agg #[.int .i64 (ql), .int .i64 (qh)], .agg #[.int .i64 (pl), .int .i64 (ph)]] w fun e w' => e = .returned (.tuple #[.agg #[.int .i64 (ml), .int .i64 (mh)], .bool true]) ∧ Below w.heap.size w w'))
    (KP : Hid (∀ w : World, Calls Try.prog 9 #[.agg #[.int .i64 (pl), .int .i64 (ph)], .int .i64 (x)] w fun e w' => e = .returned (.bool true) ∧ Below w.heap.size w w'))
    (KQ : Hid (∀ w : World, Calls Try.prog 9 #[.agg #[.int .i64 (ql), .int .i64 (qh)], .int .i64 (x)] w fun e w' => e = .returned (.bool false) ∧ Below w.heap.size w w'))
    (KX : Hid (∀ w : World, Calls Try.prog 9 #[.agg #[.int .i64 (ml), .int .i64 (mh)], .int .i64 (x)] w fun e w' => e = .returned (.bool false) ∧ Below w.heap.size w w'))
    (KH1 : Hid (∀ w : World, Calls Try.prog 13 #[.agg #[.int .i64 (pl), .int .i64 (ph)], .agg #[.int .i64 (ql), .int .i64 (qh)]] w fun e w' => e = .returned (.agg #[.int .i64 (hl), .int .i64 (hh)]) ∧ Below w.heap.size w w'))
    (KH2 : Hid (∀ w : World, Calls Try.prog 13 #[.agg #[.int .i64 (ql), .int .i64 (qh)], .agg #[.int .i64 (pl), .int .i64 (ph)]] w fun e w' => e = .returned (.agg #[.int .i64 (hl), .int .i64 (hh)]) ∧ Below w.heap.size w w'))
    (KS : Hid (∀ (a b : Int) (w : World), Calls Try.prog 18 #[.agg #[.int .i64 a, .int .i64 b], .agg #[.int .i64 a, .int .i64 b]] w fun e w' => e = .returned (.bool true) ∧ Below w.heap.size w w'))
    (KI1 : Hid (∀ w : World, Calls Try.prog 15 #[.agg #[.int .i64 (pl), .int .i64 (ph)], .agg #[.int .i64 (hl), .int .i64 (hh)]] w fun e w' => e = .returned (.bool true) ∧ Below w.heap.size w w'))
    (KI2 : Hid (∀ w : World, Calls Try.prog 15 #[.agg #[.int .i64 (ql), .int .i64 (qh)], .agg #[.int .i64 (hl), .int .i64 (hh)]] w fun e w' => e = .returned (.bool true) ∧ Below w.heap.size w w'))
    (e1 : (hl == pl) = true)
    (e2 : (hh == ph) = false)
    (e4 : (hh == qh) = true) (w : World) :
    Calls Try.prog 4 #[.int .i64 a, .int .i64 b, .int .i64 c, .int .i64 d, .int .i64 x] w fun e w' => e = .returned (.bool true) ∧ Below w.heap.size w w' := by
  have E1 := Lib.hid e1; clear e1
  have E2 := Lib.hid e2; clear e2
  have E4 := Lib.hid e4; clear e4
  have t0 : Below w.heap.size w w := Below.refl _ _
  go_enter Try.func4, Try.ntmps4
  go_wp2_with fail
  refine (first2 _).mono ?_; rintro e w1 ⟨rfl, hb1⟩
  have t1 : Below w.heap.size w w1 := by first | exact below_step t0 hb1 | exact below_stepA t0 hb1
  clear hb1 t0
  go_wp2_with fail
  refine (K0.out _).mono ?_; rintro e w2 ⟨rfl, hb2⟩
  have t2 : Below w.heap.size w w2 := by first | exact below_step t1 hb2 | exact below_stepA t1 hb2
  clear hb2 t1
  go_wp2_with fail
  refine (K1.out _).mono ?_; rintro e w3 ⟨rfl, hb3⟩
  have p_3 : SpAt w3 w2.heap.size (pl) (ph) := (SpAt.new _ _ _ _).keep hb3
  have t3 : Below w.heap.size w w3 := by first | exact below_step t2 hb3 | exact below_stepA t2 hb3
  clear hb3 t2
  have pa := p_3.1; have pb := p_3.2.1; have pc := p_3.2.2
  go_wp2_with fail
  refine (KM1.out _).mono ?_; rintro e w4 ⟨rfl, hb4⟩
  have p_4 : SpAt w4 w2.heap.size (pl) (ph) := by first | exact p_3.keep hb4 | exact (p_3.alloc _).keep hb4
  clear pa pb pc p_3
  have q_4 : SpAt w4 w3.heap.size (ql) (qh) := (SpAt.new _ _ _ _).keep hb4
  have t4 : Below w.heap.size w w4 := by first | exact below_step t3 hb4 | exact below_stepA t3 hb4
  clear hb4 t3
  have pa := p_4.1; have pb := p_4.2.1; have pc := p_4.2.2
  have qa := q_4.1; have qb := q_4.2.1; have qc := q_4.2.2
  go_wp2_with fail
  refine (KM2.out _).mono ?_; rintro e w5 ⟨rfl, hb5⟩
  have p_5 : SpAt w5 w2.heap.size (pl) (ph) := by first | exact p_4.keep hb5 | exact (p_4.alloc _).keep hb5
  clear pa pb pc p_4
  have q_5 : SpAt w5 w3.heap.size (ql) (qh) := by first | exact q_4.keep hb5 | exact (q_4.alloc _).keep hb5
  clear qa qb qc q_4
  have m_5 : SpAt w5 w4.heap.size (ml) (mh) := (SpAt.new _ _ _ _).keep hb5
  have t5 : Below w.heap.size w w5 := by first | exact below_step t4 hb5 | exact below_stepA t4 hb5
  clear hb5 t4
  have pa := p_5.1; have pb := p_5.2.1; have pc := p_5.2.2
  have qa := q_5.1; have qb := q_5.2.1; have qc := q_5.2.2
  have ma := m_5.1; have mb := m_5.2.1; have mc := m_5.2.2
  go_wp2_with fail
  refine (KP.out _).mono ?_; rintro e w6 ⟨rfl, hb6⟩
  have p_6 : SpAt w6 w2.heap.size (pl) (ph) := by first | exact p_5.keep hb6 | exact (p_5.alloc _).keep hb6
  clear pa pb pc p_5
  have q_6 : SpAt w6 w3.heap.size (ql) (qh) := by first | exact q_5.keep hb6 | exact (q_5.alloc _).keep hb6
  clear qa qb qc q_5
  have m_6 : SpAt w6 w4.heap.size (ml) (mh) := by first | exact m_5.keep hb6 | exact (m_5.alloc _).keep hb6
  clear ma mb mc m_5
  have n_6 : SpAt w6 w5.heap.size (ml) (mh) := (SpAt.new _ _ _ _).keep hb6
  have t6 : Below w.heap.size w w6 := by first | exact below_step t5 hb6 | exact below_stepA t5 hb6
  clear hb6 t5
  have pa := p_6.1; have pb := p_6.2.1; have pc := p_6.2.2
  have qa := q_6.1; have qb := q_6.2.1; have qc := q_6.2.2
  have ma := m_6.1; have mb := m_6.2.1; have mc := m_6.2.2
  have na := n_6.1; have nb := n_6.2.1; have nc := n_6.2.2
  go_wp2_with fail
  refine (KQ.out _).mono ?_; rintro e w7 ⟨rfl, hb7⟩
  have p_7 : SpAt w7 w2.heap.size (pl) (ph) := by first | exact p_6.keep hb7 | exact (p_6.alloc _).keep hb7
  clear pa pb pc p_6
  have q_7 : SpAt w7 w3.heap.size (ql) (qh) := by first | exact q_6.keep hb7 | exact (q_6.alloc _).keep hb7
  clear qa qb qc q_6
  have m_7 : SpAt w7 w4.heap.size (ml) (mh) := by first | exact m_6.keep hb7 | exact (m_6.alloc _).keep hb7
  clear ma mb mc m_6
  have n_7 : SpAt w7 w5.heap.size (ml) (mh) := by first | exact n_6.keep hb7 | exact (n_6.alloc _).keep hb7
  clear na nb nc n_6
  have t7 : Below w.heap.size w w7 := by first | exact below_step t6 hb7 | exact below_stepA t6 hb7
  clear hb7 t6
  have pa := p_7.1; have pb := p_7.2.1; have pc := p_7.2.2
  have qa := q_7.1; have qb := q_7.2.1; have qc := q_7.2.2
  have ma := m_7.1; have mb := m_7.2.1; have mc := m_7.2.2
  have na := n_7.1; have nb := n_7.2.1; have nc := n_7.2.2
  go_wp2_with fail
  refine (KH1.out _).mono ?_; rintro e w8 ⟨rfl, hb8⟩
  have p_8 : SpAt w8 w2.heap.size (pl) (ph) := by first | exact p_7.keep hb8 | exact (p_7.alloc _).keep hb8
  clear pa pb pc p_7
  have q_8 : SpAt w8 w3.heap.size (ql) (qh) := by first | exact q_7.keep hb8 | exact (q_7.alloc _).keep hb8
  clear qa qb qc q_7
  have m_8 : SpAt w8 w4.heap.size (ml) (mh) := by first | exact m_7.keep hb8 | exact (m_7.alloc _).keep hb8
  clear ma mb mc m_7
  have n_8 : SpAt w8 w5.heap.size (ml) (mh) := by first | exact n_7.keep hb8 | exact (n_7.alloc _).keep hb8
  clear na nb nc n_7
  have t8 : Below w.heap.size w w8 := by first | exact below_step t7 hb8 | exact below_stepA t7 hb8
  clear hb8 t7
  have pa := p_8.1; have pb := p_8.2.1; have pc := p_8.2.2
  have qa := q_8.1; have qb := q_8.2.1; have qc := q_8.2.2
  have ma := m_8.1; have mb := m_8.2.1; have mc := m_8.2.2
  have na := n_8.1; have nb := n_8.2.1; have nc := n_8.2.2
  go_wp2_with fail
  have e1 := E1.out; clear E1
  have e2 := E2.out; clear E2
  have e4 := E4.out; clear E4
  have pA := (p_8.alloc (.cells #[.int .i64 (hl), .int .i64 (hh)] 24))
  have qA := (q_8.alloc (.cells #[.int .i64 (hl), .int .i64 (hh)] 24))
  have mA := (m_8.alloc (.cells #[.int .i64 (hl), .int .i64 (hh)] 24))
  have nA := (n_8.alloc (.cells #[.int .i64 (hl), .int .i64 (hh)] 24))
  have hA := SpAt.new w8 (hl) (hh) 24
  have tA : Below w.heap.size w (w8.alloc (.cells #[.int .i64 (hl), .int .i64 (hh)] 24)) := t8.alloc t8.size _
  clear pa pb pc p_8
  have pa := fun d => reach_cell pA.1 pA.2.2 d; have pb := fun d => reach_cell pA.2.1 pA.2.2 d; clear pA
  clear qa qb qc q_8
  have qa := fun d => reach_cell qA.1 qA.2.2 d; have qb := fun d => reach_cell qA.2.1 qA.2.2 d; clear qA
  clear ma mb mc m_8
  have ma := fun d => reach_cell mA.1 mA.2.2 d; have mb := fun d => reach_cell mA.2.1 mA.2.2 d; clear mA
  clear na nb nc n_8
  have na := fun d => reach_cell nA.1 nA.2.2 d; have nb := fun d => reach_cell nA.2.1 nA.2.2 d; clear nA
  have ha := fun d => reach_cell hA.1 hA.2.2 d; have hb := fun d => reach_cell hA.2.1 hA.2.2 d; clear hA
  clear t8
  have hB : (w8.alloc (.cells #[.int .i64 (hl), .int .i64 (hh)] 24)).heap.size ≤ (w8.alloc (.cells #[.int .i64 (hl), .int .i64 (hh)] 24)).heap.size := Nat.le_refl _
  have tB : ∀ d, Below w.heap.size w (reach (w8.alloc (.cells #[.int .i64 (hl), .int .i64 (hh)] 24)).heap.size (w8.alloc (.cells #[.int .i64 (hl), .int .i64 (hh)] 24)) d) := fun d => tA.trans ((reach_below _ _ d).mono tA.size)
  have TB := Lib.hid tB; clear tB tA
  generalize (w8.alloc (.cells #[.int .i64 (hl), .int .i64 (hh)] 24)) = W at *
  try simp only [List.append]
  refine wp_region_light W.heap.size (by kernel_rfl) (by kernel_rfl) (by kernel_rfl) ?_
  repeat (go_big_quiet_step ((first | (go_at_call 18; with_reducible exact reach_call hB (KS.out _ _ _)) | (go_at_call 9; with_reducible exact reach_call hB (KX.out _)) | (go_at_call 15; with_reducible exact reach_call hB (KI1.out _)) | (go_at_call 15; with_reducible exact reach_call hB (KI2.out _)) | (go_at_call 13; with_reducible exact reach_call hB (KH2.out _)))))
  all_goals (refine wpQuiet_nil ?_)
  all_goals (rintro w' ⟨d, rfl⟩)
  all_goals go_wp2
  all_goals go_ret
  exact ⟨rfl, TB.out d⟩
set_option maxRecDepth 100000 in
set_option maxHeartbeats 8000000 in
theorem meetsYTFc (a b c d x pl ph ql qh ml mh hl hh : Int) (K0 : Hid (∀ w : World, Calls Try.prog 7 #[.int .i64 (a), .int .i64 (b)] w fun e w' => e = .returned (.agg #[.int .i64 (pl), .int .i64 (ph)]) ∧ Below w.heap.size w w'))
    (K1 : Hid (∀ w : World, Calls Try.prog 7 #[.int .i64 (c), .int .i64 (d)] w fun e w' => e = .returned (.agg #[.int .i64 (ql), .int .i64 (qh)]) ∧ Below w.heap.size w w'))
    (KM1 : Hid (∀ w : World, Calls Try.prog 14 #[.agg #[.int .i64 (pl), .int .i64 (ph)], .agg #[.int .i64 (ql), .int .i64 (qh)]] w fun e w' => e = .returned (.tuple #[.agg #[.int .i64 (ml), .int .i64 (mh)], .bool true]) ∧ Below w.heap.size w w'))
    (KM2 : Hid (∀ w : World, Calls Try.prog 14 #[.agg #[.int .i64 (ql), .int .i64 (qh)], .agg #[.int .i64 (pl), .int .i64 (ph)]] w fun e w' => e = .returned (.tuple #[.agg #[.int .i64 (ml), .int .i64 (mh)], .bool true]) ∧ Below w.heap.size w w'))
    (KP : Hid (∀ w : World, Calls Try.prog 9 #[.agg #[.int .i64 (pl), .int .i64 (ph)], .int .i64 (x)] w fun e w' => e = .returned (.bool true) ∧ Below w.heap.size w w'))
    (KQ : Hid (∀ w : World, Calls Try.prog 9 #[.agg #[.int .i64 (ql), .int .i64 (qh)], .int .i64 (x)] w fun e w' => e = .returned (.bool false) ∧ Below w.heap.size w w'))
    (KX : Hid (∀ w : World, Calls Try.prog 9 #[.agg #[.int .i64 (ml), .int .i64 (mh)], .int .i64 (x)] w fun e w' => e = .returned (.bool false) ∧ Below w.heap.size w w'))
    (KH1 : Hid (∀ w : World, Calls Try.prog 13 #[.agg #[.int .i64 (pl), .int .i64 (ph)], .agg #[.int .i64 (ql), .int .i64 (qh)]] w fun e w' => e = .returned (.agg #[.int .i64 (hl), .int .i64 (hh)]) ∧ Below w.heap.size w w'))
    (KH2 : Hid (∀ w : World, Calls Try.prog 13 #[.agg #[.int .i64 (ql), .int .i64 (qh)], .agg #[.int .i64 (pl), .int .i64 (ph)]] w fun e w' => e = .returned (.agg #[.int .i64 (hl), .int .i64 (hh)]) ∧ Below w.heap.size w w'))
    (KS : Hid (∀ (a b : Int) (w : World), Calls Try.prog 18 #[.agg #[.int .i64 a, .int .i64 b], .agg #[.int .i64 a, .int .i64 b]] w fun e w' => e = .returned (.bool true) ∧ Below w.heap.size w w'))
    (KI1 : Hid (∀ w : World, Calls Try.prog 15 #[.agg #[.int .i64 (pl), .int .i64 (ph)], .agg #[.int .i64 (hl), .int .i64 (hh)]] w fun e w' => e = .returned (.bool true) ∧ Below w.heap.size w w'))
    (KI2 : Hid (∀ w : World, Calls Try.prog 15 #[.agg #[.int .i64 (ql), .int .i64 (qh)], .agg #[.int .i64 (hl), .int .i64 (hh)]] w fun e w' => e = .returned (.bool true) ∧ Below w.heap.size w w'))
    (e1 : (hl == pl) = false)
    (e2 : (hh == ph) = true)
    (e3 : (hl == ql) = true) (w : World) :
    Calls Try.prog 4 #[.int .i64 a, .int .i64 b, .int .i64 c, .int .i64 d, .int .i64 x] w fun e w' => e = .returned (.bool true) ∧ Below w.heap.size w w' := by
  have E1 := Lib.hid e1; clear e1
  have E2 := Lib.hid e2; clear e2
  have E3 := Lib.hid e3; clear e3
  have t0 : Below w.heap.size w w := Below.refl _ _
  go_enter Try.func4, Try.ntmps4
  go_wp2_with fail
  refine (first2 _).mono ?_; rintro e w1 ⟨rfl, hb1⟩
  have t1 : Below w.heap.size w w1 := by first | exact below_step t0 hb1 | exact below_stepA t0 hb1
  clear hb1 t0
  go_wp2_with fail
  refine (K0.out _).mono ?_; rintro e w2 ⟨rfl, hb2⟩
  have t2 : Below w.heap.size w w2 := by first | exact below_step t1 hb2 | exact below_stepA t1 hb2
  clear hb2 t1
  go_wp2_with fail
  refine (K1.out _).mono ?_; rintro e w3 ⟨rfl, hb3⟩
  have p_3 : SpAt w3 w2.heap.size (pl) (ph) := (SpAt.new _ _ _ _).keep hb3
  have t3 : Below w.heap.size w w3 := by first | exact below_step t2 hb3 | exact below_stepA t2 hb3
  clear hb3 t2
  have pa := p_3.1; have pb := p_3.2.1; have pc := p_3.2.2
  go_wp2_with fail
  refine (KM1.out _).mono ?_; rintro e w4 ⟨rfl, hb4⟩
  have p_4 : SpAt w4 w2.heap.size (pl) (ph) := by first | exact p_3.keep hb4 | exact (p_3.alloc _).keep hb4
  clear pa pb pc p_3
  have q_4 : SpAt w4 w3.heap.size (ql) (qh) := (SpAt.new _ _ _ _).keep hb4
  have t4 : Below w.heap.size w w4 := by first | exact below_step t3 hb4 | exact below_stepA t3 hb4
  clear hb4 t3
  have pa := p_4.1; have pb := p_4.2.1; have pc := p_4.2.2
  have qa := q_4.1; have qb := q_4.2.1; have qc := q_4.2.2
  go_wp2_with fail
  refine (KM2.out _).mono ?_; rintro e w5 ⟨rfl, hb5⟩
  have p_5 : SpAt w5 w2.heap.size (pl) (ph) := by first | exact p_4.keep hb5 | exact (p_4.alloc _).keep hb5
  clear pa pb pc p_4
  have q_5 : SpAt w5 w3.heap.size (ql) (qh) := by first | exact q_4.keep hb5 | exact (q_4.alloc _).keep hb5
  clear qa qb qc q_4
  have m_5 : SpAt w5 w4.heap.size (ml) (mh) := (SpAt.new _ _ _ _).keep hb5
  have t5 : Below w.heap.size w w5 := by first | exact below_step t4 hb5 | exact below_stepA t4 hb5
  clear hb5 t4
  have pa := p_5.1; have pb := p_5.2.1; have pc := p_5.2.2
  have qa := q_5.1; have qb := q_5.2.1; have qc := q_5.2.2
  have ma := m_5.1; have mb := m_5.2.1; have mc := m_5.2.2
  go_wp2_with fail
  refine (KP.out _).mono ?_; rintro e w6 ⟨rfl, hb6⟩
  have p_6 : SpAt w6 w2.heap.size (pl) (ph) := by first | exact p_5.keep hb6 | exact (p_5.alloc _).keep hb6
  clear pa pb pc p_5
  have q_6 : SpAt w6 w3.heap.size (ql) (qh) := by first | exact q_5.keep hb6 | exact (q_5.alloc _).keep hb6
  clear qa qb qc q_5
  have m_6 : SpAt w6 w4.heap.size (ml) (mh) := by first | exact m_5.keep hb6 | exact (m_5.alloc _).keep hb6
  clear ma mb mc m_5
  have n_6 : SpAt w6 w5.heap.size (ml) (mh) := (SpAt.new _ _ _ _).keep hb6
  have t6 : Below w.heap.size w w6 := by first | exact below_step t5 hb6 | exact below_stepA t5 hb6
  clear hb6 t5
  have pa := p_6.1; have pb := p_6.2.1; have pc := p_6.2.2
  have qa := q_6.1; have qb := q_6.2.1; have qc := q_6.2.2
  have ma := m_6.1; have mb := m_6.2.1; have mc := m_6.2.2
  have na := n_6.1; have nb := n_6.2.1; have nc := n_6.2.2
  go_wp2_with fail
  refine (KQ.out _).mono ?_; rintro e w7 ⟨rfl, hb7⟩
  have p_7 : SpAt w7 w2.heap.size (pl) (ph) := by first | exact p_6.keep hb7 | exact (p_6.alloc _).keep hb7
  clear pa pb pc p_6
  have q_7 : SpAt w7 w3.heap.size (ql) (qh) := by first | exact q_6.keep hb7 | exact (q_6.alloc _).keep hb7
  clear qa qb qc q_6
  have m_7 : SpAt w7 w4.heap.size (ml) (mh) := by first | exact m_6.keep hb7 | exact (m_6.alloc _).keep hb7
  clear ma mb mc m_6
  have n_7 : SpAt w7 w5.heap.size (ml) (mh) := by first | exact n_6.keep hb7 | exact (n_6.alloc _).keep hb7
  clear na nb nc n_6
  have t7 : Below w.heap.size w w7 := by first | exact below_step t6 hb7 | exact below_stepA t6 hb7
  clear hb7 t6
  have pa := p_7.1; have pb := p_7.2.1; have pc := p_7.2.2
  have qa := q_7.1; have qb := q_7.2.1; have qc := q_7.2.2
  have ma := m_7.1; have mb := m_7.2.1; have mc := m_7.2.2
  have na := n_7.1; have nb := n_7.2.1; have nc := n_7.2.2
  go_wp2_with fail
  refine (KH1.out _).mono ?_; rintro e w8 ⟨rfl, hb8⟩
  have p_8 : SpAt w8 w2.heap.size (pl) (ph) := by first | exact p_7.keep hb8 | exact (p_7.alloc _).keep hb8
  clear pa pb pc p_7
  have q_8 : SpAt w8 w3.heap.size (ql) (qh) := by first | exact q_7.keep hb8 | exact (q_7.alloc _).keep hb8
  clear qa qb qc q_7
  have m_8 : SpAt w8 w4.heap.size (ml) (mh) := by first | exact m_7.keep hb8 | exact (m_7.alloc _).keep hb8
  clear ma mb mc m_7
  have n_8 : SpAt w8 w5.heap.size (ml) (mh) := by first | exact n_7.keep hb8 | exact (n_7.alloc _).keep hb8
  clear na nb nc n_7
  have t8 : Below w.heap.size w w8 := by first | exact below_step t7 hb8 | exact below_stepA t7 hb8
  clear hb8 t7
  have pa := p_8.1; have pb := p_8.2.1; have pc := p_8.2.2
  have qa := q_8.1; have qb := q_8.2.1; have qc := q_8.2.2
  have ma := m_8.1; have mb := m_8.2.1; have mc := m_8.2.2
  have na := n_8.1; have nb := n_8.2.1; have nc := n_8.2.2
  go_wp2_with fail
  have e1 := E1.out; clear E1
  have e2 := E2.out; clear E2
  have e3 := E3.out; clear E3
  have pA := (p_8.alloc (.cells #[.int .i64 (hl), .int .i64 (hh)] 24))
  have qA := (q_8.alloc (.cells #[.int .i64 (hl), .int .i64 (hh)] 24))
  have mA := (m_8.alloc (.cells #[.int .i64 (hl), .int .i64 (hh)] 24))
  have nA := (n_8.alloc (.cells #[.int .i64 (hl), .int .i64 (hh)] 24))
  have hA := SpAt.new w8 (hl) (hh) 24
  have tA : Below w.heap.size w (w8.alloc (.cells #[.int .i64 (hl), .int .i64 (hh)] 24)) := t8.alloc t8.size _
  clear pa pb pc p_8
  have pa := fun d => reach_cell pA.1 pA.2.2 d; have pb := fun d => reach_cell pA.2.1 pA.2.2 d; clear pA
  clear qa qb qc q_8
  have qa := fun d => reach_cell qA.1 qA.2.2 d; have qb := fun d => reach_cell qA.2.1 qA.2.2 d; clear qA
  clear ma mb mc m_8
  have ma := fun d => reach_cell mA.1 mA.2.2 d; have mb := fun d => reach_cell mA.2.1 mA.2.2 d; clear mA
  clear na nb nc n_8
  have na := fun d => reach_cell nA.1 nA.2.2 d; have nb := fun d => reach_cell nA.2.1 nA.2.2 d; clear nA
  have ha := fun d => reach_cell hA.1 hA.2.2 d; have hb := fun d => reach_cell hA.2.1 hA.2.2 d; clear hA
  clear t8
  have hB : (w8.alloc (.cells #[.int .i64 (hl), .int .i64 (hh)] 24)).heap.size ≤ (w8.alloc (.cells #[.int .i64 (hl), .int .i64 (hh)] 24)).heap.size := Nat.le_refl _
  have tB : ∀ d, Below w.heap.size w (reach (w8.alloc (.cells #[.int .i64 (hl), .int .i64 (hh)] 24)).heap.size (w8.alloc (.cells #[.int .i64 (hl), .int .i64 (hh)] 24)) d) := fun d => tA.trans ((reach_below _ _ d).mono tA.size)
  have TB := Lib.hid tB; clear tB tA
  generalize (w8.alloc (.cells #[.int .i64 (hl), .int .i64 (hh)] 24)) = W at *
  try simp only [List.append]
  refine wp_region_light W.heap.size (by kernel_rfl) (by kernel_rfl) (by kernel_rfl) ?_
  repeat (go_big_quiet_step ((first | (go_at_call 18; with_reducible exact reach_call hB (KS.out _ _ _)) | (go_at_call 9; with_reducible exact reach_call hB (KX.out _)) | (go_at_call 15; with_reducible exact reach_call hB (KI1.out _)) | (go_at_call 15; with_reducible exact reach_call hB (KI2.out _)) | (go_at_call 13; with_reducible exact reach_call hB (KH2.out _)))))
  all_goals (refine wpQuiet_nil ?_)
  all_goals (rintro w' ⟨d, rfl⟩)
  all_goals go_wp2
  all_goals go_ret
  exact ⟨rfl, TB.out d⟩
set_option maxRecDepth 100000 in
set_option maxHeartbeats 8000000 in
theorem meetsYTFd (a b c d x pl ph ql qh ml mh hl hh : Int) (K0 : Hid (∀ w : World, Calls Try.prog 7 #[.int .i64 (a), .int .i64 (b)] w fun e w' => e = .returned (.agg #[.int .i64 (pl), .int .i64 (ph)]) ∧ Below w.heap.size w w'))
    (K1 : Hid (∀ w : World, Calls Try.prog 7 #[.int .i64 (c), .int .i64 (d)] w fun e w' => e = .returned (.agg #[.int .i64 (ql), .int .i64 (qh)]) ∧ Below w.heap.size w w'))
    (KM1 : Hid (∀ w : World, Calls Try.prog 14 #[.agg #[.int .i64 (pl), .int .i64 (ph)], .agg #[.int .i64 (ql), .int .i64 (qh)]] w fun e w' => e = .returned (.tuple #[.agg #[.int .i64 (ml), .int .i64 (mh)], .bool true]) ∧ Below w.heap.size w w'))
    (KM2 : Hid (∀ w : World, Calls Try.prog 14 #[.agg #[.int .i64 (ql), .int .i64 (qh)], .agg #[.int .i64 (pl), .int .i64 (ph)]] w fun e w' => e = .returned (.tuple #[.agg #[.int .i64 (ml), .int .i64 (mh)], .bool true]) ∧ Below w.heap.size w w'))
    (KP : Hid (∀ w : World, Calls Try.prog 9 #[.agg #[.int .i64 (pl), .int .i64 (ph)], .int .i64 (x)] w fun e w' => e = .returned (.bool true) ∧ Below w.heap.size w w'))
    (KQ : Hid (∀ w : World, Calls Try.prog 9 #[.agg #[.int .i64 (ql), .int .i64 (qh)], .int .i64 (x)] w fun e w' => e = .returned (.bool false) ∧ Below w.heap.size w w'))
    (KX : Hid (∀ w : World, Calls Try.prog 9 #[.agg #[.int .i64 (ml), .int .i64 (mh)], .int .i64 (x)] w fun e w' => e = .returned (.bool false) ∧ Below w.heap.size w w'))
    (KH1 : Hid (∀ w : World, Calls Try.prog 13 #[.agg #[.int .i64 (pl), .int .i64 (ph)], .agg #[.int .i64 (ql), .int .i64 (qh)]] w fun e w' => e = .returned (.agg #[.int .i64 (hl), .int .i64 (hh)]) ∧ Below w.heap.size w w'))
    (KH2 : Hid (∀ w : World, Calls Try.prog 13 #[.agg #[.int .i64 (ql), .int .i64 (qh)], .agg #[.int .i64 (pl), .int .i64 (ph)]] w fun e w' => e = .returned (.agg #[.int .i64 (hl), .int .i64 (hh)]) ∧ Below w.heap.size w w'))
    (KS : Hid (∀ (a b : Int) (w : World), Calls Try.prog 18 #[.agg #[.int .i64 a, .int .i64 b], .agg #[.int .i64 a, .int .i64 b]] w fun e w' => e = .returned (.bool true) ∧ Below w.heap.size w w'))
    (KI1 : Hid (∀ w : World, Calls Try.prog 15 #[.agg #[.int .i64 (pl), .int .i64 (ph)], .agg #[.int .i64 (hl), .int .i64 (hh)]] w fun e w' => e = .returned (.bool true) ∧ Below w.heap.size w w'))
    (KI2 : Hid (∀ w : World, Calls Try.prog 15 #[.agg #[.int .i64 (ql), .int .i64 (qh)], .agg #[.int .i64 (hl), .int .i64 (hh)]] w fun e w' => e = .returned (.bool true) ∧ Below w.heap.size w w'))
    (e1 : (hl == pl) = false)
    (e2 : (hh == ph) = false)
    (e3 : (hl == ql) = true)
    (e4 : (hh == qh) = true) (w : World) :
    Calls Try.prog 4 #[.int .i64 a, .int .i64 b, .int .i64 c, .int .i64 d, .int .i64 x] w fun e w' => e = .returned (.bool true) ∧ Below w.heap.size w w' := by
  have E1 := Lib.hid e1; clear e1
  have E2 := Lib.hid e2; clear e2
  have E3 := Lib.hid e3; clear e3
  have E4 := Lib.hid e4; clear e4
  have t0 : Below w.heap.size w w := Below.refl _ _
  go_enter Try.func4, Try.ntmps4
  go_wp2_with fail
  refine (first2 _).mono ?_; rintro e w1 ⟨rfl, hb1⟩
  have t1 : Below w.heap.size w w1 := by first | exact below_step t0 hb1 | exact below_stepA t0 hb1
  clear hb1 t0
  go_wp2_with fail
  refine (K0.out _).mono ?_; rintro e w2 ⟨rfl, hb2⟩
  have t2 : Below w.heap.size w w2 := by first | exact below_step t1 hb2 | exact below_stepA t1 hb2
  clear hb2 t1
  go_wp2_with fail
  refine (K1.out _).mono ?_; rintro e w3 ⟨rfl, hb3⟩
  have p_3 : SpAt w3 w2.heap.size (pl) (ph) := (SpAt.new _ _ _ _).keep hb3
  have t3 : Below w.heap.size w w3 := by first | exact below_step t2 hb3 | exact below_stepA t2 hb3
  clear hb3 t2
  have pa := p_3.1; have pb := p_3.2.1; have pc := p_3.2.2
  go_wp2_with fail
  refine (KM1.out _).mono ?_; rintro e w4 ⟨rfl, hb4⟩
  have p_4 : SpAt w4 w2.heap.size (pl) (ph) := by first | exact p_3.keep hb4 | exact (p_3.alloc _).keep hb4
  clear pa pb pc p_3
  have q_4 : SpAt w4 w3.heap.size (ql) (qh) := (SpAt.new _ _ _ _).keep hb4
  have t4 : Below w.heap.size w w4 := by first | exact below_step t3 hb4 | exact below_stepA t3 hb4
  clear hb4 t3
  have pa := p_4.1; have pb := p_4.2.1; have pc := p_4.2.2
  have qa := q_4.1; have qb := q_4.2.1; have qc := q_4.2.2
  go_wp2_with fail
  refine (KM2.out _).mono ?_; rintro e w5 ⟨rfl, hb5⟩
  have p_5 : SpAt w5 w2.heap.size (pl) (ph) := by first | exact p_4.keep hb5 | exact (p_4.alloc _).keep hb5
  clear pa pb pc p_4
  have q_5 : SpAt w5 w3.heap.size (ql) (qh) := by first | exact q_4.keep hb5 | exact (q_4.alloc _).keep hb5
  clear qa qb qc q_4
  have m_5 : SpAt w5 w4.heap.size (ml) (mh) := (SpAt.new _ _ _ _).keep hb5
  have t5 : Below w.heap.size w w5 := by first | exact below_step t4 hb5 | exact below_stepA t4 hb5
  clear hb5 t4
  have pa := p_5.1; have pb := p_5.2.1; have pc := p_5.2.2
  have qa := q_5.1; have qb := q_5.2.1; have qc := q_5.2.2
  have ma := m_5.1; have mb := m_5.2.1; have mc := m_5.2.2
  go_wp2_with fail
  refine (KP.out _).mono ?_; rintro e w6 ⟨rfl, hb6⟩
  have p_6 : SpAt w6 w2.heap.size (pl) (ph) := by first | exact p_5.keep hb6 | exact (p_5.alloc _).keep hb6
  clear pa pb pc p_5
  have q_6 : SpAt w6 w3.heap.size (ql) (qh) := by first | exact q_5.keep hb6 | exact (q_5.alloc _).keep hb6
  clear qa qb qc q_5
  have m_6 : SpAt w6 w4.heap.size (ml) (mh) := by first | exact m_5.keep hb6 | exact (m_5.alloc _).keep hb6
  clear ma mb mc m_5
  have n_6 : SpAt w6 w5.heap.size (ml) (mh) := (SpAt.new _ _ _ _).keep hb6
  have t6 : Below w.heap.size w w6 := by first | exact below_step t5 hb6 | exact below_stepA t5 hb6
  clear hb6 t5
  have pa := p_6.1; have pb := p_6.2.1; have pc := p_6.2.2
  have qa := q_6.1; have qb := q_6.2.1; have qc := q_6.2.2
  have ma := m_6.1; have mb := m_6.2.1; have mc := m_6.2.2
  have na := n_6.1; have nb := n_6.2.1; have nc := n_6.2.2
  go_wp2_with fail
  refine (KQ.out _).mono ?_; rintro e w7 ⟨rfl, hb7⟩
  have p_7 : SpAt w7 w2.heap.size (pl) (ph) := by first | exact p_6.keep hb7 | exact (p_6.alloc _).keep hb7
  clear pa pb pc p_6
  have q_7 : SpAt w7 w3.heap.size (ql) (qh) := by first | exact q_6.keep hb7 | exact (q_6.alloc _).keep hb7
  clear qa qb qc q_6
  have m_7 : SpAt w7 w4.heap.size (ml) (mh) := by first | exact m_6.keep hb7 | exact (m_6.alloc _).keep hb7
  clear ma mb mc m_6
  have n_7 : SpAt w7 w5.heap.size (ml) (mh) := by first | exact n_6.keep hb7 | exact (n_6.alloc _).keep hb7
  clear na nb nc n_6
  have t7 : Below w.heap.size w w7 := by first | exact below_step t6 hb7 | exact below_stepA t6 hb7
  clear hb7 t6
  have pa := p_7.1; have pb := p_7.2.1; have pc := p_7.2.2
  have qa := q_7.1; have qb := q_7.2.1; have qc := q_7.2.2
  have ma := m_7.1; have mb := m_7.2.1; have mc := m_7.2.2
  have na := n_7.1; have nb := n_7.2.1; have nc := n_7.2.2
  go_wp2_with fail
  refine (KH1.out _).mono ?_; rintro e w8 ⟨rfl, hb8⟩
  have p_8 : SpAt w8 w2.heap.size (pl) (ph) := by first | exact p_7.keep hb8 | exact (p_7.alloc _).keep hb8
  clear pa pb pc p_7
  have q_8 : SpAt w8 w3.heap.size (ql) (qh) := by first | exact q_7.keep hb8 | exact (q_7.alloc _).keep hb8
  clear qa qb qc q_7
  have m_8 : SpAt w8 w4.heap.size (ml) (mh) := by first | exact m_7.keep hb8 | exact (m_7.alloc _).keep hb8
  clear ma mb mc m_7
  have n_8 : SpAt w8 w5.heap.size (ml) (mh) := by first | exact n_7.keep hb8 | exact (n_7.alloc _).keep hb8
  clear na nb nc n_7
  have t8 : Below w.heap.size w w8 := by first | exact below_step t7 hb8 | exact below_stepA t7 hb8
  clear hb8 t7
  have pa := p_8.1; have pb := p_8.2.1; have pc := p_8.2.2
  have qa := q_8.1; have qb := q_8.2.1; have qc := q_8.2.2
  have ma := m_8.1; have mb := m_8.2.1; have mc := m_8.2.2
  have na := n_8.1; have nb := n_8.2.1; have nc := n_8.2.2
  go_wp2_with fail
  have e1 := E1.out; clear E1
  have e2 := E2.out; clear E2
  have e3 := E3.out; clear E3
  have e4 := E4.out; clear E4
  have pA := (p_8.alloc (.cells #[.int .i64 (hl), .int .i64 (hh)] 24))
  have qA := (q_8.alloc (.cells #[.int .i64 (hl), .int .i64 (hh)] 24))
  have mA := (m_8.alloc (.cells #[.int .i64 (hl), .int .i64 (hh)] 24))
  have nA := (n_8.alloc (.cells #[.int .i64 (hl), .int .i64 (hh)] 24))
  have hA := SpAt.new w8 (hl) (hh) 24
  have tA : Below w.heap.size w (w8.alloc (.cells #[.int .i64 (hl), .int .i64 (hh)] 24)) := t8.alloc t8.size _
  clear pa pb pc p_8
  have pa := fun d => reach_cell pA.1 pA.2.2 d; have pb := fun d => reach_cell pA.2.1 pA.2.2 d; clear pA
  clear qa qb qc q_8
  have qa := fun d => reach_cell qA.1 qA.2.2 d; have qb := fun d => reach_cell qA.2.1 qA.2.2 d; clear qA
  clear ma mb mc m_8
  have ma := fun d => reach_cell mA.1 mA.2.2 d; have mb := fun d => reach_cell mA.2.1 mA.2.2 d; clear mA
  clear na nb nc n_8
  have na := fun d => reach_cell nA.1 nA.2.2 d; have nb := fun d => reach_cell nA.2.1 nA.2.2 d; clear nA
  have ha := fun d => reach_cell hA.1 hA.2.2 d; have hb := fun d => reach_cell hA.2.1 hA.2.2 d; clear hA
  clear t8
  have hB : (w8.alloc (.cells #[.int .i64 (hl), .int .i64 (hh)] 24)).heap.size ≤ (w8.alloc (.cells #[.int .i64 (hl), .int .i64 (hh)] 24)).heap.size := Nat.le_refl _
  have tB : ∀ d, Below w.heap.size w (reach (w8.alloc (.cells #[.int .i64 (hl), .int .i64 (hh)] 24)).heap.size (w8.alloc (.cells #[.int .i64 (hl), .int .i64 (hh)] 24)) d) := fun d => tA.trans ((reach_below _ _ d).mono tA.size)
  have TB := Lib.hid tB; clear tB tA
  generalize (w8.alloc (.cells #[.int .i64 (hl), .int .i64 (hh)] 24)) = W at *
  try simp only [List.append]
  refine wp_region_light W.heap.size (by kernel_rfl) (by kernel_rfl) (by kernel_rfl) ?_
  repeat (go_big_quiet_step ((first | (go_at_call 18; with_reducible exact reach_call hB (KS.out _ _ _)) | (go_at_call 9; with_reducible exact reach_call hB (KX.out _)) | (go_at_call 15; with_reducible exact reach_call hB (KI1.out _)) | (go_at_call 15; with_reducible exact reach_call hB (KI2.out _)) | (go_at_call 13; with_reducible exact reach_call hB (KH2.out _)))))
  all_goals (refine wpQuiet_nil ?_)
  all_goals (rintro w' ⟨d, rfl⟩)
  all_goals go_wp2
  all_goals go_ret
  exact ⟨rfl, TB.out d⟩
end Go.Proofs.Ytfbcceafgmamjab
