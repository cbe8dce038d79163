/- SpanSays returns true: each answer is the document's. Conditions: the numbers of the calls are as the other texts show them to be. -/
import Derived.Test.YtfbcceafgmamjaaSpanC
import Derived.Test.YtfbcceafgmamjaaLex
import Derived.Test.YtfbcceafgmamjaaSpanf
namespace Go.Proofs.Ytfbcceafgmamjaa
open Go.RowKit
set_option maxRecDepth 100000 in
set_option maxHeartbeats 8000000 in
theorem spanSaysW (a b c d k x pl ph ql qh ml mh al ah sl sh cl ch rl rh hl hh wl wh zl zh : Int) (isv u v : Bool)
    (KO1 : Hid (∀ w : World, Calls Try.prog 25 #[.int .i64 (a), .int .i64 (b)] w fun e w' => e = .returned (.agg #[.int .i64 (pl), .int .i64 (ph)]) ∧ Below w.heap.size w w'))
    (KO2 : Hid (∀ w : World, Calls Try.prog 25 #[.int .i64 (c), .int .i64 (d)] w fun e w' => e = .returned (.agg #[.int .i64 (ql), .int .i64 (qh)]) ∧ Below w.heap.size w w'))
    (KM1 : Hid (∀ w : World, Calls Try.prog 26 #[.agg #[.int .i64 (pl), .int .i64 (ph)], .agg #[.int .i64 (ql), .int .i64 (qh)]] w fun e w' => e = .returned (.tuple #[.agg #[.int .i64 (ml), .int .i64 (mh)], .bool isv]) ∧ Below w.heap.size w w'))
    (KM2 : Hid (∀ w : World, Calls Try.prog 27 #[.agg #[.int .i64 (pl), .int .i64 (ph)], .agg #[.int .i64 (ql), .int .i64 (qh)]] w fun e w' => e = .returned (.tuple #[.agg #[.int .i64 (ml), .int .i64 (mh)], .bool isv]) ∧ Below w.heap.size w w'))
    (KS : Hid (∀ (a b : Int) (w : World), Calls Try.prog 28 #[.agg #[.int .i64 a, .int .i64 b], .agg #[.int .i64 a, .int .i64 b]] w fun e w' => e = .returned (.bool true) ∧ Below w.heap.size w w'))
    (KOf : Hid (∀ w : World, Calls Try.prog 29 #[.int .i64 (a), .int .i64 (b)] w fun e w' => e = .returned (.agg #[.int .i64 (pl), .int .i64 (ph)]) ∧ Below w.heap.size w w'))
    (KA1 : Hid (∀ w : World, Calls Try.prog 30 #[.agg #[.int .i64 (pl), .int .i64 (ph)], .agg #[.int .i64 (ql), .int .i64 (qh)]] w fun e w' => e = .returned (.agg #[.int .i64 (al), .int .i64 (ah)]) ∧ Below w.heap.size w w'))
    (KA2 : Hid (∀ w : World, Calls Try.prog 31 #[.agg #[.int .i64 (pl), .int .i64 (ph)], .agg #[.int .i64 (ql), .int .i64 (qh)]] w fun e w' => e = .returned (.agg #[.int .i64 (al), .int .i64 (ah)]) ∧ Below w.heap.size w w'))
    (KB1 : Hid (∀ w : World, Calls Try.prog 32 #[.agg #[.int .i64 (pl), .int .i64 (ph)], .agg #[.int .i64 (ql), .int .i64 (qh)]] w fun e w' => e = .returned (.agg #[.int .i64 (sl), .int .i64 (sh)]) ∧ Below w.heap.size w w'))
    (KB2 : Hid (∀ w : World, Calls Try.prog 33 #[.agg #[.int .i64 (pl), .int .i64 (ph)], .agg #[.int .i64 (ql), .int .i64 (qh)]] w fun e w' => e = .returned (.agg #[.int .i64 (sl), .int .i64 (sh)]) ∧ Below w.heap.size w w'))
    (KC1 : Hid (∀ w : World, Calls Try.prog 34 #[.agg #[.int .i64 (pl), .int .i64 (ph)], .int .i64 (k)] w fun e w' => e = .returned (.agg #[.int .i64 (cl), .int .i64 (ch)]) ∧ Below w.heap.size w w'))
    (KC2 : Hid (∀ w : World, Calls Try.prog 35 #[.agg #[.int .i64 (pl), .int .i64 (ph)], .int .i64 (k)] w fun e w' => e = .returned (.agg #[.int .i64 (cl), .int .i64 (ch)]) ∧ Below w.heap.size w w'))
    (KD1 : Hid (∀ w : World, Calls Try.prog 36 #[.agg #[.int .i64 (pl), .int .i64 (ph)], .int .i64 (k)] w fun e w' => e = .returned (.agg #[.int .i64 (rl), .int .i64 (rh)]) ∧ Below w.heap.size w w'))
    (KD2 : Hid (∀ w : World, Calls Try.prog 37 #[.agg #[.int .i64 (pl), .int .i64 (ph)], .int .i64 (k)] w fun e w' => e = .returned (.agg #[.int .i64 (rl), .int .i64 (rh)]) ∧ Below w.heap.size w w'))
    (KE1 : Hid (∀ w : World, Calls Try.prog 38 #[.agg #[.int .i64 (pl), .int .i64 (ph)], .agg #[.int .i64 (ql), .int .i64 (qh)]] w fun e w' => e = .returned (.agg #[.int .i64 (hl), .int .i64 (hh)]) ∧ Below w.heap.size w w'))
    (KE2 : Hid (∀ w : World, Calls Try.prog 39 #[.agg #[.int .i64 (pl), .int .i64 (ph)], .agg #[.int .i64 (ql), .int .i64 (qh)]] w fun e w' => e = .returned (.agg #[.int .i64 (hl), .int .i64 (hh)]) ∧ Below w.heap.size w w'))
    (KF1 : Hid (∀ w : World, Calls Try.prog 40 #[.agg #[.int .i64 (pl), .int .i64 (ph)], .int .i64 (k)] w fun e w' => e = .returned (.agg #[.int .i64 (wl), .int .i64 (wh)]) ∧ Below w.heap.size w w'))
    (KF2 : Hid (∀ w : World, Calls Try.prog 41 #[.agg #[.int .i64 (pl), .int .i64 (ph)], .int .i64 (k)] w fun e w' => e = .returned (.agg #[.int .i64 (wl), .int .i64 (wh)]) ∧ Below w.heap.size w w'))
    (KG1 : Hid (∀ w : World, Calls Try.prog 42 #[.agg #[.int .i64 (pl), .int .i64 (ph)], .int .i64 (x)] w fun e w' => e = .returned (.bool u) ∧ Below w.heap.size w w'))
    (KG2 : Hid (∀ w : World, Calls Try.prog 43 #[.agg #[.int .i64 (pl), .int .i64 (ph)], .int .i64 (x)] w fun e w' => e = .returned (.bool u) ∧ Below w.heap.size w w'))
    (KI1 : Hid (∀ w : World, Calls Try.prog 44 #[.agg #[.int .i64 (pl), .int .i64 (ph)], .agg #[.int .i64 (ql), .int .i64 (qh)]] w fun e w' => e = .returned (.bool v) ∧ Below w.heap.size w w'))
    (KI2 : Hid (∀ w : World, Calls Try.prog 45 #[.agg #[.int .i64 (pl), .int .i64 (ph)], .agg #[.int .i64 (ql), .int .i64 (qh)]] w fun e w' => e = .returned (.bool v) ∧ Below w.heap.size w w'))
    (KJ1 : Hid (∀ w : World, Calls Try.prog 46 #[.agg #[.int .i64 (pl), .int .i64 (ph)], .int .i64 (c), .int .i64 (d)] w fun e w' => e = .returned (.agg #[.int .i64 (zl), .int .i64 (zh)]) ∧ Below w.heap.size w w'))
    (KJ2 : Hid (∀ w : World, Calls Try.prog 47 #[.agg #[.int .i64 (pl), .int .i64 (ph)], .int .i64 (c), .int .i64 (d)] w fun e w' => e = .returned (.agg #[.int .i64 (zl), .int .i64 (zh)]) ∧ Below w.heap.size w w')) (w : World) :
    Calls Try.prog 8 #[.int .i64 a, .int .i64 b, .int .i64 c, .int .i64 d, .int .i64 k, .int .i64 x] w fun e w' => e = .returned (.bool true) ∧ Below w.heap.size w w' := by
  have t0 : Below w.heap.size w w := Below.refl _ _
  go_enter Try.func8, Try.ntmps8
  go_wp2_with fail
  refine (first2 _).mono ?_; rintro e w1 ⟨rfl, hb1⟩
  have t1 : Below w.heap.size w w1 := by first | exact below_step t0 hb1 | exact below_stepA t0 hb1
  clear hb1 t0
  go_wp2_with fail
  refine (KO1.out _).mono ?_; rintro e w2 ⟨rfl, hb2⟩
  have t2 : Below w.heap.size w w2 := by first | exact below_step t1 hb2 | exact below_stepA t1 hb2
  clear hb2 t1
  go_wp2_with fail
  refine (KO2.out _).mono ?_; rintro e w3 ⟨rfl, hb3⟩
  have p_3 : SpAt w3 w2.heap.size (pl) (ph) := (SpAt.new _ _ _ _).keep hb3
  have t3 : Below w.heap.size w w3 := by first | exact below_step t2 hb3 | exact below_stepA t2 hb3
  clear hb3 t2
  have pa := p_3.1; have pb := p_3.2.1; have pc := p_3.2.2
  go_wp2_with fail
  refine (KM1.out _).mono ?_; rintro e w4 ⟨rfl, hb4⟩
  have p_4 : SpAt w4 w2.heap.size (pl) (ph) := by first | exact p_3.keep hb4 | exact (p_3.alloc _).keep hb4
  clear pa pb pc p_3
  have q_4 : SpAt w4 w3.heap.size (ql) (qh) := (SpAt.new _ _ _ _).keep hb4
  have t4 : Below w.heap.size w w4 := by first | exact below_step t3 hb4 | exact below_stepA t3 hb4
  clear hb4 t3
  have pa := p_4.1; have pb := p_4.2.1; have pc := p_4.2.2
  have qa := q_4.1; have qb := q_4.2.1; have qc := q_4.2.2
  go_wp2_with fail
  refine (KM2.out _).mono ?_; rintro e w5 ⟨rfl, hb5⟩
  have p_5 : SpAt w5 w2.heap.size (pl) (ph) := by first | exact p_4.keep hb5 | exact (p_4.alloc _).keep hb5
  clear pa pb pc p_4
  have q_5 : SpAt w5 w3.heap.size (ql) (qh) := by first | exact q_4.keep hb5 | exact (q_4.alloc _).keep hb5
  clear qa qb qc q_4
  have m_5 : SpAt w5 w4.heap.size (ml) (mh) := (SpAt.new _ _ _ _).keep hb5
  have t5 : Below w.heap.size w w5 := by first | exact below_step t4 hb5 | exact below_stepA t4 hb5
  clear hb5 t4
  have pa := p_5.1; have pb := p_5.2.1; have pc := p_5.2.2
  have qa := q_5.1; have qb := q_5.2.1; have qc := q_5.2.2
  have ma := m_5.1; have mb := m_5.2.1; have mc := m_5.2.2
  go_wp2_with fail
  have pA := (p_5.alloc (.cells #[.int .i64 (ml), .int .i64 (mh)] 31))
  have qA := (q_5.alloc (.cells #[.int .i64 (ml), .int .i64 (mh)] 31))
  have mA := (m_5.alloc (.cells #[.int .i64 (ml), .int .i64 (mh)] 31))
  have nA := SpAt.new w5 (ml) (mh) 31
  have tA : Below w.heap.size w (w5.alloc (.cells #[.int .i64 (ml), .int .i64 (mh)] 31)) := t5.alloc t5.size _
  clear pa pb pc p_5
  have pa := fun d => reach_cell pA.1 pA.2.2 d; have pb := fun d => reach_cell pA.2.1 pA.2.2 d; clear pA
  clear qa qb qc q_5
  have qa := fun d => reach_cell qA.1 qA.2.2 d; have qb := fun d => reach_cell qA.2.1 qA.2.2 d; clear qA
  clear ma mb mc m_5
  have ma := fun d => reach_cell mA.1 mA.2.2 d; have mb := fun d => reach_cell mA.2.1 mA.2.2 d; clear mA
  have na := fun d => reach_cell nA.1 nA.2.2 d; have nb := fun d => reach_cell nA.2.1 nA.2.2 d; clear nA
  clear t5
  have hB : (w5.alloc (.cells #[.int .i64 (ml), .int .i64 (mh)] 31)).heap.size ≤ (w5.alloc (.cells #[.int .i64 (ml), .int .i64 (mh)] 31)).heap.size := Nat.le_refl _
  have tB : ∀ d, Below w.heap.size w (reach (w5.alloc (.cells #[.int .i64 (ml), .int .i64 (mh)] 31)).heap.size (w5.alloc (.cells #[.int .i64 (ml), .int .i64 (mh)] 31)) d) := fun d => tA.trans ((reach_below _ _ d).mono tA.size)
  have TB := Lib.hid tB; clear tB tA
  generalize (w5.alloc (.cells #[.int .i64 (ml), .int .i64 (mh)] 31)) = W at *
  try simp only [List.append]
  refine wp_region_light W.heap.size (by kernel_rfl) (by kernel_rfl) (by kernel_rfl) ?_
  repeat (go_big_quiet_step ((first | (go_at_call 28; with_reducible exact reach_call hB (KS.out _ _ _)) | (go_at_call 29; with_reducible exact reach_call hB (KOf.out _)) | (go_at_call 30; with_reducible exact reach_call hB (KA1.out _)) | (go_at_call 31; with_reducible exact reach_call hB (KA2.out _)) | (go_at_call 32; with_reducible exact reach_call hB (KB1.out _)) | (go_at_call 33; with_reducible exact reach_call hB (KB2.out _)) | (go_at_call 34; with_reducible exact reach_call hB (KC1.out _)) | (go_at_call 35; with_reducible exact reach_call hB (KC2.out _)) | (go_at_call 36; with_reducible exact reach_call hB (KD1.out _)) | (go_at_call 37; with_reducible exact reach_call hB (KD2.out _)) | (go_at_call 38; with_reducible exact reach_call hB (KE1.out _)) | (go_at_call 39; with_reducible exact reach_call hB (KE2.out _)) | (go_at_call 40; with_reducible exact reach_call hB (KF1.out _)) | (go_at_call 41; with_reducible exact reach_call hB (KF2.out _)) | (go_at_call 42; with_reducible exact reach_call hB (KG1.out _)) | (go_at_call 43; with_reducible exact reach_call hB (KG2.out _)) | (go_at_call 44; with_reducible exact reach_call hB (KI1.out _)) | (go_at_call 45; with_reducible exact reach_call hB (KI2.out _)) | (go_at_call 46; with_reducible exact reach_call hB (KJ1.out _)) | (go_at_call 47; with_reducible exact reach_call hB (KJ2.out _)))))
  all_goals (refine wpQuiet_nil ?_)
  all_goals (rintro w' ⟨d, rfl⟩)
  all_goals go_wp2
  all_goals go_ret
  exact ⟨rfl, TB.out d⟩
end Go.Proofs.Ytfbcceafgmamjaa
