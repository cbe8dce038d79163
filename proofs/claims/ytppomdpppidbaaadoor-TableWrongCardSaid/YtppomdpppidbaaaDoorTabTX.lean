/- Whether any points may be a table; what stands at any place, where any height may be. Conditions: none. -/
import Derived.Test.YtppomdpppidbaaaDoorTabZ
import Derived.Test.YtppomdpppidbaaaDoorMade
namespace Go.Proofs.YtppomdpppidbaaaDoor
open Go.RowKit
set_option linter.unusedVariables false
theorem CameI.belowS {k : IntKind} {w wr : World} {a : Option Addr} {len cap : Nat} {zs : List Int} (h : CameI k w a len cap zs) (hb : Below w.heap.size w wr) : CameI k wr a len cap zs := by
  rcases h with h | ⟨x, h1, h2, h3, h4, h5, h6⟩
  · exact .inl h
  · exact .inr ⟨x, h1, h2, h3, h4, fun i hi => below_cell hb (h5 i hi), h6⟩
theorem add_succ (x : Addr) (k : Nat) : x.add (k + 1) = ⟨(x.add k).block, (x.add k).off + 1, none⟩ := by
  unfold Addr.add
  by_cases h : k = 0
  · subst h; simp
  · simp [h]; omega
theorem ptsO_of_came {w : World} {a : Option Addr} {len cap : Nat} {z : Nat → List Value} (h : CameS [.int .i64, .int .i64] w a len cap z) : PtsO w a len (fun i => intOf ((z i).getD 0 undef)) (fun i => intOf ((z i).getD 1 undef)) := fun i hi => by
  obtain ⟨x, hx, ho, hc⟩ := h.at i hi
  obtain ⟨c0, r0, e0, ⟨a0, rfl, _⟩, o1⟩ := oks_cons ho
  obtain ⟨c1, r1, e1, ⟨a1, rfl, _⟩, o2⟩ := oks_cons o1
  have h0 := hc 0 (.int .i64 a0) (by rw [e0]; rfl)
  have h1 := hc 1 (.int .i64 a1) (by rw [e0, e1]; rfl)
  simp only [List.length_cons, List.length_nil, Nat.add_zero, Nat.zero_add, Nat.reduceAdd] at h0 h1
  rw [add_succ] at h1
  refine ⟨x, hx, ?_, ?_⟩
  · rw [h0]; show some (Value.int .i64 a0) = some (.int .i64 (intOf ((z i).getD 0 undef))); rw [e0]; rfl
  · rw [h1]; show some (Value.int .i64 a1) = some (.int .i64 (intOf ((z i).getD 1 undef))); rw [e0, e1]; rfl
theorem CameS.len_le {ls : List Leaf} {w : World} {a : Option Addr} {len cap : Nat} {z : Nat → List Value} (h : CameS ls w a len cap z) : len ≤ maxLen := by
  rcases h with ⟨_, rfl, _⟩ | ⟨x, _, h1, h2, _⟩ <;> omega
/-- The table that made makes, however long. -/
theorem ptsO_of_owns {w : World} {base n vc : Nat} {va : Option Addr} {t : TypeId} {zs : List Int} {f : Int} (h : w.ownsRow base t 2 (.slice va n vc) n (ptsL zs f n)) : PtsO w va n (mkX zs f) (mkY zs f) := by
  obtain ⟨hl, ⟨h0, hn⟩ | ⟨g', cap', cur, hv, hr⟩⟩ := id h
  · subst hn
    exact fun i hi => by omega
  · cases hv
    exact PtsO.of (pts_of_owns h)
theorem sameV {E : Nat → Addr} {w : World} (h : Ers E w) {n : Nat} {x y : Nat → Int} {v : Value} {c c' k k' : Int} {p p' : Bool} (he : ErrIs E w v c p k) (hv : Verd n x y c p k) (gv : Verd n x y c' p' k') :
    Calls Tryd.prog 12 #[v, .agg #[.int .i64 c', .bool p', .int .i64 k']] w fun e w' => e = .returned (.bool true) ∧ Below w.heap.size w w' := by
  obtain ⟨rfl, rfl, rfl⟩ := hv.same gv
  exact sameC h he
set_option maxRecDepth 20000 in
set_option maxHeartbeats 8000000 in
theorem walkTableSays (a0 : Option Addr) (len0 cap0 : Nat) (z0 : Nat → List Value) (a1 : Option Addr) (len1 cap1 : Nat) (z1 : List Int) (a2 : Int) (a3 : Int) (a4 : Int) (w : World) (w0 : CameS [.int .i64, .int .i64] w a0 len0 cap0 z0) (w1 : CameI .i64 w a1 len1 cap1 z1) (w2 : (Lit.int .i64 a2).wf = true) (w3 : (Lit.int .i64 a3).wf = true) (w4 : (Lit.int .i64 a4).wf = true) (hE : ∃ E, Ers E w) :
    Calls Tryd.prog 4 #[.slice a0 len0 cap0, .slice a1 len1 cap1, .int .i64 a2, .int .i64 a3, .int .i64 a4] w fun e w' => e = .returned (.bool true) ∧ Below w.heap.size w w' := by
  obtain ⟨E, hE⟩ := hE
  have b2 := bounds_i64 w2
  have HE := Lib.hid hE
  have R0 := Lib.hid (ptsO_of_came w0)
  have H1 := Lib.hid w1
  clear w0 w1 w2 w3 w4 hE
  generalize (fun i => intOf ((z0 i).getD 0 undef)) = rx at *
  generalize (fun i => intOf ((z0 i).getD 1 undef)) = ry at *
  go_enter Tryd.func4, Tryd.ntmps4
  go_wp2_with fail
  refine (tabFirst _).mono ?_
  rintro e wa ⟨rfl, hba⟩
  have HA := Lib.hid hba
  clear hba
  by_cases l1 : 70 < len0
  · have g1 : decide ((70 : Int) < (len0 : Int)) = true := decide_eq_true (by omega)
    go_wp2_with fail
    go_returns
    exact ⟨rfl, HA.out⟩
  have g1 : decide ((70 : Int) < (len0 : Int)) = false := decide_eq_false (by omega)
  by_cases l2 : 130 < len1
  · have g2 : decide ((130 : Int) < (len1 : Int)) = true := decide_eq_true (by omega)
    go_wp2_with fail
    go_returns
    exact ⟨rfl, HA.out⟩
  have g2 : decide ((130 : Int) < (len1 : Int)) = false := decide_eq_false (by omega)
  go_wp2_with fail
  refine (madeC a1 len1 cap1 z1 a2 b2 _ (H1.out.belowS HA.out)).mono ?_
  rintro e w0 ⟨va, n, vc, rfl, hn, hown, hb⟩
  have hn2 : n < 4611686018427387904 := by omega
  have hr2 : len0 < 4611686018427387904 := by omega
  have T0 := Lib.hid (ptsO_of_owns hown)
  have B0 := Lib.hid (HA.out.trans (hb.mono HA.out.size))
  clear hown hb HA l1 l2 g1 g2 H1 hn
  generalize mkX z1 a2 = x at *
  generalize mkY z1 a2 = y at *
  go_wp2_with fail
  refine (checkG a0 len0 cap0 hr2 rx ry _ (HE.out.below B0.out) (R0.out.below B0.out)).mono ?_
  rintro e w1 ⟨v1, c1, p1, k1, rfl, e1, q1, hb⟩
  have B1 := Lib.hid (B0.out.trans (hb.mono B0.out.size))
  have E1 := Lib.hid e1
  have Q1 := Lib.hid q1
  have T1 := Lib.hid (T0.out.below hb)
  clear hb e1 q1 B0 T0
  go_wp2_with fail
  refine (refCheckG a0 len0 cap0 hr2 rx ry _ (R0.out.below B1.out)).mono ?_
  rintro e w2 ⟨c2, p2, k2, rfl, q2, hb⟩
  have B2 := Lib.hid (B1.out.trans (hb.mono B1.out.size))
  have E2 := Lib.hid (E1.out.below hb)
  have Q2 := Lib.hid q2
  have T2 := Lib.hid (T1.out.below hb)
  clear hb q2 B1 T1 E1
  go_wp2_with fail
  refine (sameV (HE.out.below B2.out) E2.out Q1.out Q2.out).mono ?_
  rintro e w3 ⟨rfl, hb⟩
  have B3 := Lib.hid (B2.out.trans (hb.mono B2.out.size))
  have T3 := Lib.hid (T2.out.below hb)
  clear hb B2 T2 E2 Q1 Q2
  go_wp2_with fail
  refine (checkG va n vc hn2 x y _ (HE.out.below B3.out) T3.out).mono ?_
  rintro e w4 ⟨v4, c4, p4, k4, rfl, e4, q4, hb⟩
  have B4 := Lib.hid (B3.out.trans (hb.mono B3.out.size))
  have E4 := Lib.hid e4
  have Q4 := Lib.hid q4
  have T4 := Lib.hid (T3.out.below hb)
  clear hb e4 q4 B3 T3
  go_wp2_with fail
  refine (refCheckG va n vc hn2 x y _ T4.out).mono ?_
  rintro e w5 ⟨c5, p5, k5, rfl, q5, hb⟩
  have B5 := Lib.hid (B4.out.trans (hb.mono B4.out.size))
  have E5 := Lib.hid (E4.out.below hb)
  have Q5 := Lib.hid q5
  have T5 := Lib.hid (T4.out.below hb)
  clear hb q5 B4 T4 E4
  go_wp2_with fail
  refine (sameV (HE.out.below B5.out) E5.out Q4.out Q5.out).mono ?_
  rintro e w6 ⟨rfl, hb⟩
  have B6 := Lib.hid (B5.out.trans (hb.mono B5.out.size))
  have T6 := Lib.hid (T5.out.below hb)
  clear hb B5 T5 E5 Q4 Q5
  go_wp2_with fail
  refine (tabAtG va n vc hn2 x y a3 _ (HE.out.below B6.out) T6.out).mono ?_
  rintro e w7 ⟨rfl, hb⟩
  have B7 := Lib.hid (B6.out.trans (hb.mono B6.out.size))
  have T7 := Lib.hid (T6.out.below hb)
  clear hb B6 T6
  go_wp2_with fail
  refine (refAtG va n vc hn2 x y a3 _ (HE.out.below B7.out) T7.out).mono ?_
  rintro e w8 ⟨rfl, hb⟩
  have B8 := Lib.hid (B7.out.trans (hb.mono B7.out.size))
  have T8 := Lib.hid (T7.out.below hb)
  clear hb B7 T7
  go_wp2_with fail
  refine (sameSpan (gLo n x y a3) (gHi n x y a3) (gLo n x y a3) (gHi n x y a3) _).mono ?_
  rintro e w9 ⟨rfl, hb⟩
  rw [sameB_self]
  have B9 := Lib.hid (B8.out.trans (hb.mono B8.out.size))
  have T9 := Lib.hid (T8.out.below hb)
  clear hb B8 T8
  go_wp2_with fail
  refine (backG va n vc hn2 x y a4 _ (HE.out.below B9.out) T9.out).mono ?_
  rintro e w10 ⟨rfl, hb⟩
  have B10 := Lib.hid (B9.out.trans (hb.mono B9.out.size))
  have T10 := Lib.hid (T9.out.below hb)
  clear hb B9 T9
  go_wp2_with fail
  refine (refBackG va n vc hn2 x y a4 _ (HE.out.below B10.out) T10.out).mono ?_
  rintro e w11 ⟨rfl, hb⟩
  have B11 := Lib.hid (B10.out.trans (hb.mono B10.out.size))
  have T11 := Lib.hid (T10.out.below hb)
  clear hb B10 T10
  go_wp2_with fail
  refine (sameSpan (hLo n x y a4) (hHi n x y a4) (hLo n x y a4) (hHi n x y a4) _).mono ?_
  rintro e w12 ⟨rfl, hb⟩
  rw [sameB_self]
  have B12 := Lib.hid (B11.out.trans (hb.mono B11.out.size))
  have T12 := Lib.hid (T11.out.below hb)
  clear hb B11 T11
  go_wp2_with fail
  refine (tabAtG a0 len0 cap0 hr2 rx ry a3 _ (HE.out.below B12.out) (R0.out.below B12.out)).mono ?_
  rintro e w13 ⟨rfl, hb⟩
  have B13 := Lib.hid (B12.out.trans (hb.mono B12.out.size))
  have T13 := Lib.hid (T12.out.below hb)
  clear hb B12 T12
  go_wp2_with fail
  refine (refAtG a0 len0 cap0 hr2 rx ry a3 _ (HE.out.below B13.out) (R0.out.below B13.out)).mono ?_
  rintro e w14 ⟨rfl, hb⟩
  have B14 := Lib.hid (B13.out.trans (hb.mono B13.out.size))
  have T14 := Lib.hid (T13.out.below hb)
  clear hb B13 T13
  go_wp2_with fail
  refine (sameSpan (gLo len0 rx ry a3) (gHi len0 rx ry a3) (gLo len0 rx ry a3) (gHi len0 rx ry a3) _).mono ?_
  rintro e w15 ⟨rfl, hb⟩
  rw [sameB_self]
  have B15 := Lib.hid (B14.out.trans (hb.mono B14.out.size))
  have T15 := Lib.hid (T14.out.below hb)
  clear hb B14 T14
  go_wp2_with fail
  refine (backG a0 len0 cap0 hr2 rx ry a4 _ (HE.out.below B15.out) (R0.out.below B15.out)).mono ?_
  rintro e w16 ⟨rfl, hb⟩
  have B16 := Lib.hid (B15.out.trans (hb.mono B15.out.size))
  have T16 := Lib.hid (T15.out.below hb)
  clear hb B15 T15
  go_wp2_with fail
  refine (refBackG a0 len0 cap0 hr2 rx ry a4 _ (HE.out.below B16.out) (R0.out.below B16.out)).mono ?_
  rintro e w17 ⟨rfl, hb⟩
  have B17 := Lib.hid (B16.out.trans (hb.mono B16.out.size))
  have T17 := Lib.hid (T16.out.below hb)
  clear hb B16 T16
  go_wp2_with fail
  refine (sameSpan (hLo len0 rx ry a4) (hHi len0 rx ry a4) (hLo len0 rx ry a4) (hHi len0 rx ry a4) _).mono ?_
  rintro e w18 ⟨rfl, hb⟩
  rw [sameB_self]
  have B18 := Lib.hid (B17.out.trans (hb.mono B17.out.size))
  have T18 := Lib.hid (T17.out.below hb)
  clear hb B17 T17
  go_wp2_with fail
  go_returns
  exact ⟨rfl, B18.out⟩
end Go.Proofs.YtppomdpppidbaaaDoor
