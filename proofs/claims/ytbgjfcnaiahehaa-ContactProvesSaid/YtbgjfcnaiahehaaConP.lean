/- ContactProves holds: each call returns true. Conditions: the arguments are numbers of 64 bits and slices of numbers and bools. -/
import Derived.Test.YtbgjfcnaiahehaaConH
namespace Go.Proofs.Ytbgjfcnaiahehaa
open Go.RowKit
set_option linter.unusedVariables false
/-- A contactor that follows in time: told T, standing S, so many cycles left. -/
def Pr (D L : Int) (S T : Bool) (l : Nat) (k : CK) : Prop :=
  k.D = D ∧ k.L = L ∧ -2 ≤ k.s ∧ k.s ≤ 1000 ∧ k.g = 0 ∧ k.p = false ∧ k.q = false ∧ (l : Int) ≤ D ∧ (S = T ∨ ((k.c = T → (l : Int) + 1 ≤ D - k.s - 1) ∧ (k.c ≠ T → (l : Int) + 1 ≤ D)))
def sinceOf (k : CK) (T : Bool) : Int := if T == k.c then min (k.s + 1) 1000 else 0
theorem since_in (k : CK) (T : Bool) (h1 : -2 ≤ k.s) (h2 : k.s ≤ 1000) : -2 ≤ sinceOf k T ∧ sinceOf k T ≤ 1000 := by
  unfold sinceOf; split <;> omega
theorem Pr.key {D L : Int} {S T : Bool} {l : Nat} {k : CK} (h : Pr D L S T l k) (hD : D ≤ 100) : S = T ∨ (l : Int) + 1 ≤ D - sinceOf k T := by
  obtain ⟨_, _, h3, h4, _, _, _, _, h9⟩ := h
  rcases h9 with h9 | ⟨h9, h10⟩
  · exact Or.inl h9
  · right
    unfold sinceOf
    by_cases hc : k.c = T
    · have := h9 hc
      rw [if_pos (by simp [hc])]; omega
    · have := h10 hc
      rw [if_neg (by simpa using fun e => hc e.symm)]; omega
theorem Pr.step {D L : Int} {S T : Bool} {l : Nat} {k : CK} (h : Pr D L S T l k) (hD : D ≤ 100) (f : Bool) (V : Int) (hV : (V == 1) = S) :
    k.step T V f = ⟨D, L, T, sinceOf k T, 0, V, f, false, false⟩ := by
  have hk := h.key hD
  obtain ⟨h1, h2, h3, h4, h5, h6, h7, _, _⟩ := h
  have ht : (k.tell T).look V f = ⟨D, L, T, sinceOf k T, 0, V, f, false, false⟩ := by
    obtain ⟨D', L', c, s, g, v0, f0, p, q⟩ := k
    simp only [] at h1 h2 h5 h6 h7
    subst h1 h2 h5 h6 h7
    unfold CK.tell CK.look sinceOf
    by_cases hc : T = c
    · subst hc; simp
    · have : (T == c) = false := by simpa using hc
      simp [this]
  unfold CK.step
  rw [ht]
  cases f
  · rfl
  · have hc : ((V == 1) == T || decide (sinceOf k T < D)) = true := by
      rcases hk with hk | hk
      · rw [hV, hk]; simp
      · rw [decide_eq_true (by omega)]; simp
    rw [judge_fresh1 _ _ rfl (by show ((true && V == 1) == T || decide (sinceOf k T < D)) = true; simpa using hc)]
/-- What comes behind a cycle in which nothing else is told. -/
theorem Pr.stay {D L : Int} {S T : Bool} {l : Nat} {k : CK} (h : Pr D L S T (l + 1) k) (hD : D ≤ 100) (f : Bool) (V : Int) : Pr D L S T l ⟨D, L, T, sinceOf k T, 0, V, f, false, false⟩ := by
  have hk := h.key hD
  obtain ⟨h1, h2, h3, h4, h5, h6, h7, h8, _⟩ := h
  obtain ⟨s1, s2⟩ := since_in k T h3 h4
  refine ⟨rfl, rfl, s1, s2, rfl, rfl, rfl, by omega, ?_⟩
  rcases hk with hk | hk
  · exact Or.inl hk
  · exact Or.inr ⟨fun _ => (by show (l : Int) + 1 ≤ D - sinceOf k T - 1; omega), fun hn => absurd rfl hn⟩
theorem Pr.follow {D L : Int} {S T : Bool} {l : Nat} {k : CK} (h : Pr D L S T l k) (hD : 0 ≤ D) (f : Bool) (V : Int) (X : Bool) : Pr D L X X 0 ⟨D, L, T, sinceOf k T, 0, V, f, false, false⟩ := by
  obtain ⟨h1, h2, h3, h4, h5, h6, h7, h8, _⟩ := h
  obtain ⟨s1, s2⟩ := since_in k T h3 h4
  exact ⟨rfl, rfl, s1, s2, rfl, rfl, rfl, by omega, Or.inl rfl⟩
theorem Pr.turn {D L : Int} {S T : Bool} {l : Nat} {k : CK} (h : Pr D L S T l k) (f : Bool) (V : Int) (X : Bool) (hX : T ≠ X) (r : Nat) (hr : (r : Int) + 1 ≤ D) : Pr D L S X r ⟨D, L, T, sinceOf k T, 0, V, f, false, false⟩ := by
  obtain ⟨h1, h2, h3, h4, h5, h6, h7, h8, _⟩ := h
  obtain ⟨s1, s2⟩ := since_in k T h3 h4
  exact ⟨rfl, rfl, s1, s2, rfl, rfl, rfl, by omega, Or.inr ⟨fun hn => absurd hn hX, fun _ => hr⟩⟩
set_option maxRecDepth 100000 in
set_option maxHeartbeats 40000000 in
theorem walkContactProves (a0 a1 : Int) (a2 : Option Addr) (len2 cap2 : Nat) (z2 : Nat → Bool) (a3 : Option Addr) (len3 cap3 : Nat) (z3 : List Int) (a4 : Option Addr) (len4 cap4 : Nat) (z4 : Nat → Bool) (w : World)
    (_w0 : (Lit.int .i64 a0).wf = true) (_w1 : (Lit.int .i64 a1).wf = true) (w2 : CameB w a2 len2 cap2 z2) (w3 : CameI .i64 w a3 len3 cap3 z3) (w4 : CameB w a4 len4 cap4 z4) :
    Calls Try.prog 7 #[.int .i64 a0, .int .i64 a1, .slice a2 len2 cap2, .slice a3 len3 cap3, .slice a4 len4 cap4] w fun e w' => e = .returned (.bool true) ∧ Below w.heap.size w w' := by
  have C2 := Lib.hid fun i hi => w2.at i hi
  have C3 := Lib.hid fun i hi => w3.at i hi
  have C4 := Lib.hid fun i hi => w4.at i hi
  clear w2 w3 w4 _w0 _w1
  by_cases h1 : 120 < len2
  · go_enter Try.func7, Try.ntmps7
    go_wp2_with fail
    refine (first16 _).mono ?_
    rintro e w0 ⟨rfl, hb0⟩
    have T0 := Lib.hid hb0
    clear hb0
    go_wp2_with fail
    go_ret
    exact ⟨rfl, T0.out⟩
  by_cases h2 : len3 < len2
  · go_enter Try.func7, Try.ntmps7
    go_wp2_with fail
    refine (first16 _).mono ?_
    rintro e w0 ⟨rfl, hb0⟩
    have T0 := Lib.hid hb0
    clear hb0
    go_wp2_with fail
    go_ret
    exact ⟨rfl, T0.out⟩
  by_cases h3 : len4 < len2
  · go_enter Try.func7, Try.ntmps7
    go_wp2_with fail
    refine (first16 _).mono ?_
    rintro e w0 ⟨rfl, hb0⟩
    have T0 := Lib.hid hb0
    clear hb0
    go_wp2_with fail
    go_ret
    exact ⟨rfl, T0.out⟩
  have hn1 := Int.emod_nonneg a0 (show (9 : Int) ≠ 0 by omega)
  have hn2 := Int.emod_lt_of_pos a0 (show (0 : Int) < 9 by omega)
  have N0 := Lib.hid fun (w : World) => numberB a0 9 (by omega) (by omega) w
  have hm1 := Int.emod_nonneg a1 (show (5 : Int) ≠ 0 by omega)
  have hm2 := Int.emod_lt_of_pos a1 (show (0 : Int) < 5 by omega)
  have N1 := Lib.hid fun (w : World) => numberB a1 5 (by omega) (by omega) w
  generalize a0 % 9 = d0 at *
  generalize a1 % 5 = b0 at *
  obtain ⟨d, rfl⟩ := Int.eq_ofNat_of_zero_le hn1
  obtain ⟨b, rfl⟩ := Int.eq_ofNat_of_zero_le hm1
  have hd : d < 9 := by omega
  have hb5 : b < 5 := by omega
  clear hn1 hn2 hm1 hm2
  go_enter Try.func7, Try.ntmps7
  go_wp2_with fail
  refine (first16 _).mono ?_
  rintro e w0 ⟨rfl, hb0⟩
  have T0 := Lib.hid hb0
  clear hb0
  go_wp2_with fail
  refine (N0.out _).mono ?_; rintro e w' ⟨rfl, rfl⟩; go_wp2_with fail
  refine (N1.out _).mono ?_; rintro e w' ⟨rfl, rfl⟩; go_wp2_with fail
  refine (newC ((d : Int) + 1) ((b : Int) + 1) _).mono ?_
  rintro e w1 ⟨rfl, H1, hb⟩
  rw [cutc_in _ (by omega) (by omega), cutc_in _ (by omega) (by omega)] at H1
  have F1 := Lib.hid H1
  have T1 := Lib.hid (T0.out.trans (hb.mono T0.out.size))
  have SB := Lib.hid T0.out.size
  clear H1 hb T0
  generalize w0.heap.size = B at *
  have P1 : Hid (Pr ((d : Int) + 1) ((b : Int) + 1) false false 0 ⟨(d : Int) + 1, (b : Int) + 1, false, -2, 0, 0, false, false, false⟩) := Lib.hid ⟨rfl, rfl, show (-2 : Int) ≤ -2 by omega, show (-2 : Int) ≤ 1000 by omega, rfl, rfl, rfl, by omega, Or.inl rfl⟩
  go_wp2_with fail
  go_loopw [13, 14, 15, 16] (fun s t l v wr => ∃ i l' : Nat, ∃ S T : Bool, ∃ k : CK, i ≤ len2 ∧ v = .int .i64 i ∧ s = .bool S ∧ t = .bool T ∧ l = .int .i64 l' ∧ Pr ((d : Int) + 1) ((b : Int) + 1) S T l' k ∧ Ct wr B k ∧ Below w.heap.size w wr) (fun _ _ _ v _ => len2 - (intOf v).toNat)
  case atStart => exact ⟨0, 0, false, false, _, by omega, rfl, rfl, rfl, rfl, P1.out, F1.out, T1.out⟩
  case round =>
    obtain ⟨i, l, S, T, k, hi, rfl, rfl, rfl, rfl, hp, hf, hb⟩ := hrel
    clear F1 T1 P1
    have F := Lib.hid hf
    have TT := Lib.hid hb
    have P := Lib.hid hp
    have hl9 : (l : Int) ≤ (d : Int) + 1 := hp.2.2.2.2.2.2.2.1
    clear hf hb hp
    by_cases hlt : i < len2
    · obtain ⟨x2, rfl, c2⟩ := C2.out i hlt
      obtain ⟨x3, rfl, c3⟩ := C3.out i (by omega)
      obtain ⟨x4, rfl, c4⟩ := C4.out i (by omega)
      have NE := Lib.hid (Nat.ne_of_lt F.out.lt)
      have c4' := below_cell TT.out c4
      generalize z3.getD i 0 = y3 at *
      have hr1 := Int.emod_nonneg y3 (show (d : Int) + 1 + 1 ≠ 0 by omega)
      have hr2 := Int.emod_lt_of_pos y3 (show (0 : Int) < (d : Int) + 1 + 1 by omega)
      have N3 := Lib.hid fun (w : World) => numberB y3 ((d : Int) + 1 + 1) (by omega) (by omega) w
      generalize y3 % ((d : Int) + 1 + 1) = r0 at *
      obtain ⟨r, rfl⟩ := Int.eq_ofNat_of_zero_le hr1
      have hr : (r : Int) ≤ (d : Int) + 1 := by omega
      clear hr1 hr2
      have X2 := Lib.hid c2
      have X3 := Lib.hid c3
      clear c2 c3 c4
      cases hx : z2 i <;> cases hy : z4 i <;> cases S <;> cases T
      · rw [hx] at X2
        rw [hy] at c4'
        clear hx hy
        by_cases hz : l = 0
        · subst hz
          cases ho : CK.op ⟨(d : Int) + 1, (b : Int) + 1, false, sinceOf k false, 0, 0, true, false, false⟩
          · have F2 := Lib.hid (F.out.alloc (.cells #[.int .i64 0, .bool true] 27))
            have T2 := Lib.hid (TT.out.alloc TT.out.size (.cells #[.int .i64 0, .bool true] 27))
            have M := Lib.hid (Sm.new wr 0 true)
            have KE := Lib.hid (P.out.step (by omega) true 0 rfl)
            have KS := Lib.hid (stepC B k false 0 true P.out.2.2.1 P.out.2.2.2.1 (by have := P.out.2.2.2.2.1; omega) (by have := P.out.2.2.2.2.1; omega) _ F2.out)
            rw [KE.out] at KS
            have m0 := M.out.cells.1
            have m1 := M.out.cells.2.1
            go_wp2_with fail
            refine KS.out.mono ?_
            rintro e w5 ⟨rfl, H5, hb⟩
            have F5 := Lib.hid H5
            have T5 := Lib.hid (T2.out.trans (hb.below SB.out T2.out.size))
            clear H5 hb m0 m1
            go_wp2_with fail
            refine (openC B _ _ F5.out).mono ?_
            rintro e w6 ⟨he, hb⟩
            rw [ho] at he
            subst he
            have F6 := Lib.hid (F5.out.below hb)
            have T6 := Lib.hid (T5.out.trans (hb.mono T5.out.size))
            clear hb F5 T5
            go_wp2_with fail
            refine (jamC B _ _ F6.out).mono ?_
            rintro e w7 ⟨he, hb⟩
            subst he
            have F7 := Lib.hid (F6.out.below hb)
            have T7 := Lib.hid (T6.out.trans (hb.mono T6.out.size))
            clear hb F6 T6
            have d2 := below_cell T7.out X2.out
            have d3 := below_cell T7.out X3.out
            go_wp2_with fail
            go_roundw
            case rel => exact ⟨i + 1, 0, false, false, _, by omega, by go_num, rfl, rfl, rfl, P.out.follow (by omega) true 0 false, F7.out, T7.out⟩
            case measure => simp [intOf]; omega
          · have F2 := Lib.hid (F.out.alloc (.cells #[.int .i64 0, .bool true] 27))
            have T2 := Lib.hid (TT.out.alloc TT.out.size (.cells #[.int .i64 0, .bool true] 27))
            have M := Lib.hid (Sm.new wr 0 true)
            have KE := Lib.hid (P.out.step (by omega) true 0 rfl)
            have KS := Lib.hid (stepC B k false 0 true P.out.2.2.1 P.out.2.2.2.1 (by have := P.out.2.2.2.2.1; omega) (by have := P.out.2.2.2.2.1; omega) _ F2.out)
            rw [KE.out] at KS
            have m0 := M.out.cells.1
            have m1 := M.out.cells.2.1
            go_wp2_with fail
            refine KS.out.mono ?_
            rintro e w5 ⟨rfl, H5, hb⟩
            have F5 := Lib.hid H5
            have T5 := Lib.hid (T2.out.trans (hb.below SB.out T2.out.size))
            clear H5 hb m0 m1
            go_wp2_with fail
            refine (openC B _ _ F5.out).mono ?_
            rintro e w6 ⟨he, hb⟩
            rw [ho] at he
            subst he
            have F6 := Lib.hid (F5.out.below hb)
            have T6 := Lib.hid (T5.out.trans (hb.mono T5.out.size))
            clear hb F5 T5
            go_wp2_with fail
            refine (jamC B _ _ F6.out).mono ?_
            rintro e w7 ⟨he, hb⟩
            subst he
            have F7 := Lib.hid (F6.out.below hb)
            have T7 := Lib.hid (T6.out.trans (hb.mono T6.out.size))
            clear hb F6 T6
            have d2 := below_cell T7.out X2.out
            have d3 := below_cell T7.out X3.out
            go_wp2_with fail
            go_roundw
            case rel => exact ⟨i + 1, 0, false, false, _, by omega, by go_num, rfl, rfl, rfl, P.out.follow (by omega) true 0 false, F7.out, T7.out⟩
            case measure => simp [intOf]; omega
        · obtain ⟨l, rfl⟩ : ∃ m, l = m + 1 := ⟨l - 1, by omega⟩
          cases ho : CK.op ⟨(d : Int) + 1, (b : Int) + 1, false, sinceOf k false, 0, 0, true, false, false⟩
          · have F2 := Lib.hid (F.out.alloc (.cells #[.int .i64 0, .bool true] 27))
            have T2 := Lib.hid (TT.out.alloc TT.out.size (.cells #[.int .i64 0, .bool true] 27))
            have M := Lib.hid (Sm.new wr 0 true)
            have KE := Lib.hid (P.out.step (by omega) true 0 rfl)
            have KS := Lib.hid (stepC B k false 0 true P.out.2.2.1 P.out.2.2.2.1 (by have := P.out.2.2.2.2.1; omega) (by have := P.out.2.2.2.2.1; omega) _ F2.out)
            rw [KE.out] at KS
            have m0 := M.out.cells.1
            have m1 := M.out.cells.2.1
            go_wp2_with fail
            refine KS.out.mono ?_
            rintro e w5 ⟨rfl, H5, hb⟩
            have F5 := Lib.hid H5
            have T5 := Lib.hid (T2.out.trans (hb.below SB.out T2.out.size))
            clear H5 hb m0 m1
            go_wp2_with fail
            refine (openC B _ _ F5.out).mono ?_
            rintro e w6 ⟨he, hb⟩
            rw [ho] at he
            subst he
            have F6 := Lib.hid (F5.out.below hb)
            have T6 := Lib.hid (T5.out.trans (hb.mono T5.out.size))
            clear hb F5 T5
            go_wp2_with fail
            refine (jamC B _ _ F6.out).mono ?_
            rintro e w7 ⟨he, hb⟩
            subst he
            have F7 := Lib.hid (F6.out.below hb)
            have T7 := Lib.hid (T6.out.trans (hb.mono T6.out.size))
            clear hb F6 T6
            have d2 := below_cell T7.out X2.out
            have d3 := below_cell T7.out X3.out
            go_wp2_with fail
            go_roundw
            case rel => exact ⟨i + 1, l, false, false, _, by omega, by go_num, rfl, rfl, by go_num, P.out.stay (by omega) true 0, F7.out, T7.out⟩
            case measure => simp [intOf]; omega
          · have F2 := Lib.hid (F.out.alloc (.cells #[.int .i64 0, .bool true] 27))
            have T2 := Lib.hid (TT.out.alloc TT.out.size (.cells #[.int .i64 0, .bool true] 27))
            have M := Lib.hid (Sm.new wr 0 true)
            have KE := Lib.hid (P.out.step (by omega) true 0 rfl)
            have KS := Lib.hid (stepC B k false 0 true P.out.2.2.1 P.out.2.2.2.1 (by have := P.out.2.2.2.2.1; omega) (by have := P.out.2.2.2.2.1; omega) _ F2.out)
            rw [KE.out] at KS
            have m0 := M.out.cells.1
            have m1 := M.out.cells.2.1
            go_wp2_with fail
            refine KS.out.mono ?_
            rintro e w5 ⟨rfl, H5, hb⟩
            have F5 := Lib.hid H5
            have T5 := Lib.hid (T2.out.trans (hb.below SB.out T2.out.size))
            clear H5 hb m0 m1
            go_wp2_with fail
            refine (openC B _ _ F5.out).mono ?_
            rintro e w6 ⟨he, hb⟩
            rw [ho] at he
            subst he
            have F6 := Lib.hid (F5.out.below hb)
            have T6 := Lib.hid (T5.out.trans (hb.mono T5.out.size))
            clear hb F5 T5
            go_wp2_with fail
            refine (jamC B _ _ F6.out).mono ?_
            rintro e w7 ⟨he, hb⟩
            subst he
            have F7 := Lib.hid (F6.out.below hb)
            have T7 := Lib.hid (T6.out.trans (hb.mono T6.out.size))
            clear hb F6 T6
            have d2 := below_cell T7.out X2.out
            have d3 := below_cell T7.out X3.out
            go_wp2_with fail
            go_roundw
            case rel => exact ⟨i + 1, l, false, false, _, by omega, by go_num, rfl, rfl, by go_num, P.out.stay (by omega) true 0, F7.out, T7.out⟩
            case measure => simp [intOf]; omega
      · rw [hx] at X2
        rw [hy] at c4'
        clear hx hy
        by_cases hz : r = 0
        · subst hz
          have F2 := Lib.hid (F.out.alloc (.cells #[.int .i64 0, .bool true] 27))
          have T2 := Lib.hid (TT.out.alloc TT.out.size (.cells #[.int .i64 0, .bool true] 27))
          have M := Lib.hid (Sm.new wr 0 true)
          have KE := Lib.hid (P.out.step (by omega) true 0 rfl)
          have KS := Lib.hid (stepC B k true 0 true P.out.2.2.1 P.out.2.2.2.1 (by have := P.out.2.2.2.2.1; omega) (by have := P.out.2.2.2.2.1; omega) _ F2.out)
          rw [KE.out] at KS
          have m0 := M.out.cells.1
          have m1 := M.out.cells.2.1
          go_wp2_with fail
          refine KS.out.mono ?_
          rintro e w5 ⟨rfl, H5, hb⟩
          have F5 := Lib.hid H5
          have T5 := Lib.hid (T2.out.trans (hb.below SB.out T2.out.size))
          clear H5 hb m0 m1
          go_wp2_with fail
          refine (openC B _ _ F5.out).mono ?_
          rintro e w6 ⟨he, hb⟩
          rw [show CK.op ⟨(d : Int) + 1, (b : Int) + 1, true, sinceOf k true, 0, 0, true, false, false⟩ = false from rfl] at he
          subst he
          have F6 := Lib.hid (F5.out.below hb)
          have T6 := Lib.hid (T5.out.trans (hb.mono T5.out.size))
          clear hb F5 T5
          go_wp2_with fail
          refine (jamC B _ _ F6.out).mono ?_
          rintro e w7 ⟨he, hb⟩
          subst he
          have F7 := Lib.hid (F6.out.below hb)
          have T7 := Lib.hid (T6.out.trans (hb.mono T6.out.size))
          clear hb F6 T6
          have d2 := below_cell T7.out X2.out
          have d3 := below_cell T7.out X3.out
          go_wp2_with fail
          refine (N3.out _).mono ?_
          rintro e w8 ⟨rfl, rfl⟩
          go_wp2_with fail
          go_roundw
          case rel => exact ⟨i + 1, 0, false, false, _, by omega, by go_num, rfl, rfl, rfl, P.out.follow (by omega) true 0 false, F7.out, T7.out⟩
          case measure => simp [intOf]; omega
        · obtain ⟨r, rfl⟩ : ∃ m, r = m + 1 := ⟨r - 1, by omega⟩
          have F2 := Lib.hid (F.out.alloc (.cells #[.int .i64 0, .bool true] 27))
          have T2 := Lib.hid (TT.out.alloc TT.out.size (.cells #[.int .i64 0, .bool true] 27))
          have M := Lib.hid (Sm.new wr 0 true)
          have KE := Lib.hid (P.out.step (by omega) true 0 rfl)
          have KS := Lib.hid (stepC B k true 0 true P.out.2.2.1 P.out.2.2.2.1 (by have := P.out.2.2.2.2.1; omega) (by have := P.out.2.2.2.2.1; omega) _ F2.out)
          rw [KE.out] at KS
          have m0 := M.out.cells.1
          have m1 := M.out.cells.2.1
          go_wp2_with fail
          refine KS.out.mono ?_
          rintro e w5 ⟨rfl, H5, hb⟩
          have F5 := Lib.hid H5
          have T5 := Lib.hid (T2.out.trans (hb.below SB.out T2.out.size))
          clear H5 hb m0 m1
          go_wp2_with fail
          refine (openC B _ _ F5.out).mono ?_
          rintro e w6 ⟨he, hb⟩
          rw [show CK.op ⟨(d : Int) + 1, (b : Int) + 1, true, sinceOf k true, 0, 0, true, false, false⟩ = false from rfl] at he
          subst he
          have F6 := Lib.hid (F5.out.below hb)
          have T6 := Lib.hid (T5.out.trans (hb.mono T5.out.size))
          clear hb F5 T5
          go_wp2_with fail
          refine (jamC B _ _ F6.out).mono ?_
          rintro e w7 ⟨he, hb⟩
          subst he
          have F7 := Lib.hid (F6.out.below hb)
          have T7 := Lib.hid (T6.out.trans (hb.mono T6.out.size))
          clear hb F6 T6
          have d2 := below_cell T7.out X2.out
          have d3 := below_cell T7.out X3.out
          go_wp2_with fail
          refine (N3.out _).mono ?_
          rintro e w8 ⟨rfl, rfl⟩
          go_wp2_with fail
          go_roundw
          case rel => exact ⟨i + 1, r, false, false, _, by omega, by go_num, rfl, rfl, by go_num, P.out.turn true 0 false (by decide) r (by omega), F7.out, T7.out⟩
          case measure => simp [intOf]; omega
      · rw [hx] at X2
        rw [hy] at c4'
        clear hx hy
        by_cases hz : l = 0
        · subst hz
          have F2 := Lib.hid (F.out.alloc (.cells #[.int .i64 1, .bool true] 27))
          have T2 := Lib.hid (TT.out.alloc TT.out.size (.cells #[.int .i64 1, .bool true] 27))
          have M := Lib.hid (Sm.new wr 1 true)
          have KE := Lib.hid (P.out.step (by omega) true 1 rfl)
          have KS := Lib.hid (stepC B k false 1 true P.out.2.2.1 P.out.2.2.2.1 (by have := P.out.2.2.2.2.1; omega) (by have := P.out.2.2.2.2.1; omega) _ F2.out)
          rw [KE.out] at KS
          have m0 := M.out.cells.1
          have m1 := M.out.cells.2.1
          go_wp2_with fail
          refine KS.out.mono ?_
          rintro e w5 ⟨rfl, H5, hb⟩
          have F5 := Lib.hid H5
          have T5 := Lib.hid (T2.out.trans (hb.below SB.out T2.out.size))
          clear H5 hb m0 m1
          go_wp2_with fail
          refine (openC B _ _ F5.out).mono ?_
          rintro e w6 ⟨he, hb⟩
          rw [show CK.op ⟨(d : Int) + 1, (b : Int) + 1, false, sinceOf k false, 0, 1, true, false, false⟩ = false from by unfold CK.op; simp] at he
          subst he
          have F6 := Lib.hid (F5.out.below hb)
          have T6 := Lib.hid (T5.out.trans (hb.mono T5.out.size))
          clear hb F5 T5
          go_wp2_with fail
          refine (jamC B _ _ F6.out).mono ?_
          rintro e w7 ⟨he, hb⟩
          subst he
          have F7 := Lib.hid (F6.out.below hb)
          have T7 := Lib.hid (T6.out.trans (hb.mono T6.out.size))
          clear hb F6 T6
          have d2 := below_cell T7.out X2.out
          have d3 := below_cell T7.out X3.out
          go_wp2_with fail
          go_roundw
          case rel => exact ⟨i + 1, 0, false, false, _, by omega, by go_num, rfl, rfl, rfl, P.out.follow (by omega) true 1 false, F7.out, T7.out⟩
          case measure => simp [intOf]; omega
        · obtain ⟨l, rfl⟩ : ∃ m, l = m + 1 := ⟨l - 1, by omega⟩
          have F2 := Lib.hid (F.out.alloc (.cells #[.int .i64 1, .bool true] 27))
          have T2 := Lib.hid (TT.out.alloc TT.out.size (.cells #[.int .i64 1, .bool true] 27))
          have M := Lib.hid (Sm.new wr 1 true)
          have KE := Lib.hid (P.out.step (by omega) true 1 rfl)
          have KS := Lib.hid (stepC B k false 1 true P.out.2.2.1 P.out.2.2.2.1 (by have := P.out.2.2.2.2.1; omega) (by have := P.out.2.2.2.2.1; omega) _ F2.out)
          rw [KE.out] at KS
          have m0 := M.out.cells.1
          have m1 := M.out.cells.2.1
          go_wp2_with fail
          refine KS.out.mono ?_
          rintro e w5 ⟨rfl, H5, hb⟩
          have F5 := Lib.hid H5
          have T5 := Lib.hid (T2.out.trans (hb.below SB.out T2.out.size))
          clear H5 hb m0 m1
          go_wp2_with fail
          refine (openC B _ _ F5.out).mono ?_
          rintro e w6 ⟨he, hb⟩
          rw [show CK.op ⟨(d : Int) + 1, (b : Int) + 1, false, sinceOf k false, 0, 1, true, false, false⟩ = false from by unfold CK.op; simp] at he
          subst he
          have F6 := Lib.hid (F5.out.below hb)
          have T6 := Lib.hid (T5.out.trans (hb.mono T5.out.size))
          clear hb F5 T5
          go_wp2_with fail
          refine (jamC B _ _ F6.out).mono ?_
          rintro e w7 ⟨he, hb⟩
          subst he
          have F7 := Lib.hid (F6.out.below hb)
          have T7 := Lib.hid (T6.out.trans (hb.mono T6.out.size))
          clear hb F6 T6
          have d2 := below_cell T7.out X2.out
          have d3 := below_cell T7.out X3.out
          go_wp2_with fail
          go_roundw
          case rel => exact ⟨i + 1, l, true, false, _, by omega, by go_num, rfl, rfl, by go_num, P.out.stay (by omega) true 1, F7.out, T7.out⟩
          case measure => simp [intOf]; omega
      · rw [hx] at X2
        rw [hy] at c4'
        clear hx hy
        by_cases hz : r = 0
        · subst hz
          have F2 := Lib.hid (F.out.alloc (.cells #[.int .i64 1, .bool true] 27))
          have T2 := Lib.hid (TT.out.alloc TT.out.size (.cells #[.int .i64 1, .bool true] 27))
          have M := Lib.hid (Sm.new wr 1 true)
          have KE := Lib.hid (P.out.step (by omega) true 1 rfl)
          have KS := Lib.hid (stepC B k true 1 true P.out.2.2.1 P.out.2.2.2.1 (by have := P.out.2.2.2.2.1; omega) (by have := P.out.2.2.2.2.1; omega) _ F2.out)
          rw [KE.out] at KS
          have m0 := M.out.cells.1
          have m1 := M.out.cells.2.1
          go_wp2_with fail
          refine KS.out.mono ?_
          rintro e w5 ⟨rfl, H5, hb⟩
          have F5 := Lib.hid H5
          have T5 := Lib.hid (T2.out.trans (hb.below SB.out T2.out.size))
          clear H5 hb m0 m1
          go_wp2_with fail
          refine (openC B _ _ F5.out).mono ?_
          rintro e w6 ⟨he, hb⟩
          rw [show CK.op ⟨(d : Int) + 1, (b : Int) + 1, true, sinceOf k true, 0, 1, true, false, false⟩ = false from rfl] at he
          subst he
          have F6 := Lib.hid (F5.out.below hb)
          have T6 := Lib.hid (T5.out.trans (hb.mono T5.out.size))
          clear hb F5 T5
          go_wp2_with fail
          refine (jamC B _ _ F6.out).mono ?_
          rintro e w7 ⟨he, hb⟩
          subst he
          have F7 := Lib.hid (F6.out.below hb)
          have T7 := Lib.hid (T6.out.trans (hb.mono T6.out.size))
          clear hb F6 T6
          have d2 := below_cell T7.out X2.out
          have d3 := below_cell T7.out X3.out
          go_wp2_with fail
          refine (N3.out _).mono ?_
          rintro e w8 ⟨rfl, rfl⟩
          go_wp2_with fail
          go_roundw
          case rel => exact ⟨i + 1, 0, false, false, _, by omega, by go_num, rfl, rfl, rfl, P.out.follow (by omega) true 1 false, F7.out, T7.out⟩
          case measure => simp [intOf]; omega
        · obtain ⟨r, rfl⟩ : ∃ m, r = m + 1 := ⟨r - 1, by omega⟩
          have F2 := Lib.hid (F.out.alloc (.cells #[.int .i64 1, .bool true] 27))
          have T2 := Lib.hid (TT.out.alloc TT.out.size (.cells #[.int .i64 1, .bool true] 27))
          have M := Lib.hid (Sm.new wr 1 true)
          have KE := Lib.hid (P.out.step (by omega) true 1 rfl)
          have KS := Lib.hid (stepC B k true 1 true P.out.2.2.1 P.out.2.2.2.1 (by have := P.out.2.2.2.2.1; omega) (by have := P.out.2.2.2.2.1; omega) _ F2.out)
          rw [KE.out] at KS
          have m0 := M.out.cells.1
          have m1 := M.out.cells.2.1
          go_wp2_with fail
          refine KS.out.mono ?_
          rintro e w5 ⟨rfl, H5, hb⟩
          have F5 := Lib.hid H5
          have T5 := Lib.hid (T2.out.trans (hb.below SB.out T2.out.size))
          clear H5 hb m0 m1
          go_wp2_with fail
          refine (openC B _ _ F5.out).mono ?_
          rintro e w6 ⟨he, hb⟩
          rw [show CK.op ⟨(d : Int) + 1, (b : Int) + 1, true, sinceOf k true, 0, 1, true, false, false⟩ = false from rfl] at he
          subst he
          have F6 := Lib.hid (F5.out.below hb)
          have T6 := Lib.hid (T5.out.trans (hb.mono T5.out.size))
          clear hb F5 T5
          go_wp2_with fail
          refine (jamC B _ _ F6.out).mono ?_
          rintro e w7 ⟨he, hb⟩
          subst he
          have F7 := Lib.hid (F6.out.below hb)
          have T7 := Lib.hid (T6.out.trans (hb.mono T6.out.size))
          clear hb F6 T6
          have d2 := below_cell T7.out X2.out
          have d3 := below_cell T7.out X3.out
          go_wp2_with fail
          refine (N3.out _).mono ?_
          rintro e w8 ⟨rfl, rfl⟩
          go_wp2_with fail
          go_roundw
          case rel => exact ⟨i + 1, r, true, false, _, by omega, by go_num, rfl, rfl, by go_num, P.out.turn true 1 false (by decide) r (by omega), F7.out, T7.out⟩
          case measure => simp [intOf]; omega
      · rw [hx] at X2
        rw [hy] at c4'
        clear hx hy
        by_cases hz : l = 0
        · subst hz
          have F2 := Lib.hid (F.out.alloc (.cells #[.int .i64 0, .bool false] 27))
          have T2 := Lib.hid (TT.out.alloc TT.out.size (.cells #[.int .i64 0, .bool false] 27))
          have M := Lib.hid (Sm.new wr 0 false)
          have KE := Lib.hid (P.out.step (by omega) false 0 rfl)
          have KS := Lib.hid (stepC B k false 0 false P.out.2.2.1 P.out.2.2.2.1 (by have := P.out.2.2.2.2.1; omega) (by have := P.out.2.2.2.2.1; omega) _ F2.out)
          rw [KE.out] at KS
          have m0 := M.out.cells.1
          have m1 := M.out.cells.2.1
          go_wp2_with fail
          refine KS.out.mono ?_
          rintro e w5 ⟨rfl, H5, hb⟩
          have F5 := Lib.hid H5
          have T5 := Lib.hid (T2.out.trans (hb.below SB.out T2.out.size))
          clear H5 hb m0 m1
          go_wp2_with fail
          refine (openC B _ _ F5.out).mono ?_
          rintro e w6 ⟨he, hb⟩
          rw [show CK.op ⟨(d : Int) + 1, (b : Int) + 1, false, sinceOf k false, 0, 0, false, false, false⟩ = false from by unfold CK.op; simp] at he
          subst he
          have F6 := Lib.hid (F5.out.below hb)
          have T6 := Lib.hid (T5.out.trans (hb.mono T5.out.size))
          clear hb F5 T5
          go_wp2_with fail
          refine (jamC B _ _ F6.out).mono ?_
          rintro e w7 ⟨he, hb⟩
          subst he
          have F7 := Lib.hid (F6.out.below hb)
          have T7 := Lib.hid (T6.out.trans (hb.mono T6.out.size))
          clear hb F6 T6
          have d2 := below_cell T7.out X2.out
          have d3 := below_cell T7.out X3.out
          go_wp2_with fail
          go_roundw
          case rel => exact ⟨i + 1, 0, false, false, _, by omega, by go_num, rfl, rfl, rfl, P.out.follow (by omega) false 0 false, F7.out, T7.out⟩
          case measure => simp [intOf]; omega
        · obtain ⟨l, rfl⟩ : ∃ m, l = m + 1 := ⟨l - 1, by omega⟩
          have F2 := Lib.hid (F.out.alloc (.cells #[.int .i64 0, .bool false] 27))
          have T2 := Lib.hid (TT.out.alloc TT.out.size (.cells #[.int .i64 0, .bool false] 27))
          have M := Lib.hid (Sm.new wr 0 false)
          have KE := Lib.hid (P.out.step (by omega) false 0 rfl)
          have KS := Lib.hid (stepC B k false 0 false P.out.2.2.1 P.out.2.2.2.1 (by have := P.out.2.2.2.2.1; omega) (by have := P.out.2.2.2.2.1; omega) _ F2.out)
          rw [KE.out] at KS
          have m0 := M.out.cells.1
          have m1 := M.out.cells.2.1
          go_wp2_with fail
          refine KS.out.mono ?_
          rintro e w5 ⟨rfl, H5, hb⟩
          have F5 := Lib.hid H5
          have T5 := Lib.hid (T2.out.trans (hb.below SB.out T2.out.size))
          clear H5 hb m0 m1
          go_wp2_with fail
          refine (openC B _ _ F5.out).mono ?_
          rintro e w6 ⟨he, hb⟩
          rw [show CK.op ⟨(d : Int) + 1, (b : Int) + 1, false, sinceOf k false, 0, 0, false, false, false⟩ = false from by unfold CK.op; simp] at he
          subst he
          have F6 := Lib.hid (F5.out.below hb)
          have T6 := Lib.hid (T5.out.trans (hb.mono T5.out.size))
          clear hb F5 T5
          go_wp2_with fail
          refine (jamC B _ _ F6.out).mono ?_
          rintro e w7 ⟨he, hb⟩
          subst he
          have F7 := Lib.hid (F6.out.below hb)
          have T7 := Lib.hid (T6.out.trans (hb.mono T6.out.size))
          clear hb F6 T6
          have d2 := below_cell T7.out X2.out
          have d3 := below_cell T7.out X3.out
          go_wp2_with fail
          go_roundw
          case rel => exact ⟨i + 1, l, false, false, _, by omega, by go_num, rfl, rfl, by go_num, P.out.stay (by omega) false 0, F7.out, T7.out⟩
          case measure => simp [intOf]; omega
      · rw [hx] at X2
        rw [hy] at c4'
        clear hx hy
        by_cases hz : r = 0
        · subst hz
          have F2 := Lib.hid (F.out.alloc (.cells #[.int .i64 0, .bool false] 27))
          have T2 := Lib.hid (TT.out.alloc TT.out.size (.cells #[.int .i64 0, .bool false] 27))
          have M := Lib.hid (Sm.new wr 0 false)
          have KE := Lib.hid (P.out.step (by omega) false 0 rfl)
          have KS := Lib.hid (stepC B k true 0 false P.out.2.2.1 P.out.2.2.2.1 (by have := P.out.2.2.2.2.1; omega) (by have := P.out.2.2.2.2.1; omega) _ F2.out)
          rw [KE.out] at KS
          have m0 := M.out.cells.1
          have m1 := M.out.cells.2.1
          go_wp2_with fail
          refine KS.out.mono ?_
          rintro e w5 ⟨rfl, H5, hb⟩
          have F5 := Lib.hid H5
          have T5 := Lib.hid (T2.out.trans (hb.below SB.out T2.out.size))
          clear H5 hb m0 m1
          go_wp2_with fail
          refine (openC B _ _ F5.out).mono ?_
          rintro e w6 ⟨he, hb⟩
          rw [show CK.op ⟨(d : Int) + 1, (b : Int) + 1, true, sinceOf k true, 0, 0, false, false, false⟩ = false from rfl] at he
          subst he
          have F6 := Lib.hid (F5.out.below hb)
          have T6 := Lib.hid (T5.out.trans (hb.mono T5.out.size))
          clear hb F5 T5
          go_wp2_with fail
          refine (jamC B _ _ F6.out).mono ?_
          rintro e w7 ⟨he, hb⟩
          subst he
          have F7 := Lib.hid (F6.out.below hb)
          have T7 := Lib.hid (T6.out.trans (hb.mono T6.out.size))
          clear hb F6 T6
          have d2 := below_cell T7.out X2.out
          have d3 := below_cell T7.out X3.out
          go_wp2_with fail
          refine (N3.out _).mono ?_
          rintro e w8 ⟨rfl, rfl⟩
          go_wp2_with fail
          go_roundw
          case rel => exact ⟨i + 1, 0, false, false, _, by omega, by go_num, rfl, rfl, rfl, P.out.follow (by omega) false 0 false, F7.out, T7.out⟩
          case measure => simp [intOf]; omega
        · obtain ⟨r, rfl⟩ : ∃ m, r = m + 1 := ⟨r - 1, by omega⟩
          have F2 := Lib.hid (F.out.alloc (.cells #[.int .i64 0, .bool false] 27))
          have T2 := Lib.hid (TT.out.alloc TT.out.size (.cells #[.int .i64 0, .bool false] 27))
          have M := Lib.hid (Sm.new wr 0 false)
          have KE := Lib.hid (P.out.step (by omega) false 0 rfl)
          have KS := Lib.hid (stepC B k true 0 false P.out.2.2.1 P.out.2.2.2.1 (by have := P.out.2.2.2.2.1; omega) (by have := P.out.2.2.2.2.1; omega) _ F2.out)
          rw [KE.out] at KS
          have m0 := M.out.cells.1
          have m1 := M.out.cells.2.1
          go_wp2_with fail
          refine KS.out.mono ?_
          rintro e w5 ⟨rfl, H5, hb⟩
          have F5 := Lib.hid H5
          have T5 := Lib.hid (T2.out.trans (hb.below SB.out T2.out.size))
          clear H5 hb m0 m1
          go_wp2_with fail
          refine (openC B _ _ F5.out).mono ?_
          rintro e w6 ⟨he, hb⟩
          rw [show CK.op ⟨(d : Int) + 1, (b : Int) + 1, true, sinceOf k true, 0, 0, false, false, false⟩ = false from rfl] at he
          subst he
          have F6 := Lib.hid (F5.out.below hb)
          have T6 := Lib.hid (T5.out.trans (hb.mono T5.out.size))
          clear hb F5 T5
          go_wp2_with fail
          refine (jamC B _ _ F6.out).mono ?_
          rintro e w7 ⟨he, hb⟩
          subst he
          have F7 := Lib.hid (F6.out.below hb)
          have T7 := Lib.hid (T6.out.trans (hb.mono T6.out.size))
          clear hb F6 T6
          have d2 := below_cell T7.out X2.out
          have d3 := below_cell T7.out X3.out
          go_wp2_with fail
          refine (N3.out _).mono ?_
          rintro e w8 ⟨rfl, rfl⟩
          go_wp2_with fail
          go_roundw
          case rel => exact ⟨i + 1, r, false, false, _, by omega, by go_num, rfl, rfl, by go_num, P.out.turn false 0 false (by decide) r (by omega), F7.out, T7.out⟩
          case measure => simp [intOf]; omega
      · rw [hx] at X2
        rw [hy] at c4'
        clear hx hy
        by_cases hz : l = 0
        · subst hz
          have F2 := Lib.hid (F.out.alloc (.cells #[.int .i64 1, .bool false] 27))
          have T2 := Lib.hid (TT.out.alloc TT.out.size (.cells #[.int .i64 1, .bool false] 27))
          have M := Lib.hid (Sm.new wr 1 false)
          have KE := Lib.hid (P.out.step (by omega) false 1 rfl)
          have KS := Lib.hid (stepC B k false 1 false P.out.2.2.1 P.out.2.2.2.1 (by have := P.out.2.2.2.2.1; omega) (by have := P.out.2.2.2.2.1; omega) _ F2.out)
          rw [KE.out] at KS
          have m0 := M.out.cells.1
          have m1 := M.out.cells.2.1
          go_wp2_with fail
          refine KS.out.mono ?_
          rintro e w5 ⟨rfl, H5, hb⟩
          have F5 := Lib.hid H5
          have T5 := Lib.hid (T2.out.trans (hb.below SB.out T2.out.size))
          clear H5 hb m0 m1
          go_wp2_with fail
          refine (openC B _ _ F5.out).mono ?_
          rintro e w6 ⟨he, hb⟩
          rw [show CK.op ⟨(d : Int) + 1, (b : Int) + 1, false, sinceOf k false, 0, 1, false, false, false⟩ = false from by unfold CK.op; simp] at he
          subst he
          have F6 := Lib.hid (F5.out.below hb)
          have T6 := Lib.hid (T5.out.trans (hb.mono T5.out.size))
          clear hb F5 T5
          go_wp2_with fail
          refine (jamC B _ _ F6.out).mono ?_
          rintro e w7 ⟨he, hb⟩
          subst he
          have F7 := Lib.hid (F6.out.below hb)
          have T7 := Lib.hid (T6.out.trans (hb.mono T6.out.size))
          clear hb F6 T6
          have d2 := below_cell T7.out X2.out
          have d3 := below_cell T7.out X3.out
          go_wp2_with fail
          go_roundw
          case rel => exact ⟨i + 1, 0, false, false, _, by omega, by go_num, rfl, rfl, rfl, P.out.follow (by omega) false 1 false, F7.out, T7.out⟩
          case measure => simp [intOf]; omega
        · obtain ⟨l, rfl⟩ : ∃ m, l = m + 1 := ⟨l - 1, by omega⟩
          have F2 := Lib.hid (F.out.alloc (.cells #[.int .i64 1, .bool false] 27))
          have T2 := Lib.hid (TT.out.alloc TT.out.size (.cells #[.int .i64 1, .bool false] 27))
          have M := Lib.hid (Sm.new wr 1 false)
          have KE := Lib.hid (P.out.step (by omega) false 1 rfl)
          have KS := Lib.hid (stepC B k false 1 false P.out.2.2.1 P.out.2.2.2.1 (by have := P.out.2.2.2.2.1; omega) (by have := P.out.2.2.2.2.1; omega) _ F2.out)
          rw [KE.out] at KS
          have m0 := M.out.cells.1
          have m1 := M.out.cells.2.1
          go_wp2_with fail
          refine KS.out.mono ?_
          rintro e w5 ⟨rfl, H5, hb⟩
          have F5 := Lib.hid H5
          have T5 := Lib.hid (T2.out.trans (hb.below SB.out T2.out.size))
          clear H5 hb m0 m1
          go_wp2_with fail
          refine (openC B _ _ F5.out).mono ?_
          rintro e w6 ⟨he, hb⟩
          rw [show CK.op ⟨(d : Int) + 1, (b : Int) + 1, false, sinceOf k false, 0, 1, false, false, false⟩ = false from by unfold CK.op; simp] at he
          subst he
          have F6 := Lib.hid (F5.out.below hb)
          have T6 := Lib.hid (T5.out.trans (hb.mono T5.out.size))
          clear hb F5 T5
          go_wp2_with fail
          refine (jamC B _ _ F6.out).mono ?_
          rintro e w7 ⟨he, hb⟩
          subst he
          have F7 := Lib.hid (F6.out.below hb)
          have T7 := Lib.hid (T6.out.trans (hb.mono T6.out.size))
          clear hb F6 T6
          have d2 := below_cell T7.out X2.out
          have d3 := below_cell T7.out X3.out
          go_wp2_with fail
          go_roundw
          case rel => exact ⟨i + 1, l, true, false, _, by omega, by go_num, rfl, rfl, by go_num, P.out.stay (by omega) false 1, F7.out, T7.out⟩
          case measure => simp [intOf]; omega
      · rw [hx] at X2
        rw [hy] at c4'
        clear hx hy
        by_cases hz : r = 0
        · subst hz
          have F2 := Lib.hid (F.out.alloc (.cells #[.int .i64 1, .bool false] 27))
          have T2 := Lib.hid (TT.out.alloc TT.out.size (.cells #[.int .i64 1, .bool false] 27))
          have M := Lib.hid (Sm.new wr 1 false)
          have KE := Lib.hid (P.out.step (by omega) false 1 rfl)
          have KS := Lib.hid (stepC B k true 1 false P.out.2.2.1 P.out.2.2.2.1 (by have := P.out.2.2.2.2.1; omega) (by have := P.out.2.2.2.2.1; omega) _ F2.out)
          rw [KE.out] at KS
          have m0 := M.out.cells.1
          have m1 := M.out.cells.2.1
          go_wp2_with fail
          refine KS.out.mono ?_
          rintro e w5 ⟨rfl, H5, hb⟩
          have F5 := Lib.hid H5
          have T5 := Lib.hid (T2.out.trans (hb.below SB.out T2.out.size))
          clear H5 hb m0 m1
          go_wp2_with fail
          refine (openC B _ _ F5.out).mono ?_
          rintro e w6 ⟨he, hb⟩
          rw [show CK.op ⟨(d : Int) + 1, (b : Int) + 1, true, sinceOf k true, 0, 1, false, false, false⟩ = false from rfl] at he
          subst he
          have F6 := Lib.hid (F5.out.below hb)
          have T6 := Lib.hid (T5.out.trans (hb.mono T5.out.size))
          clear hb F5 T5
          go_wp2_with fail
          refine (jamC B _ _ F6.out).mono ?_
          rintro e w7 ⟨he, hb⟩
          subst he
          have F7 := Lib.hid (F6.out.below hb)
          have T7 := Lib.hid (T6.out.trans (hb.mono T6.out.size))
          clear hb F6 T6
          have d2 := below_cell T7.out X2.out
          have d3 := below_cell T7.out X3.out
          go_wp2_with fail
          refine (N3.out _).mono ?_
          rintro e w8 ⟨rfl, rfl⟩
          go_wp2_with fail
          go_roundw
          case rel => exact ⟨i + 1, 0, false, false, _, by omega, by go_num, rfl, rfl, rfl, P.out.follow (by omega) false 1 false, F7.out, T7.out⟩
          case measure => simp [intOf]; omega
        · obtain ⟨r, rfl⟩ : ∃ m, r = m + 1 := ⟨r - 1, by omega⟩
          have F2 := Lib.hid (F.out.alloc (.cells #[.int .i64 1, .bool false] 27))
          have T2 := Lib.hid (TT.out.alloc TT.out.size (.cells #[.int .i64 1, .bool false] 27))
          have M := Lib.hid (Sm.new wr 1 false)
          have KE := Lib.hid (P.out.step (by omega) false 1 rfl)
          have KS := Lib.hid (stepC B k true 1 false P.out.2.2.1 P.out.2.2.2.1 (by have := P.out.2.2.2.2.1; omega) (by have := P.out.2.2.2.2.1; omega) _ F2.out)
          rw [KE.out] at KS
          have m0 := M.out.cells.1
          have m1 := M.out.cells.2.1
          go_wp2_with fail
          refine KS.out.mono ?_
          rintro e w5 ⟨rfl, H5, hb⟩
          have F5 := Lib.hid H5
          have T5 := Lib.hid (T2.out.trans (hb.below SB.out T2.out.size))
          clear H5 hb m0 m1
          go_wp2_with fail
          refine (openC B _ _ F5.out).mono ?_
          rintro e w6 ⟨he, hb⟩
          rw [show CK.op ⟨(d : Int) + 1, (b : Int) + 1, true, sinceOf k true, 0, 1, false, false, false⟩ = false from rfl] at he
          subst he
          have F6 := Lib.hid (F5.out.below hb)
          have T6 := Lib.hid (T5.out.trans (hb.mono T5.out.size))
          clear hb F5 T5
          go_wp2_with fail
          refine (jamC B _ _ F6.out).mono ?_
          rintro e w7 ⟨he, hb⟩
          subst he
          have F7 := Lib.hid (F6.out.below hb)
          have T7 := Lib.hid (T6.out.trans (hb.mono T6.out.size))
          clear hb F6 T6
          have d2 := below_cell T7.out X2.out
          have d3 := below_cell T7.out X3.out
          go_wp2_with fail
          refine (N3.out _).mono ?_
          rintro e w8 ⟨rfl, rfl⟩
          go_wp2_with fail
          go_roundw
          case rel => exact ⟨i + 1, r, true, false, _, by omega, by go_num, rfl, rfl, by go_num, P.out.turn false 1 false (by decide) r (by omega), F7.out, T7.out⟩
          case measure => simp [intOf]; omega
      · rw [hx] at X2
        rw [hy] at c4'
        clear hx hy
        by_cases hz : r = 0
        · subst hz
          cases ho : CK.op ⟨(d : Int) + 1, (b : Int) + 1, false, sinceOf k false, 0, 0, true, false, false⟩
          · have F2 := Lib.hid (F.out.alloc (.cells #[.int .i64 0, .bool true] 27))
            have T2 := Lib.hid (TT.out.alloc TT.out.size (.cells #[.int .i64 0, .bool true] 27))
            have M := Lib.hid (Sm.new wr 0 true)
            have KE := Lib.hid (P.out.step (by omega) true 0 rfl)
            have KS := Lib.hid (stepC B k false 0 true P.out.2.2.1 P.out.2.2.2.1 (by have := P.out.2.2.2.2.1; omega) (by have := P.out.2.2.2.2.1; omega) _ F2.out)
            rw [KE.out] at KS
            have m0 := M.out.cells.1
            have m1 := M.out.cells.2.1
            go_wp2_with fail
            refine KS.out.mono ?_
            rintro e w5 ⟨rfl, H5, hb⟩
            have F5 := Lib.hid H5
            have T5 := Lib.hid (T2.out.trans (hb.below SB.out T2.out.size))
            clear H5 hb m0 m1
            go_wp2_with fail
            refine (openC B _ _ F5.out).mono ?_
            rintro e w6 ⟨he, hb⟩
            rw [ho] at he
            subst he
            have F6 := Lib.hid (F5.out.below hb)
            have T6 := Lib.hid (T5.out.trans (hb.mono T5.out.size))
            clear hb F5 T5
            go_wp2_with fail
            refine (jamC B _ _ F6.out).mono ?_
            rintro e w7 ⟨he, hb⟩
            subst he
            have F7 := Lib.hid (F6.out.below hb)
            have T7 := Lib.hid (T6.out.trans (hb.mono T6.out.size))
            clear hb F6 T6
            have d2 := below_cell T7.out X2.out
            have d3 := below_cell T7.out X3.out
            go_wp2_with fail
            refine (N3.out _).mono ?_
            rintro e w8 ⟨rfl, rfl⟩
            go_wp2_with fail
            go_roundw
            case rel => exact ⟨i + 1, 0, true, true, _, by omega, by go_num, rfl, rfl, rfl, P.out.follow (by omega) true 0 true, F7.out, T7.out⟩
            case measure => simp [intOf]; omega
          · have F2 := Lib.hid (F.out.alloc (.cells #[.int .i64 0, .bool true] 27))
            have T2 := Lib.hid (TT.out.alloc TT.out.size (.cells #[.int .i64 0, .bool true] 27))
            have M := Lib.hid (Sm.new wr 0 true)
            have KE := Lib.hid (P.out.step (by omega) true 0 rfl)
            have KS := Lib.hid (stepC B k false 0 true P.out.2.2.1 P.out.2.2.2.1 (by have := P.out.2.2.2.2.1; omega) (by have := P.out.2.2.2.2.1; omega) _ F2.out)
            rw [KE.out] at KS
            have m0 := M.out.cells.1
            have m1 := M.out.cells.2.1
            go_wp2_with fail
            refine KS.out.mono ?_
            rintro e w5 ⟨rfl, H5, hb⟩
            have F5 := Lib.hid H5
            have T5 := Lib.hid (T2.out.trans (hb.below SB.out T2.out.size))
            clear H5 hb m0 m1
            go_wp2_with fail
            refine (openC B _ _ F5.out).mono ?_
            rintro e w6 ⟨he, hb⟩
            rw [ho] at he
            subst he
            have F6 := Lib.hid (F5.out.below hb)
            have T6 := Lib.hid (T5.out.trans (hb.mono T5.out.size))
            clear hb F5 T5
            go_wp2_with fail
            refine (jamC B _ _ F6.out).mono ?_
            rintro e w7 ⟨he, hb⟩
            subst he
            have F7 := Lib.hid (F6.out.below hb)
            have T7 := Lib.hid (T6.out.trans (hb.mono T6.out.size))
            clear hb F6 T6
            have d2 := below_cell T7.out X2.out
            have d3 := below_cell T7.out X3.out
            go_wp2_with fail
            refine (N3.out _).mono ?_
            rintro e w8 ⟨rfl, rfl⟩
            go_wp2_with fail
            go_roundw
            case rel => exact ⟨i + 1, 0, true, true, _, by omega, by go_num, rfl, rfl, rfl, P.out.follow (by omega) true 0 true, F7.out, T7.out⟩
            case measure => simp [intOf]; omega
        · obtain ⟨r, rfl⟩ : ∃ m, r = m + 1 := ⟨r - 1, by omega⟩
          cases ho : CK.op ⟨(d : Int) + 1, (b : Int) + 1, false, sinceOf k false, 0, 0, true, false, false⟩
          · have F2 := Lib.hid (F.out.alloc (.cells #[.int .i64 0, .bool true] 27))
            have T2 := Lib.hid (TT.out.alloc TT.out.size (.cells #[.int .i64 0, .bool true] 27))
            have M := Lib.hid (Sm.new wr 0 true)
            have KE := Lib.hid (P.out.step (by omega) true 0 rfl)
            have KS := Lib.hid (stepC B k false 0 true P.out.2.2.1 P.out.2.2.2.1 (by have := P.out.2.2.2.2.1; omega) (by have := P.out.2.2.2.2.1; omega) _ F2.out)
            rw [KE.out] at KS
            have m0 := M.out.cells.1
            have m1 := M.out.cells.2.1
            go_wp2_with fail
            refine KS.out.mono ?_
            rintro e w5 ⟨rfl, H5, hb⟩
            have F5 := Lib.hid H5
            have T5 := Lib.hid (T2.out.trans (hb.below SB.out T2.out.size))
            clear H5 hb m0 m1
            go_wp2_with fail
            refine (openC B _ _ F5.out).mono ?_
            rintro e w6 ⟨he, hb⟩
            rw [ho] at he
            subst he
            have F6 := Lib.hid (F5.out.below hb)
            have T6 := Lib.hid (T5.out.trans (hb.mono T5.out.size))
            clear hb F5 T5
            go_wp2_with fail
            refine (jamC B _ _ F6.out).mono ?_
            rintro e w7 ⟨he, hb⟩
            subst he
            have F7 := Lib.hid (F6.out.below hb)
            have T7 := Lib.hid (T6.out.trans (hb.mono T6.out.size))
            clear hb F6 T6
            have d2 := below_cell T7.out X2.out
            have d3 := below_cell T7.out X3.out
            go_wp2_with fail
            refine (N3.out _).mono ?_
            rintro e w8 ⟨rfl, rfl⟩
            go_wp2_with fail
            go_roundw
            case rel => exact ⟨i + 1, r, false, true, _, by omega, by go_num, rfl, rfl, by go_num, P.out.turn true 0 true (by decide) r (by omega), F7.out, T7.out⟩
            case measure => simp [intOf]; omega
          · have F2 := Lib.hid (F.out.alloc (.cells #[.int .i64 0, .bool true] 27))
            have T2 := Lib.hid (TT.out.alloc TT.out.size (.cells #[.int .i64 0, .bool true] 27))
            have M := Lib.hid (Sm.new wr 0 true)
            have KE := Lib.hid (P.out.step (by omega) true 0 rfl)
            have KS := Lib.hid (stepC B k false 0 true P.out.2.2.1 P.out.2.2.2.1 (by have := P.out.2.2.2.2.1; omega) (by have := P.out.2.2.2.2.1; omega) _ F2.out)
            rw [KE.out] at KS
            have m0 := M.out.cells.1
            have m1 := M.out.cells.2.1
            go_wp2_with fail
            refine KS.out.mono ?_
            rintro e w5 ⟨rfl, H5, hb⟩
            have F5 := Lib.hid H5
            have T5 := Lib.hid (T2.out.trans (hb.below SB.out T2.out.size))
            clear H5 hb m0 m1
            go_wp2_with fail
            refine (openC B _ _ F5.out).mono ?_
            rintro e w6 ⟨he, hb⟩
            rw [ho] at he
            subst he
            have F6 := Lib.hid (F5.out.below hb)
            have T6 := Lib.hid (T5.out.trans (hb.mono T5.out.size))
            clear hb F5 T5
            go_wp2_with fail
            refine (jamC B _ _ F6.out).mono ?_
            rintro e w7 ⟨he, hb⟩
            subst he
            have F7 := Lib.hid (F6.out.below hb)
            have T7 := Lib.hid (T6.out.trans (hb.mono T6.out.size))
            clear hb F6 T6
            have d2 := below_cell T7.out X2.out
            have d3 := below_cell T7.out X3.out
            go_wp2_with fail
            refine (N3.out _).mono ?_
            rintro e w8 ⟨rfl, rfl⟩
            go_wp2_with fail
            go_roundw
            case rel => exact ⟨i + 1, r, false, true, _, by omega, by go_num, rfl, rfl, by go_num, P.out.turn true 0 true (by decide) r (by omega), F7.out, T7.out⟩
            case measure => simp [intOf]; omega
      · rw [hx] at X2
        rw [hy] at c4'
        clear hx hy
        by_cases hz : l = 0
        · subst hz
          have F2 := Lib.hid (F.out.alloc (.cells #[.int .i64 0, .bool true] 27))
          have T2 := Lib.hid (TT.out.alloc TT.out.size (.cells #[.int .i64 0, .bool true] 27))
          have M := Lib.hid (Sm.new wr 0 true)
          have KE := Lib.hid (P.out.step (by omega) true 0 rfl)
          have KS := Lib.hid (stepC B k true 0 true P.out.2.2.1 P.out.2.2.2.1 (by have := P.out.2.2.2.2.1; omega) (by have := P.out.2.2.2.2.1; omega) _ F2.out)
          rw [KE.out] at KS
          have m0 := M.out.cells.1
          have m1 := M.out.cells.2.1
          go_wp2_with fail
          refine KS.out.mono ?_
          rintro e w5 ⟨rfl, H5, hb⟩
          have F5 := Lib.hid H5
          have T5 := Lib.hid (T2.out.trans (hb.below SB.out T2.out.size))
          clear H5 hb m0 m1
          go_wp2_with fail
          refine (openC B _ _ F5.out).mono ?_
          rintro e w6 ⟨he, hb⟩
          rw [show CK.op ⟨(d : Int) + 1, (b : Int) + 1, true, sinceOf k true, 0, 0, true, false, false⟩ = false from rfl] at he
          subst he
          have F6 := Lib.hid (F5.out.below hb)
          have T6 := Lib.hid (T5.out.trans (hb.mono T5.out.size))
          clear hb F5 T5
          go_wp2_with fail
          refine (jamC B _ _ F6.out).mono ?_
          rintro e w7 ⟨he, hb⟩
          subst he
          have F7 := Lib.hid (F6.out.below hb)
          have T7 := Lib.hid (T6.out.trans (hb.mono T6.out.size))
          clear hb F6 T6
          have d2 := below_cell T7.out X2.out
          have d3 := below_cell T7.out X3.out
          go_wp2_with fail
          go_roundw
          case rel => exact ⟨i + 1, 0, true, true, _, by omega, by go_num, rfl, rfl, rfl, P.out.follow (by omega) true 0 true, F7.out, T7.out⟩
          case measure => simp [intOf]; omega
        · obtain ⟨l, rfl⟩ : ∃ m, l = m + 1 := ⟨l - 1, by omega⟩
          have F2 := Lib.hid (F.out.alloc (.cells #[.int .i64 0, .bool true] 27))
          have T2 := Lib.hid (TT.out.alloc TT.out.size (.cells #[.int .i64 0, .bool true] 27))
          have M := Lib.hid (Sm.new wr 0 true)
          have KE := Lib.hid (P.out.step (by omega) true 0 rfl)
          have KS := Lib.hid (stepC B k true 0 true P.out.2.2.1 P.out.2.2.2.1 (by have := P.out.2.2.2.2.1; omega) (by have := P.out.2.2.2.2.1; omega) _ F2.out)
          rw [KE.out] at KS
          have m0 := M.out.cells.1
          have m1 := M.out.cells.2.1
          go_wp2_with fail
          refine KS.out.mono ?_
          rintro e w5 ⟨rfl, H5, hb⟩
          have F5 := Lib.hid H5
          have T5 := Lib.hid (T2.out.trans (hb.below SB.out T2.out.size))
          clear H5 hb m0 m1
          go_wp2_with fail
          refine (openC B _ _ F5.out).mono ?_
          rintro e w6 ⟨he, hb⟩
          rw [show CK.op ⟨(d : Int) + 1, (b : Int) + 1, true, sinceOf k true, 0, 0, true, false, false⟩ = false from rfl] at he
          subst he
          have F6 := Lib.hid (F5.out.below hb)
          have T6 := Lib.hid (T5.out.trans (hb.mono T5.out.size))
          clear hb F5 T5
          go_wp2_with fail
          refine (jamC B _ _ F6.out).mono ?_
          rintro e w7 ⟨he, hb⟩
          subst he
          have F7 := Lib.hid (F6.out.below hb)
          have T7 := Lib.hid (T6.out.trans (hb.mono T6.out.size))
          clear hb F6 T6
          have d2 := below_cell T7.out X2.out
          have d3 := below_cell T7.out X3.out
          go_wp2_with fail
          go_roundw
          case rel => exact ⟨i + 1, l, false, true, _, by omega, by go_num, rfl, rfl, by go_num, P.out.stay (by omega) true 0, F7.out, T7.out⟩
          case measure => simp [intOf]; omega
      · rw [hx] at X2
        rw [hy] at c4'
        clear hx hy
        by_cases hz : r = 0
        · subst hz
          have F2 := Lib.hid (F.out.alloc (.cells #[.int .i64 1, .bool true] 27))
          have T2 := Lib.hid (TT.out.alloc TT.out.size (.cells #[.int .i64 1, .bool true] 27))
          have M := Lib.hid (Sm.new wr 1 true)
          have KE := Lib.hid (P.out.step (by omega) true 1 rfl)
          have KS := Lib.hid (stepC B k false 1 true P.out.2.2.1 P.out.2.2.2.1 (by have := P.out.2.2.2.2.1; omega) (by have := P.out.2.2.2.2.1; omega) _ F2.out)
          rw [KE.out] at KS
          have m0 := M.out.cells.1
          have m1 := M.out.cells.2.1
          go_wp2_with fail
          refine KS.out.mono ?_
          rintro e w5 ⟨rfl, H5, hb⟩
          have F5 := Lib.hid H5
          have T5 := Lib.hid (T2.out.trans (hb.below SB.out T2.out.size))
          clear H5 hb m0 m1
          go_wp2_with fail
          refine (openC B _ _ F5.out).mono ?_
          rintro e w6 ⟨he, hb⟩
          rw [show CK.op ⟨(d : Int) + 1, (b : Int) + 1, false, sinceOf k false, 0, 1, true, false, false⟩ = false from by unfold CK.op; simp] at he
          subst he
          have F6 := Lib.hid (F5.out.below hb)
          have T6 := Lib.hid (T5.out.trans (hb.mono T5.out.size))
          clear hb F5 T5
          go_wp2_with fail
          refine (jamC B _ _ F6.out).mono ?_
          rintro e w7 ⟨he, hb⟩
          subst he
          have F7 := Lib.hid (F6.out.below hb)
          have T7 := Lib.hid (T6.out.trans (hb.mono T6.out.size))
          clear hb F6 T6
          have d2 := below_cell T7.out X2.out
          have d3 := below_cell T7.out X3.out
          go_wp2_with fail
          refine (N3.out _).mono ?_
          rintro e w8 ⟨rfl, rfl⟩
          go_wp2_with fail
          go_roundw
          case rel => exact ⟨i + 1, 0, true, true, _, by omega, by go_num, rfl, rfl, rfl, P.out.follow (by omega) true 1 true, F7.out, T7.out⟩
          case measure => simp [intOf]; omega
        · obtain ⟨r, rfl⟩ : ∃ m, r = m + 1 := ⟨r - 1, by omega⟩
          have F2 := Lib.hid (F.out.alloc (.cells #[.int .i64 1, .bool true] 27))
          have T2 := Lib.hid (TT.out.alloc TT.out.size (.cells #[.int .i64 1, .bool true] 27))
          have M := Lib.hid (Sm.new wr 1 true)
          have KE := Lib.hid (P.out.step (by omega) true 1 rfl)
          have KS := Lib.hid (stepC B k false 1 true P.out.2.2.1 P.out.2.2.2.1 (by have := P.out.2.2.2.2.1; omega) (by have := P.out.2.2.2.2.1; omega) _ F2.out)
          rw [KE.out] at KS
          have m0 := M.out.cells.1
          have m1 := M.out.cells.2.1
          go_wp2_with fail
          refine KS.out.mono ?_
          rintro e w5 ⟨rfl, H5, hb⟩
          have F5 := Lib.hid H5
          have T5 := Lib.hid (T2.out.trans (hb.below SB.out T2.out.size))
          clear H5 hb m0 m1
          go_wp2_with fail
          refine (openC B _ _ F5.out).mono ?_
          rintro e w6 ⟨he, hb⟩
          rw [show CK.op ⟨(d : Int) + 1, (b : Int) + 1, false, sinceOf k false, 0, 1, true, false, false⟩ = false from by unfold CK.op; simp] at he
          subst he
          have F6 := Lib.hid (F5.out.below hb)
          have T6 := Lib.hid (T5.out.trans (hb.mono T5.out.size))
          clear hb F5 T5
          go_wp2_with fail
          refine (jamC B _ _ F6.out).mono ?_
          rintro e w7 ⟨he, hb⟩
          subst he
          have F7 := Lib.hid (F6.out.below hb)
          have T7 := Lib.hid (T6.out.trans (hb.mono T6.out.size))
          clear hb F6 T6
          have d2 := below_cell T7.out X2.out
          have d3 := below_cell T7.out X3.out
          go_wp2_with fail
          refine (N3.out _).mono ?_
          rintro e w8 ⟨rfl, rfl⟩
          go_wp2_with fail
          go_roundw
          case rel => exact ⟨i + 1, r, true, true, _, by omega, by go_num, rfl, rfl, by go_num, P.out.turn true 1 true (by decide) r (by omega), F7.out, T7.out⟩
          case measure => simp [intOf]; omega
      · rw [hx] at X2
        rw [hy] at c4'
        clear hx hy
        by_cases hz : l = 0
        · subst hz
          have F2 := Lib.hid (F.out.alloc (.cells #[.int .i64 1, .bool true] 27))
          have T2 := Lib.hid (TT.out.alloc TT.out.size (.cells #[.int .i64 1, .bool true] 27))
          have M := Lib.hid (Sm.new wr 1 true)
          have KE := Lib.hid (P.out.step (by omega) true 1 rfl)
          have KS := Lib.hid (stepC B k true 1 true P.out.2.2.1 P.out.2.2.2.1 (by have := P.out.2.2.2.2.1; omega) (by have := P.out.2.2.2.2.1; omega) _ F2.out)
          rw [KE.out] at KS
          have m0 := M.out.cells.1
          have m1 := M.out.cells.2.1
          go_wp2_with fail
          refine KS.out.mono ?_
          rintro e w5 ⟨rfl, H5, hb⟩
          have F5 := Lib.hid H5
          have T5 := Lib.hid (T2.out.trans (hb.below SB.out T2.out.size))
          clear H5 hb m0 m1
          go_wp2_with fail
          refine (openC B _ _ F5.out).mono ?_
          rintro e w6 ⟨he, hb⟩
          rw [show CK.op ⟨(d : Int) + 1, (b : Int) + 1, true, sinceOf k true, 0, 1, true, false, false⟩ = false from rfl] at he
          subst he
          have F6 := Lib.hid (F5.out.below hb)
          have T6 := Lib.hid (T5.out.trans (hb.mono T5.out.size))
          clear hb F5 T5
          go_wp2_with fail
          refine (jamC B _ _ F6.out).mono ?_
          rintro e w7 ⟨he, hb⟩
          subst he
          have F7 := Lib.hid (F6.out.below hb)
          have T7 := Lib.hid (T6.out.trans (hb.mono T6.out.size))
          clear hb F6 T6
          have d2 := below_cell T7.out X2.out
          have d3 := below_cell T7.out X3.out
          go_wp2_with fail
          go_roundw
          case rel => exact ⟨i + 1, 0, true, true, _, by omega, by go_num, rfl, rfl, rfl, P.out.follow (by omega) true 1 true, F7.out, T7.out⟩
          case measure => simp [intOf]; omega
        · obtain ⟨l, rfl⟩ : ∃ m, l = m + 1 := ⟨l - 1, by omega⟩
          have F2 := Lib.hid (F.out.alloc (.cells #[.int .i64 1, .bool true] 27))
          have T2 := Lib.hid (TT.out.alloc TT.out.size (.cells #[.int .i64 1, .bool true] 27))
          have M := Lib.hid (Sm.new wr 1 true)
          have KE := Lib.hid (P.out.step (by omega) true 1 rfl)
          have KS := Lib.hid (stepC B k true 1 true P.out.2.2.1 P.out.2.2.2.1 (by have := P.out.2.2.2.2.1; omega) (by have := P.out.2.2.2.2.1; omega) _ F2.out)
          rw [KE.out] at KS
          have m0 := M.out.cells.1
          have m1 := M.out.cells.2.1
          go_wp2_with fail
          refine KS.out.mono ?_
          rintro e w5 ⟨rfl, H5, hb⟩
          have F5 := Lib.hid H5
          have T5 := Lib.hid (T2.out.trans (hb.below SB.out T2.out.size))
          clear H5 hb m0 m1
          go_wp2_with fail
          refine (openC B _ _ F5.out).mono ?_
          rintro e w6 ⟨he, hb⟩
          rw [show CK.op ⟨(d : Int) + 1, (b : Int) + 1, true, sinceOf k true, 0, 1, true, false, false⟩ = false from rfl] at he
          subst he
          have F6 := Lib.hid (F5.out.below hb)
          have T6 := Lib.hid (T5.out.trans (hb.mono T5.out.size))
          clear hb F5 T5
          go_wp2_with fail
          refine (jamC B _ _ F6.out).mono ?_
          rintro e w7 ⟨he, hb⟩
          subst he
          have F7 := Lib.hid (F6.out.below hb)
          have T7 := Lib.hid (T6.out.trans (hb.mono T6.out.size))
          clear hb F6 T6
          have d2 := below_cell T7.out X2.out
          have d3 := below_cell T7.out X3.out
          go_wp2_with fail
          go_roundw
          case rel => exact ⟨i + 1, l, true, true, _, by omega, by go_num, rfl, rfl, by go_num, P.out.stay (by omega) true 1, F7.out, T7.out⟩
          case measure => simp [intOf]; omega
      · rw [hx] at X2
        rw [hy] at c4'
        clear hx hy
        by_cases hz : r = 0
        · subst hz
          have F2 := Lib.hid (F.out.alloc (.cells #[.int .i64 0, .bool false] 27))
          have T2 := Lib.hid (TT.out.alloc TT.out.size (.cells #[.int .i64 0, .bool false] 27))
          have M := Lib.hid (Sm.new wr 0 false)
          have KE := Lib.hid (P.out.step (by omega) false 0 rfl)
          have KS := Lib.hid (stepC B k false 0 false P.out.2.2.1 P.out.2.2.2.1 (by have := P.out.2.2.2.2.1; omega) (by have := P.out.2.2.2.2.1; omega) _ F2.out)
          rw [KE.out] at KS
          have m0 := M.out.cells.1
          have m1 := M.out.cells.2.1
          go_wp2_with fail
          refine KS.out.mono ?_
          rintro e w5 ⟨rfl, H5, hb⟩
          have F5 := Lib.hid H5
          have T5 := Lib.hid (T2.out.trans (hb.below SB.out T2.out.size))
          clear H5 hb m0 m1
          go_wp2_with fail
          refine (openC B _ _ F5.out).mono ?_
          rintro e w6 ⟨he, hb⟩
          rw [show CK.op ⟨(d : Int) + 1, (b : Int) + 1, false, sinceOf k false, 0, 0, false, false, false⟩ = false from by unfold CK.op; simp] at he
          subst he
          have F6 := Lib.hid (F5.out.below hb)
          have T6 := Lib.hid (T5.out.trans (hb.mono T5.out.size))
          clear hb F5 T5
          go_wp2_with fail
          refine (jamC B _ _ F6.out).mono ?_
          rintro e w7 ⟨he, hb⟩
          subst he
          have F7 := Lib.hid (F6.out.below hb)
          have T7 := Lib.hid (T6.out.trans (hb.mono T6.out.size))
          clear hb F6 T6
          have d2 := below_cell T7.out X2.out
          have d3 := below_cell T7.out X3.out
          go_wp2_with fail
          refine (N3.out _).mono ?_
          rintro e w8 ⟨rfl, rfl⟩
          go_wp2_with fail
          go_roundw
          case rel => exact ⟨i + 1, 0, true, true, _, by omega, by go_num, rfl, rfl, rfl, P.out.follow (by omega) false 0 true, F7.out, T7.out⟩
          case measure => simp [intOf]; omega
        · obtain ⟨r, rfl⟩ : ∃ m, r = m + 1 := ⟨r - 1, by omega⟩
          have F2 := Lib.hid (F.out.alloc (.cells #[.int .i64 0, .bool false] 27))
          have T2 := Lib.hid (TT.out.alloc TT.out.size (.cells #[.int .i64 0, .bool false] 27))
          have M := Lib.hid (Sm.new wr 0 false)
          have KE := Lib.hid (P.out.step (by omega) false 0 rfl)
          have KS := Lib.hid (stepC B k false 0 false P.out.2.2.1 P.out.2.2.2.1 (by have := P.out.2.2.2.2.1; omega) (by have := P.out.2.2.2.2.1; omega) _ F2.out)
          rw [KE.out] at KS
          have m0 := M.out.cells.1
          have m1 := M.out.cells.2.1
          go_wp2_with fail
          refine KS.out.mono ?_
          rintro e w5 ⟨rfl, H5, hb⟩
          have F5 := Lib.hid H5
          have T5 := Lib.hid (T2.out.trans (hb.below SB.out T2.out.size))
          clear H5 hb m0 m1
          go_wp2_with fail
          refine (openC B _ _ F5.out).mono ?_
          rintro e w6 ⟨he, hb⟩
          rw [show CK.op ⟨(d : Int) + 1, (b : Int) + 1, false, sinceOf k false, 0, 0, false, false, false⟩ = false from by unfold CK.op; simp] at he
          subst he
          have F6 := Lib.hid (F5.out.below hb)
          have T6 := Lib.hid (T5.out.trans (hb.mono T5.out.size))
          clear hb F5 T5
          go_wp2_with fail
          refine (jamC B _ _ F6.out).mono ?_
          rintro e w7 ⟨he, hb⟩
          subst he
          have F7 := Lib.hid (F6.out.below hb)
          have T7 := Lib.hid (T6.out.trans (hb.mono T6.out.size))
          clear hb F6 T6
          have d2 := below_cell T7.out X2.out
          have d3 := below_cell T7.out X3.out
          go_wp2_with fail
          refine (N3.out _).mono ?_
          rintro e w8 ⟨rfl, rfl⟩
          go_wp2_with fail
          go_roundw
          case rel => exact ⟨i + 1, r, false, true, _, by omega, by go_num, rfl, rfl, by go_num, P.out.turn false 0 true (by decide) r (by omega), F7.out, T7.out⟩
          case measure => simp [intOf]; omega
      · rw [hx] at X2
        rw [hy] at c4'
        clear hx hy
        by_cases hz : l = 0
        · subst hz
          have F2 := Lib.hid (F.out.alloc (.cells #[.int .i64 0, .bool false] 27))
          have T2 := Lib.hid (TT.out.alloc TT.out.size (.cells #[.int .i64 0, .bool false] 27))
          have M := Lib.hid (Sm.new wr 0 false)
          have KE := Lib.hid (P.out.step (by omega) false 0 rfl)
          have KS := Lib.hid (stepC B k true 0 false P.out.2.2.1 P.out.2.2.2.1 (by have := P.out.2.2.2.2.1; omega) (by have := P.out.2.2.2.2.1; omega) _ F2.out)
          rw [KE.out] at KS
          have m0 := M.out.cells.1
          have m1 := M.out.cells.2.1
          go_wp2_with fail
          refine KS.out.mono ?_
          rintro e w5 ⟨rfl, H5, hb⟩
          have F5 := Lib.hid H5
          have T5 := Lib.hid (T2.out.trans (hb.below SB.out T2.out.size))
          clear H5 hb m0 m1
          go_wp2_with fail
          refine (openC B _ _ F5.out).mono ?_
          rintro e w6 ⟨he, hb⟩
          rw [show CK.op ⟨(d : Int) + 1, (b : Int) + 1, true, sinceOf k true, 0, 0, false, false, false⟩ = false from rfl] at he
          subst he
          have F6 := Lib.hid (F5.out.below hb)
          have T6 := Lib.hid (T5.out.trans (hb.mono T5.out.size))
          clear hb F5 T5
          go_wp2_with fail
          refine (jamC B _ _ F6.out).mono ?_
          rintro e w7 ⟨he, hb⟩
          subst he
          have F7 := Lib.hid (F6.out.below hb)
          have T7 := Lib.hid (T6.out.trans (hb.mono T6.out.size))
          clear hb F6 T6
          have d2 := below_cell T7.out X2.out
          have d3 := below_cell T7.out X3.out
          go_wp2_with fail
          go_roundw
          case rel => exact ⟨i + 1, 0, true, true, _, by omega, by go_num, rfl, rfl, rfl, P.out.follow (by omega) false 0 true, F7.out, T7.out⟩
          case measure => simp [intOf]; omega
        · obtain ⟨l, rfl⟩ : ∃ m, l = m + 1 := ⟨l - 1, by omega⟩
          have F2 := Lib.hid (F.out.alloc (.cells #[.int .i64 0, .bool false] 27))
          have T2 := Lib.hid (TT.out.alloc TT.out.size (.cells #[.int .i64 0, .bool false] 27))
          have M := Lib.hid (Sm.new wr 0 false)
          have KE := Lib.hid (P.out.step (by omega) false 0 rfl)
          have KS := Lib.hid (stepC B k true 0 false P.out.2.2.1 P.out.2.2.2.1 (by have := P.out.2.2.2.2.1; omega) (by have := P.out.2.2.2.2.1; omega) _ F2.out)
          rw [KE.out] at KS
          have m0 := M.out.cells.1
          have m1 := M.out.cells.2.1
          go_wp2_with fail
          refine KS.out.mono ?_
          rintro e w5 ⟨rfl, H5, hb⟩
          have F5 := Lib.hid H5
          have T5 := Lib.hid (T2.out.trans (hb.below SB.out T2.out.size))
          clear H5 hb m0 m1
          go_wp2_with fail
          refine (openC B _ _ F5.out).mono ?_
          rintro e w6 ⟨he, hb⟩
          rw [show CK.op ⟨(d : Int) + 1, (b : Int) + 1, true, sinceOf k true, 0, 0, false, false, false⟩ = false from rfl] at he
          subst he
          have F6 := Lib.hid (F5.out.below hb)
          have T6 := Lib.hid (T5.out.trans (hb.mono T5.out.size))
          clear hb F5 T5
          go_wp2_with fail
          refine (jamC B _ _ F6.out).mono ?_
          rintro e w7 ⟨he, hb⟩
          subst he
          have F7 := Lib.hid (F6.out.below hb)
          have T7 := Lib.hid (T6.out.trans (hb.mono T6.out.size))
          clear hb F6 T6
          have d2 := below_cell T7.out X2.out
          have d3 := below_cell T7.out X3.out
          go_wp2_with fail
          go_roundw
          case rel => exact ⟨i + 1, l, false, true, _, by omega, by go_num, rfl, rfl, by go_num, P.out.stay (by omega) false 0, F7.out, T7.out⟩
          case measure => simp [intOf]; omega
      · rw [hx] at X2
        rw [hy] at c4'
        clear hx hy
        by_cases hz : r = 0
        · subst hz
          have F2 := Lib.hid (F.out.alloc (.cells #[.int .i64 1, .bool false] 27))
          have T2 := Lib.hid (TT.out.alloc TT.out.size (.cells #[.int .i64 1, .bool false] 27))
          have M := Lib.hid (Sm.new wr 1 false)
          have KE := Lib.hid (P.out.step (by omega) false 1 rfl)
          have KS := Lib.hid (stepC B k false 1 false P.out.2.2.1 P.out.2.2.2.1 (by have := P.out.2.2.2.2.1; omega) (by have := P.out.2.2.2.2.1; omega) _ F2.out)
          rw [KE.out] at KS
          have m0 := M.out.cells.1
          have m1 := M.out.cells.2.1
          go_wp2_with fail
          refine KS.out.mono ?_
          rintro e w5 ⟨rfl, H5, hb⟩
          have F5 := Lib.hid H5
          have T5 := Lib.hid (T2.out.trans (hb.below SB.out T2.out.size))
          clear H5 hb m0 m1
          go_wp2_with fail
          refine (openC B _ _ F5.out).mono ?_
          rintro e w6 ⟨he, hb⟩
          rw [show CK.op ⟨(d : Int) + 1, (b : Int) + 1, false, sinceOf k false, 0, 1, false, false, false⟩ = false from by unfold CK.op; simp] at he
          subst he
          have F6 := Lib.hid (F5.out.below hb)
          have T6 := Lib.hid (T5.out.trans (hb.mono T5.out.size))
          clear hb F5 T5
          go_wp2_with fail
          refine (jamC B _ _ F6.out).mono ?_
          rintro e w7 ⟨he, hb⟩
          subst he
          have F7 := Lib.hid (F6.out.below hb)
          have T7 := Lib.hid (T6.out.trans (hb.mono T6.out.size))
          clear hb F6 T6
          have d2 := below_cell T7.out X2.out
          have d3 := below_cell T7.out X3.out
          go_wp2_with fail
          refine (N3.out _).mono ?_
          rintro e w8 ⟨rfl, rfl⟩
          go_wp2_with fail
          go_roundw
          case rel => exact ⟨i + 1, 0, true, true, _, by omega, by go_num, rfl, rfl, rfl, P.out.follow (by omega) false 1 true, F7.out, T7.out⟩
          case measure => simp [intOf]; omega
        · obtain ⟨r, rfl⟩ : ∃ m, r = m + 1 := ⟨r - 1, by omega⟩
          have F2 := Lib.hid (F.out.alloc (.cells #[.int .i64 1, .bool false] 27))
          have T2 := Lib.hid (TT.out.alloc TT.out.size (.cells #[.int .i64 1, .bool false] 27))
          have M := Lib.hid (Sm.new wr 1 false)
          have KE := Lib.hid (P.out.step (by omega) false 1 rfl)
          have KS := Lib.hid (stepC B k false 1 false P.out.2.2.1 P.out.2.2.2.1 (by have := P.out.2.2.2.2.1; omega) (by have := P.out.2.2.2.2.1; omega) _ F2.out)
          rw [KE.out] at KS
          have m0 := M.out.cells.1
          have m1 := M.out.cells.2.1
          go_wp2_with fail
          refine KS.out.mono ?_
          rintro e w5 ⟨rfl, H5, hb⟩
          have F5 := Lib.hid H5
          have T5 := Lib.hid (T2.out.trans (hb.below SB.out T2.out.size))
          clear H5 hb m0 m1
          go_wp2_with fail
          refine (openC B _ _ F5.out).mono ?_
          rintro e w6 ⟨he, hb⟩
          rw [show CK.op ⟨(d : Int) + 1, (b : Int) + 1, false, sinceOf k false, 0, 1, false, false, false⟩ = false from by unfold CK.op; simp] at he
          subst he
          have F6 := Lib.hid (F5.out.below hb)
          have T6 := Lib.hid (T5.out.trans (hb.mono T5.out.size))
          clear hb F5 T5
          go_wp2_with fail
          refine (jamC B _ _ F6.out).mono ?_
          rintro e w7 ⟨he, hb⟩
          subst he
          have F7 := Lib.hid (F6.out.below hb)
          have T7 := Lib.hid (T6.out.trans (hb.mono T6.out.size))
          clear hb F6 T6
          have d2 := below_cell T7.out X2.out
          have d3 := below_cell T7.out X3.out
          go_wp2_with fail
          refine (N3.out _).mono ?_
          rintro e w8 ⟨rfl, rfl⟩
          go_wp2_with fail
          go_roundw
          case rel => exact ⟨i + 1, r, true, true, _, by omega, by go_num, rfl, rfl, by go_num, P.out.turn false 1 true (by decide) r (by omega), F7.out, T7.out⟩
          case measure => simp [intOf]; omega
      · rw [hx] at X2
        rw [hy] at c4'
        clear hx hy
        by_cases hz : l = 0
        · subst hz
          have F2 := Lib.hid (F.out.alloc (.cells #[.int .i64 1, .bool false] 27))
          have T2 := Lib.hid (TT.out.alloc TT.out.size (.cells #[.int .i64 1, .bool false] 27))
          have M := Lib.hid (Sm.new wr 1 false)
          have KE := Lib.hid (P.out.step (by omega) false 1 rfl)
          have KS := Lib.hid (stepC B k true 1 false P.out.2.2.1 P.out.2.2.2.1 (by have := P.out.2.2.2.2.1; omega) (by have := P.out.2.2.2.2.1; omega) _ F2.out)
          rw [KE.out] at KS
          have m0 := M.out.cells.1
          have m1 := M.out.cells.2.1
          go_wp2_with fail
          refine KS.out.mono ?_
          rintro e w5 ⟨rfl, H5, hb⟩
          have F5 := Lib.hid H5
          have T5 := Lib.hid (T2.out.trans (hb.below SB.out T2.out.size))
          clear H5 hb m0 m1
          go_wp2_with fail
          refine (openC B _ _ F5.out).mono ?_
          rintro e w6 ⟨he, hb⟩
          rw [show CK.op ⟨(d : Int) + 1, (b : Int) + 1, true, sinceOf k true, 0, 1, false, false, false⟩ = false from rfl] at he
          subst he
          have F6 := Lib.hid (F5.out.below hb)
          have T6 := Lib.hid (T5.out.trans (hb.mono T5.out.size))
          clear hb F5 T5
          go_wp2_with fail
          refine (jamC B _ _ F6.out).mono ?_
          rintro e w7 ⟨he, hb⟩
          subst he
          have F7 := Lib.hid (F6.out.below hb)
          have T7 := Lib.hid (T6.out.trans (hb.mono T6.out.size))
          clear hb F6 T6
          have d2 := below_cell T7.out X2.out
          have d3 := below_cell T7.out X3.out
          go_wp2_with fail
          go_roundw
          case rel => exact ⟨i + 1, 0, true, true, _, by omega, by go_num, rfl, rfl, rfl, P.out.follow (by omega) false 1 true, F7.out, T7.out⟩
          case measure => simp [intOf]; omega
        · obtain ⟨l, rfl⟩ : ∃ m, l = m + 1 := ⟨l - 1, by omega⟩
          have F2 := Lib.hid (F.out.alloc (.cells #[.int .i64 1, .bool false] 27))
          have T2 := Lib.hid (TT.out.alloc TT.out.size (.cells #[.int .i64 1, .bool false] 27))
          have M := Lib.hid (Sm.new wr 1 false)
          have KE := Lib.hid (P.out.step (by omega) false 1 rfl)
          have KS := Lib.hid (stepC B k true 1 false P.out.2.2.1 P.out.2.2.2.1 (by have := P.out.2.2.2.2.1; omega) (by have := P.out.2.2.2.2.1; omega) _ F2.out)
          rw [KE.out] at KS
          have m0 := M.out.cells.1
          have m1 := M.out.cells.2.1
          go_wp2_with fail
          refine KS.out.mono ?_
          rintro e w5 ⟨rfl, H5, hb⟩
          have F5 := Lib.hid H5
          have T5 := Lib.hid (T2.out.trans (hb.below SB.out T2.out.size))
          clear H5 hb m0 m1
          go_wp2_with fail
          refine (openC B _ _ F5.out).mono ?_
          rintro e w6 ⟨he, hb⟩
          rw [show CK.op ⟨(d : Int) + 1, (b : Int) + 1, true, sinceOf k true, 0, 1, false, false, false⟩ = false from rfl] at he
          subst he
          have F6 := Lib.hid (F5.out.below hb)
          have T6 := Lib.hid (T5.out.trans (hb.mono T5.out.size))
          clear hb F5 T5
          go_wp2_with fail
          refine (jamC B _ _ F6.out).mono ?_
          rintro e w7 ⟨he, hb⟩
          subst he
          have F7 := Lib.hid (F6.out.below hb)
          have T7 := Lib.hid (T6.out.trans (hb.mono T6.out.size))
          clear hb F6 T6
          have d2 := below_cell T7.out X2.out
          have d3 := below_cell T7.out X3.out
          go_wp2_with fail
          go_roundw
          case rel => exact ⟨i + 1, l, true, true, _, by omega, by go_num, rfl, rfl, by go_num, P.out.stay (by omega) false 1, F7.out, T7.out⟩
          case measure => simp [intOf]; omega
    · go_wp2_with fail
      go_ret
      exact ⟨rfl, TT.out⟩
end Go.Proofs.Ytbgjfcnaiahehaa
