/- FreshPlays holds: each call returns true. Conditions: the arguments are numbers of 64 bits and a slice of things to do. -/
import Derived.Test.YtakdoagigbjngaaFrD
import Derived.Test.YtakdoagigbjngaaPh
import Derived.Test.YtakdoagigbjngaaFlat
import Derived.BigQuiet
namespace Go.Proofs.Ytakdoagigbjngaa
open Go.RowKit
set_option linter.unusedVariables false
/-- A bank as it comes to be: no value without a sample, no age past its bound. -/
structure Sane (f : Nat → Smp) : Prop where
  z : ∀ k, k < 48 → (f k).there = false → (f k).v = 0
  a : ∀ k, k < 48 → 0 ≤ (f k).age ∧ (f k).age ≤ 1000
theorem Sane.zero : Sane fun _ => ⟨false, 0, 0, 0⟩ := ⟨fun _ _ _ => rfl, fun _ _ => ⟨show (0 : Int) ≤ 0 by omega, show (0 : Int) ≤ 1000 by omega⟩⟩
theorem Sane.put {f : Nat → Smp} (h : Sane f) (ch s v : Int) : Sane (fPut f ch s v) := by
  unfold fPut
  split
  · unfold putF
    split
    · refine ⟨fun k hk hz => ?_, fun k hk => ?_⟩
      · unfold upd at *
        split at hz
        · cases hz
        · rename_i hn; rw [if_neg hn]; exact h.z k hk hz
      · unfold upd
        split
        · exact ⟨show (0 : Int) ≤ 0 by omega, show (0 : Int) ≤ 1000 by omega⟩
        · exact h.a k hk
    · exact h
  · exact h
theorem Sane.tick {f : Nat → Smp} (h : Sane f) : Sane (tickTo f 48) := by
  refine ⟨fun k hk hz => ?_, fun k hk => ?_⟩
  · unfold tickTo aged at *
    rw [if_pos hk] at *
    exact h.z k hk hz
  · have := h.a k hk
    unfold tickTo aged
    rw [if_pos hk]
    simp only
    omega
theorem four_of {z : List Value} (h : oks [.int .i64, .int .i64, .int .u8, .int .i64] z) : ∃ a b c d : Int, z = [.int .i64 a, .int .i64 b, .int .u8 c, .int .i64 d] := by
  obtain ⟨_, _, rfl, ⟨a, rfl, _⟩, h1⟩ := oks_cons h
  obtain ⟨_, _, rfl, ⟨b, rfl, _⟩, h2⟩ := oks_cons h1
  obtain ⟨_, _, rfl, ⟨c, rfl, _⟩, h3⟩ := oks_cons h2
  obtain ⟨_, _, rfl, ⟨d, rfl, _⟩, h4⟩ := oks_cons h3
  obtain rfl := oks_nil h4
  exact ⟨a, b, c, d, rfl⟩
theorem four_at {w wr : World} {x : Addr} {o : Nat} {a b c d : Int} (hx : ∀ (j : Nat) u, [Value.int .i64 a, .int .i64 b, .int .u8 c, .int .i64 d][j]? = some u → w.cell? (x.add (o + j)) = some u) (hb : Below w.heap.size w wr) :
    wr.cell? (x.add o) = some (.int .i64 a) ∧ wr.cell? ⟨(x.add o).block, (x.add o).off + 1, none⟩ = some (.int .i64 b) ∧ wr.cell? ⟨(x.add o).block, (x.add o).off + 2, none⟩ = some (.int .u8 c) ∧ wr.cell? ⟨(x.add o).block, (x.add o).off + 3, none⟩ = some (.int .i64 d) :=
  ⟨below_cell hb (hx 0 _ rfl),
   (show wr.cell? ((x.add o).add 1) = some (.int .i64 b) by rw [Addr.add_add]; exact below_cell hb (hx 1 _ rfl)),
   (show wr.cell? ((x.add o).add 2) = some (.int .u8 c) by rw [Addr.add_add]; exact below_cell hb (hx 2 _ rfl)),
   (show wr.cell? ((x.add o).add 3) = some (.int .i64 d) by rw [Addr.add_add]; exact below_cell hb (hx 3 _ rfl))⟩
/-- The two banks, and all that was there. -/
structure BW (B X : Nat) (st : Int) (f : Nat → Smp) (w wr : World) : Prop where
  bk : Bk wr B st f
  rb : Rb wr X st f
  lo : Below w.heap.size w wr
  ne : X ≠ B
  nb : w.heap.size ≤ B
  nx : w.heap.size ≤ X
  sane : Sane f
theorem BW.below {B X : Nat} {st : Int} {f : Nat → Smp} {w wr w' : World} (h : BW B X st f w wr) (hb : Below wr.heap.size wr w') : BW B X st f w w' :=
  ⟨h.bk.below hb h.bk.lt, h.rb.below hb h.rb.lt, h.lo.trans (hb.mono h.lo.size), h.ne, h.nb, h.nx, h.sane⟩
theorem two_pickR {D : Bool → Bool → World → Prop} {R : World → Prop} {w0 : World} (h : ∀ b c w, D b c w → R w) : ∀ b c w, D b c w → ∃ d, w = pickE R w0 d :=
  fun b c w hd => ⟨w, by unfold pickE; rw [if_pos (h b c w hd)]⟩
/-- What is asked for. -/
def Ask (wx : World) (Z : Nat) (p q : Int) : Prop := ∃ t, wx.heap[Z]? = some (.cells #[.int .i64 p, .int .i64 q, .int .i64 29] t (0, 0))
def askI (p q : Int) (j : Nat) : Int := if j = 0 then p else if j = 1 then q else 29
theorem Ask.at {wx : World} {Z : Nat} {p q : Int} (h : Ask wx Z p q) (j : Nat) (hj : j < 3) : wx.cell? ⟨Z, j, none⟩ = some (.int .i64 (askI p q j)) := by
  obtain ⟨t, h⟩ := h
  match j, hj with
  | 0, _ => exact cell_of_row wx Z 0 _ _ _ h
  | 1, _ => exact cell_of_row wx Z 1 _ _ _ h
  | 2, _ => exact cell_of_row wx Z 2 _ _ _ h
  | j + 3, hj => omega
theorem Ask.below {wx w' : World} {Z : Nat} {p q : Int} (h : Ask wx Z p q) (hb : Below wx.heap.size wx w') : Ask w' Z p q := by
  obtain ⟨t, h⟩ := h
  exact ⟨t, (hb.block Z (Array.getElem?_eq_some_iff.1 h).1).trans h⟩
/-- On the way through the two puts. -/
def TwoD (B X : Nat) (st : Int) (f f' : Nat → Smp) (w : World) (b c : Bool) (wx : World) : Prop := Bk wx B st (if b = true then f' else f) ∧ Rb wx X st (if c = true then f' else f) ∧ Below w.heap.size w wx
theorem TwoD.put1 {B X : Nat} {st : Int} {f : Nat → Smp} {w : World} {ch s v : Int} {c : Bool} {wx : World} (hn : X ≠ B) (hb : w.heap.size ≤ B) (h : TwoD B X st f (fPut f ch s v) w false c wx) :
    Calls Try.prog 8 #[.pointer (some ⟨B, 0, none⟩), .int .i64 ch, .int .u8 s, .int .i64 v] wx fun e w' => e = .returned (.bool (bPut f ch s)) ∧ TwoD B X st f (fPut f ch s v) w true c w' :=
  (putG B st f ch s v wx h.1).mono fun e w' h' => ⟨h'.1, h'.2.1, h.2.1.only h'.2.2 hn, h.2.2.trans (h'.2.2.below hb h.2.2.size)⟩
theorem TwoD.put2 {B X : Nat} {st : Int} {f : Nat → Smp} {w : World} {ch s v : Int} {b : Bool} {wx : World} (hn : X ≠ B) (hb : w.heap.size ≤ X) (h : TwoD B X st f (fPut f ch s v) w b false wx) :
    Calls Try.prog 9 #[.pointer (some ⟨X, 0, none⟩), .int .i64 ch, .int .u8 s, .int .i64 v] wx fun e w' => e = .returned (.bool (bPut f ch s)) ∧ TwoD B X st f (fPut f ch s v) w b true w' :=
  (rPut X st f ch s v wx h.2.1).mono fun e w' h' => ⟨h'.1, h.1.only h'.2.2 (Ne.symm hn), h'.2.1, h.2.2.trans (h'.2.2.below hb h.2.2.size)⟩
set_option maxRecDepth 100000 in
set_option maxHeartbeats 8000000 in
theorem walkFreshPlays (a0 : Int) (a1 : Option Addr) (len1 cap1 : Nat) (z1 : Nat → List Value) (a2 : Int) (w : World) (w0 : (Lit.int .i64 a0).wf = true) (w1 : CameS [.int .i64, .int .i64, .int .u8, .int .i64] w a1 len1 cap1 z1) (w2 : (Lit.int .i64 a2).wf = true) :
    Calls Try.prog 3 #[.int .i64 a0, .slice a1 len1 cap1, .int .i64 a2] w fun e w' => e = .returned (.bool true) ∧ Below w.heap.size w w' := by
  have C1 := Lib.hid fun i hi => w1.at i hi
  clear w0 w1 w2
  by_cases h1 : 120 < len1
  · go_enter Try.func3, Try.ntmps3
    go_wp2_with fail
    refine (first10 _).mono ?_
    rintro e w0 ⟨rfl, hb0⟩
    have T0 := Lib.hid hb0
    clear hb0
    go_wp2_with fail
    go_ret
    exact ⟨rfl, T0.out⟩
  go_enter Try.func3, Try.ntmps3
  go_wp2_with fail
  refine (first10 _).mono ?_
  rintro e w0 ⟨rfl, hb0⟩
  have T0 := Lib.hid hb0
  clear hb0
  go_wp2_with fail
  refine (newC a0 _).mono ?_
  rintro e w1 ⟨rfl, H1, hb⟩
  have F1 := Lib.hid H1
  have T1 := Lib.hid (T0.out.trans (hb.mono T0.out.size))
  have SB := Lib.hid T0.out.size
  clear H1 hb T0
  generalize w0.heap.size = B at *
  have LB := Lib.hid F1.out.lt
  go_wp2_with fail
  refine (rNewB a0 _).mono ?_
  rintro e w3 ⟨rfl, H1, hb⟩
  have T2 := Lib.hid (show BW B w1.heap.size (max (min a0 1000) 0) (fun _ => ⟨false, 0, 0, 0⟩) w w3 from ⟨F1.out.below hb F1.out.lt, H1, T1.out.trans (hb.mono T1.out.size), Nat.ne_of_gt LB.out, SB.out, T1.out.size, Sane.zero⟩)
  clear H1 hb T1 F1 SB LB
  generalize w1.heap.size = X at *
  generalize max (min a0 1000) 0 = st at *
  go_wp2_with fail
  go_loopw [10] (fun v wr => ∃ i : Nat, ∃ f : Nat → Smp, i ≤ len1 ∧ v = .int .i64 i ∧ BW B X st f w wr) (fun v _ => len1 - (intOf v).toNat)
  case atStart => exact ⟨0, _, by omega, rfl, T2.out⟩
  case round =>
    obtain ⟨i, f, hi, rfl, hf⟩ := hrel
    clear T2
    have F := Lib.hid hf
    clear hf
    by_cases hl : i < len1
    · obtain ⟨x1, rfl, hz, hx⟩ := C1.out i hl
      obtain ⟨ka, kb, kc, kd, hvf⟩ := four_of hz
      rw [hvf] at hx
      have HX := Lib.hid (show ∀ (j : Nat) u, [Value.int .i64 ka, .int .i64 kb, .int .u8 kc, .int .i64 kd][j]? = some u → w.cell? (x1.add (i * 4 + j)) = some u from hx)
      clear hx hz hvf C1
      obtain ⟨e0, e1, e2, e3⟩ := four_at HX.out F.out.lo
      go_upto_if 40 with fail
      go_cut [40] (fun _ wx => ∃ f' : Nat → Smp, BW B X st f' w wx)
      case first =>
        by_cases hk : ka = 1
        · subst hk
          clear e0 e1 e2 e3
          go_upto_region 14 with fail
          obtain ⟨R, hR1, hR2⟩ : ∃ R : World → Prop, (∀ b c w', TwoD B X st f (fPut f kb kc kd) w b c w' → R w') ∧ (∀ w', R w' → Below w.heap.size w w') := ⟨fun w' => Below w.heap.size w w', fun b c w' h => h.2.2, fun w' h => h⟩
          have LO := fun d => pick_ind (R := R) (M := fun wx => Below w.heap.size w wx) (w0 := wr) F.out.lo hR2 d
          have HR := Lib.hid hR1
          clear hR1 hR2
          have e0 := fun d => (four_at HX.out (LO d)).1
          have e1 := fun d => (four_at HX.out (LO d)).2.1
          have e2 := fun d => (four_at HX.out (LO d)).2.2.1
          have e3 := fun d => (four_at HX.out (LO d)).2.2.2
          have EP : (bPut f kb kc != bPut f kb kc) = false := by cases bPut f kb kc <;> rfl
          clear LO
          refine wp_region_ph2 16 33 (TwoD B X st f (fPut f kb kc kd) w) (by kernel_rfl) (by kernel_rfl) (by kernel_rfl) (by kernel_rfl) ⟨F.out.bk.drew, ⟨F.out.rb.row⟩, F.out.lo.drew⟩ ?_
          iterate 16 (refine ph_val (two_pickR (w0 := wr) HR.out) (by kernel_rfl) (by kernel_rfl) (by kernel_rfl) (by kernel_rfl) ?_; intro K hK; go_big_quiet_op; go_big_quiet_on)
          refine ph_w1 (.bool (bPut f kb kc)) (by kernel_rfl) (by kernel_rfl) (by kernel_rfl) (by kernel_rfl) (fun c' w' hw' => ?_) ?_
          · exact phAt_call Try.func8 (by kernel_rfl) (by kernel_rfl) #[.pointer (some ⟨B, 0, none⟩), .int .i64 kb, .int .u8 kc, .int .i64 kd] (by kernel_rfl) (TwoD.put1 F.out.ne F.out.nb hw')
          simp only [Act.put, List.setIfInBounds_toArray, List.set_cons_succ, List.set_cons_zero]
          iterate 16 (refine ph_val (two_pickR (w0 := wr) HR.out) (by kernel_rfl) (by kernel_rfl) (by kernel_rfl) (by kernel_rfl) ?_; intro K hK; go_big_quiet_op; go_big_quiet_on)
          refine ph_w2 (.bool (bPut f kb kc)) (by kernel_rfl) (by kernel_rfl) (by kernel_rfl) (by kernel_rfl) (fun c' w' hw' => ?_) ?_
          · exact phAt_call Try.func9 (by kernel_rfl) (by kernel_rfl) #[.pointer (some ⟨X, 0, none⟩), .int .i64 kb, .int .u8 kc, .int .i64 kd] (by kernel_rfl) (TwoD.put2 F.out.ne F.out.nx hw')
          simp only [Act.put, List.setIfInBounds_toArray, List.set_cons_succ, List.set_cons_zero]
          iterate 1 (refine ph_val (two_pickR (w0 := wr) HR.out) (by kernel_rfl) (by kernel_rfl) (by kernel_rfl) (by kernel_rfl) ?_; intro K hK; go_big_quiet_op; go_big_quiet_on)
          refine ph_end ?_
          intro w' hw'
          have G := Lib.hid (show BW B X st (fPut f kb kc kd) w w' from ⟨hw'.1, hw'.2.1, hw'.2.2, F.out.ne, F.out.nb, F.out.nx, F.out.sane.put _ _ _⟩)
          clear hw' e0 e1 e2 e3 HR
          go_wp2_with fail
          go_meet
          exact ⟨_, G.out⟩
        · have hk' : decide (ka = 1) = false := decide_eq_false hk
          go_wp2_with fail
          refine (tickC B st f F.out.sane.a _ F.out.bk).mono ?_
          rintro e w5 ⟨rfl, hC, hO⟩
          have G1 := Lib.hid hC
          have G2 := Lib.hid (F.out.rb.only hO F.out.ne)
          have G3 := Lib.hid (F.out.lo.trans (hO.below F.out.nb F.out.lo.size))
          clear hC hO
          go_wp2_with fail
          refine (rTick X st f F.out.sane.a _ G2.out).mono ?_
          rintro e w6 ⟨rfl, hC, hO⟩
          have G4 := Lib.hid (show BW B X st (tickTo f 48) w w6 from ⟨G1.out.only hO (Ne.symm F.out.ne), hC, G3.out.trans (hO.below F.out.nx G3.out.size), F.out.ne, F.out.nb, F.out.nx, F.out.sane.tick⟩)
          clear hC hO
          go_wp2_with fail
          go_meet
          exact ⟨_, G4.out⟩
      case rest =>
      clear F e0 e1 e2 e3
      obtain ⟨f', hf⟩ := hcut
      have F := Lib.hid hf
      clear hf
      generalize f' = f at *
      obtain ⟨e0, e1, e2, e3⟩ := four_at HX.out F.out.lo
      go_wp2_with fail
      generalize hW : World.alloc wc _ = W0
      have P0 : Ask W0 wc.heap.size a2 kb := by rw [← hW]; exact ⟨_, heap_alloc_new _ _⟩
      have Q0 : BW B X st f w W0 := by rw [← hW]; exact F.out.below ((Below.refl _ _).alloc (Nat.le_refl _) _)
      have P := Lib.hid P0
      have Q := Lib.hid Q0
      clear hW F e0 e1 e2 e3 P0 Q0
      generalize wc.heap.size = Z at *
      go_loopw [12] (fun v wx => ∃ j : Nat, j ≤ 3 ∧ v = .int .i64 j ∧ BW B X st f w wx ∧ Ask wx Z a2 kb) (fun v _ => 3 - (intOf v).toNat)
      case atStart => exact ⟨0, by omega, rfl, Q.out, P.out⟩
      case round =>
        obtain ⟨j, hj, rfl, hf, ha⟩ := hrel
        clear P Q
        have F := Lib.hid hf
        have A := Lib.hid ha
        clear hf ha
        by_cases hl3 : j < 3
        · have HA := Lib.hid fun (wx : World) (h : Ask wx Z a2 kb) => h.at j hl3
          generalize askI a2 kb j = ch at *
          have e0 := HA.out _ A.out
          have K1 := Lib.hid fun (wx : World) (h : Bk wx B st f) => getG B st f ch wx h
          have K2 := Lib.hid fun (wx : World) (h : Rb wx X st f) => rGet X st f ch F.out.sane.z wx h
          have K3 := Lib.hid fun (wx : World) (h : Bk wx B st f) => ageG B st f ch wx h
          have K4 := Lib.hid fun (wx : World) (h : Rb wx X st f) => rAge X st f ch wx h
          generalize vGet f ch = vv at *
          generalize fGet st f ch = ff at *
          generalize aGet f ch = aa at *
          go_wp2_with fail
          refine (K1.out _ F.out.bk).mono ?_
          rintro e w5 ⟨rfl, hb⟩
          have F5 := Lib.hid (F.out.below hb)
          have A5 := Lib.hid (A.out.below hb)
          clear hb F A e0
          have e0 := HA.out _ A5.out
          go_wp2_with fail
          refine (K2.out _ F5.out.rb).mono ?_
          rintro e w6 ⟨rfl, hb⟩
          have F6 := Lib.hid (F5.out.below hb)
          have A6 := Lib.hid (A5.out.below hb)
          clear hb F5 A5 e0
          go_upto_region 24 with fail
          generalize hW : World.alloc w6 _ = W
          have hrow : W.heap[w6.heap.size]? = some (.cells #[.int .i64 vv, .bool ff] 35 (0, 0)) := by rw [← hW]; exact heap_alloc_new _ _
          have hb6 : Below w6.heap.size w6 W := by rw [← hW]; exact (Below.refl _ _).alloc (Nat.le_refl _) _
          have F7 := Lib.hid (F6.out.below hb6)
          have A7 := Lib.hid (A6.out.below hb6)
          have FR := Lib.hid fun d => F7.out.below (reach_below W.heap.size W d)
          have y0 := fun d => HA.out _ (A7.out.below (reach_below W.heap.size W d))
          have l6 := (Array.getElem?_eq_some_iff.1 hrow).1
          have z0 : ∀ d, (reach W.heap.size W d).cell? ⟨w6.heap.size, 0, none⟩ = some (.int .i64 vv) := fun d => reach_cell (cell_of_row _ _ 0 _ _ _ hrow) l6 d
          have z1 : ∀ d, (reach W.heap.size W d).cell? ⟨w6.heap.size, 1, none⟩ = some (.bool ff) := fun d => reach_cell (cell_of_row _ _ 1 _ _ _ hrow) l6 d
          have EV : (vv != vv) = false := by simp
          have EF : (ff != ff) = false := by cases ff <;> rfl
          have EA : (aa != aa) = false := by simp
          clear hW hrow hb6 F6 A6 l6 HA
          refine wp_region_reach W.heap.size (by kernel_rfl) (by kernel_rfl) ?_
          repeat (go_big_quiet_step ((first | (go_at_call 14; with_reducible exact reach_call (Nat.le_refl _) (K3.out _ (FR.out _).bk)) | (go_at_call 15; with_reducible exact reach_call0 (K4.out _ (FR.out _).rb)))))
          refine wpQuiet_nil ?_
          rintro w' ⟨d, rfl⟩
          clear y0 z0 z1
          go_wp2_with fail
          go_roundw
          case rel => exact ⟨j + 1, by omega, by go_num, FR.out d, A7.out.below (reach_below W.heap.size W d)⟩
          case measure => simp [intOf]; omega
        · go_wp2_with fail
          go_roundw
          case rel => exact ⟨i + 1, f, by omega, by go_num, F.out⟩
          case measure => simp [intOf]; omega
    · go_wp2_with fail
      go_ret
      exact ⟨rfl, F.out.lo⟩
end Go.Proofs.Ytakdoagigbjngaa
