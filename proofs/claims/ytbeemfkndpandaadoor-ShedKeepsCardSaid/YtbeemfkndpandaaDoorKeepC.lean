/- Whatever is wanted, cycle by cycle: which feeders are on is what the document's keeper says. Conditions: the table of ends lies as the text lays it. -/
import Derived.Test.YtbeemfkndpandaaDoorKeepB
import Derived.Test.YtbeemfkndpandaaDoorPh3
import Derived.Test.YtbeemfkndpandaaDoorShedF
namespace Go.Proofs.YtbeemfkndpandaaDoor
open Go Go.RowKit
set_option linter.unusedVariables false
set_option maxRecDepth 20000
theorem wpList_build_k {P : Program} {ops : Array Oper} {rest : List Oper} {o : Oper} {a : Act} {w : World} {Q : Exit → Act → World → Prop} (hg : o.guard = none) (t : TypeId) (parts : Array (Nat × Operand)) (ho : o.op = .build t parts)
    (cells : Array Value) (hf : P.built t (parts.map fun (i, x) => (i, a.eval x)).toList = some cells)
    (h : wpList P ops Q rest (a.put o.dst (.agg cells)) w) : wpList P ops Q (o :: rest) a w :=
  wpList_build hg t parts ho (by rw [hf]; rfl) (by rw [hf]; exact h)
/-- A keeper of the document's, none on. -/
def krA (c : CG) (oc fe : Value) : Array Value := cgA c oc fe ++ #[.int .i64 0, .int .i64 0, .int .i64 0, .int .i64 0, .int .i64 0, .int .i64 0, .int .i64 0, .int .i64 0, .int .i64 0, .int .i64 0, .int .i64 0, .int .i64 0, .int .i64 0, .int .i64 0, .int .i64 0, .int .i64 0, .int .i64 0]
theorem Kr.new {c : CG} {oc fe : Value} {H : Nat} (hH : c.H = (H : Int)) (w : World) (t : TypeId) : Kr (w.alloc (.cells (krA c oc fe) t)) w.heap.size H fe (fun _ => 0) 0 := by
  refine ⟨krA c oc fe, t, heap_alloc_new w _, by kernel_rfl, ?_, by kernel_rfl, by kernel_rfl, fun j hj => ?_⟩
  · rw [← hH]; kernel_rfl
  · rcases (show j = 0 ∨ j = 1 ∨ j = 2 ∨ j = 3 ∨ j = 4 ∨ j = 5 ∨ j = 6 ∨ j = 7 ∨ j = 8 ∨ j = 9 ∨ j = 10 ∨ j = 11 ∨ j = 12 ∨ j = 13 ∨ j = 14 ∨ j = 15 by omega) with rfl | rfl | rfl | rfl | rfl | rfl | rfl | rfl | rfl | rfl | rfl | rfl | rfl | rfl | rfl | rfl <;> kernel_rfl
theorem Kr.only {w w' : World} {R V H : Nat} {fe : Value} {N : Nat → Nat} {on : Int} (h : Kr w R H fe N on) (hb : Only V w w') (hn : R ≠ V) : Kr w' R H fe N on := by
  obtain ⟨A, t, h1, h2⟩ := h.row
  exact ⟨A, t, hb.row h1 hn, h2⟩
theorem Kpr.only {w w' : World} {K V R need n : Nat} {L : List Nat} (h : Kpr w K V need n L) (hb : Only R w w') (h1 : K ≠ R) (h2 : V ≠ R) : Kpr w' K V need n L :=
  ⟨hb.row h.row h1, hb.row h.cnt h2, h.len, h.ne⟩
/-- Both keepers, L and L' cycles counted. -/
structure KD (w0 : World) (K V R H n : Nat) (fe : Value) (L L' : List Nat) (wx : World) : Prop where
  kp : Kpr wx K V H n L
  kr : ∃ N, Cnt H n L' N ∧ Kr wx R H fe N (onV H L' n)
  lo : Below w0.heap.size w0 wx
def TwoK (w0 : World) (K V R H n : Nat) (fe : Value) (L L' : List Nat) (b c : Bool) (wx : World) : Prop := KD w0 K V R H n fe (if b = true then L' else L) (if c = true then L' else L) wx
theorem KD.step1 {w0 : World} {K V R H n : Nat} {fa : Option Addr} {fc : Nat} {L M : List Nat} {want : Int} {wx : World} (hn : n ≤ 6) (hH : H ≤ 100) (hV : w0.heap.size ≤ V) (hRV : R ≠ V) (hx : ∀ x ∈ L, x ≤ 100000) (h : KD w0 K V R H n (.slice fa n fc) L M wx) :
    Calls Tryd.prog 23 #[.pointer (some ⟨K, 0, none⟩), .int .i64 want] wx fun e w' => e = .returned (.int .i64 (onV H (stpK want H L n) n)) ∧ KD w0 K V R H n (.slice fa n fc) (stpK want H L n) M w' :=
  (stepO K V H n L want hn (by omega) hx wx h.kp).mono fun e w' ⟨L', hL, he, hk, ho⟩ => by
    subst hL
    obtain ⟨N, hN, hr⟩ := h.kr
    exact ⟨he, hk, ⟨N, hN, hr.only ho hRV⟩, h.lo.trans (ho.below hV h.lo.size)⟩
theorem KD.step2 {w0 : World} {K V R H n : Nat} {fa : Option Addr} {fc : Nat} {L M : List Nat} {want : Int} {wx : World} (hn : n ≤ 6) (h1 : 1 ≤ H) (hH : H ≤ 100) (hR : w0.heap.size ≤ R) (hRV : R ≠ V) (hRK : R ≠ K) (hM : M.length = n) (h : KD w0 K V R H n (.slice fa n fc) L M wx) :
    Calls Tryd.prog 24 #[.pointer (some ⟨R, 0, none⟩), .int .i64 want] wx fun e w' => e = .returned (.int .i64 (onV H (stpK want H M n) n)) ∧ KD w0 K V R H n (.slice fa n fc) L (stpK want H M n) w' := by
  obtain ⟨N, hN, hr⟩ := h.kr
  exact (stepR R H n fa fc M N want hn h1 hH hM hN wx hr).mono fun e w' ⟨N', hN', he, hk, ho⟩ =>
    ⟨he, h.kp.only ho hRK.symm hRV.symm, ⟨N', hN', hk⟩, h.lo.trans (ho.below hR h.lo.size)⟩
theorem KD.small {w0 : World} {K V R H n : Nat} {fe : Value} {L : List Nat} {wx : World} (hH : H ≤ 100) (h : KD w0 K V R H n fe L L wx) : ∀ x ∈ L, x ≤ 100000 := by
  obtain ⟨N, hN, _⟩ := h.kr
  intro x hx
  obtain ⟨j, hj, rfl⟩ := List.getElem_of_mem hx
  have := (hN j (by rw [← h.kp.len]; exact hj)).1
  unfold getN at this
  rw [List.getElem?_eq_getElem hj] at this
  simp only [Option.getD_some] at this
  omega
theorem onV_zero (H n : Nat) (h1 : 1 ≤ H) : ∀ i, onV H (List.replicate n 0) i = 0
  | 0 => rfl
  | i + 1 => by
    show (if H ≤ getN (List.replicate n 0) i then orI (onV H (List.replicate n 0) i) i else onV H (List.replicate n 0) i) = 0
    have : getN (List.replicate n 0) i = 0 := by
      unfold getN
      rw [List.getElem?_replicate]
      split <;> rfl
    rw [this, if_neg (by omega), onV_zero H n h1 i]
theorem cnt_zero (H n : Nat) : Cnt H n (List.replicate n 0) (fun _ => 0) := fun j hj => by
  unfold getN
  rw [List.getElem?_replicate]
  split <;> simp
set_option maxHeartbeats 16000000 in
theorem walkShedKeeps (a0 : Int) (a1 : Int) (a2 : Int) (a3 : Option Addr) (len3 cap3 : Nat) (z3 : List Int) (w : World) (w0 : (Lit.int .i64 a0).wf = true) (w1 : (Lit.int .i64 a1).wf = true) (w2 : (Lit.int .i64 a2).wf = true) (w3 : CameI .i64 w a3 len3 cap3 z3) (hT : Tab w) :
    Calls Tryd.prog 4 #[.int .i64 a0, .int .i64 a1, .int .i64 a2, .slice a3 len3 cap3] w fun e w' => e = .returned (.bool true) ∧ Below w.heap.size w w' := by
  have HT := Lib.hid hT
  have C3 := Lib.hid fun i hi => w3.at i hi
  clear w0 w1 w2 w3 hT
  by_cases h3 : 100 < len3
  · go_enter Tryd.func4, Tryd.ntmps4
    go_wp2_with fail
    refine (first25 w HT.out).mono ?_
    rintro e wa ⟨rfl, hba⟩
    have HA := Lib.hid hba
    clear hba
    go_wp2_with fail
    go_ret
    exact ⟨rfl, HA.out⟩
  go_enter Tryd.func4, Tryd.ntmps4
  go_wp2_with fail
  refine (first25 w HT.out).mono ?_
  rintro e wa ⟨rfl, hba⟩
  have HA := Lib.hid hba
  clear hba
  go_wp2_with fail
  refine (configF a0 a1 a2 wa).mono ?_
  rintro e w4 ⟨O, fa, fc, rfl, hO, ho, hf, hb⟩
  have L4 := Lib.hid (HA.out.trans (hb.mono HA.out.size))
  have CC := CB.of (a0 % 1048576) (a1 % 1048576) (a2 % 1048576) (by omega) (by omega) (by omega)
  have hn : (a1 % 1048576 / 20 % 7).toNat ≤ 6 := by omega
  unfold cfgV
  rw [cgA_of]
  clear hb ho hf hO
  generalize (a1 % 1048576 / 20 % 7).toNat = n at *
  obtain ⟨c, hc⟩ : ∃ c, (cfgOf (a0 % 1048576) (a1 % 1048576) (a2 % 1048576)).cg = c := ⟨_, rfl⟩
  rw [hc]
  obtain ⟨H, hH⟩ : ∃ H : Nat, c.H = H := ⟨c.H.toNat, by have := CC.h.1; rw [← hc]; show (cfgOf (a0 % 1048576) (a1 % 1048576) (a2 % 1048576)).H = ((cfgOf (a0 % 1048576) (a1 % 1048576) (a2 % 1048576)).H.toNat : Int); omega⟩
  have hb1 : 1 ≤ H ∧ H ≤ 5 := by
    have := CC.h
    have e : (cfgOf (a0 % 1048576) (a1 % 1048576) (a2 % 1048576)).H = (H : Int) := by rw [← hH, ← hc]; rfl
    rw [e] at this; omega
  clear hc CC
  go_wp2_with fail
  refine upon_fresh (by simp) rfl (by kernel_rfl) ?_
  intro W1 b1 s1 h1
  have R8 := Lib.hid (show Rw W1 w4.heap.size c (.slice (some ⟨O, 0, none⟩) 4 4) (.slice fa n fc) from h1)
  have L1 := Lib.hid (L4.out.trans (b1.mono L4.out.size))
  have hlt := Lib.hid (show w4.heap.size < W1.heap.size by omega)
  clear h1 b1 s1 L4
  go_wp2_with (refine wpList_load_row_g (by kernel_rfl) 31 _ rfl w4.heap.size rfl 31 _ (0, 0) _ R8.out Tryd.underlying31 rfl (by kernel_rfl) ?_)
  refine (newC c H hH hb1.1 (.slice (some ⟨O, 0, none⟩) 4 4) fa n fc hn W1).mono ?_
  rintro e w5 ⟨K, V, rfl, hK, hV, hkp, hb⟩
  have KP := Lib.hid hkp
  have B5 := Lib.hid hb
  have R5 := Lib.hid (R8.out.below hb hlt.out)
  clear hkp hb
  have HHc := Lib.hid hH
  clear hH
  go_wp2_with (first | refine wpList_load_row_g (by kernel_rfl) 31 _ rfl w4.heap.size rfl 31 _ (0, 0) _ R5.out Tryd.underlying31 rfl (by kernel_rfl) ?_ | refine wpList_build_k rfl 43 _ rfl (krA c (.slice (some ⟨O, 0, none⟩) 4 4) (.slice fa n fc)) (by kernel_rfl) ?_)
  have hal := (Below.refl w5.heap.size w5).alloc (Nat.le_refl _) (.cells (krA c (.slice (some ⟨O, 0, none⟩) 4 4) (.slice fa n fc)) 43)
  have hVl : V < w5.heap.size := (Array.getElem?_eq_some_iff.1 KP.out.cnt).1
  have hKl : K < w5.heap.size := (Array.getElem?_eq_some_iff.1 KP.out.row).1
  have FD := Lib.hid (show KD w K V w5.heap.size H n (.slice fa n fc) (List.replicate n 0) (List.replicate n 0) (w5.alloc (.cells (krA c (.slice (some ⟨O, 0, none⟩) 4 4) (.slice fa n fc)) 43)) from
    ⟨KP.out.below hal, ⟨fun _ => 0, cnt_zero H n, by rw [onV_zero H n hb1.1 n]; exact Kr.new HHc.out w5 _⟩, L1.out.trans ((B5.out.trans (hal.mono B5.out.size)).mono L1.out.size)⟩)
  have hRV : w5.heap.size ≠ V := by omega
  have hRK : w5.heap.size ≠ K := by omega
  have hwV : w.heap.size ≤ V := Nat.le_trans L1.out.size hV
  have hwR : w.heap.size ≤ w5.heap.size := by omega
  clear hal KP B5 R5 R8 hlt L1 HHc hK hV HA HT
  generalize World.alloc w5 _ = W6 at *
  generalize w5.heap.size = R at *
  go_loopw [13] (fun v wr => ∃ (i : Nat) (L : List Nat), i ≤ len3 ∧ v = .int .i64 i ∧ KD w K V R H n (.slice fa n fc) L L wr) (fun v _ => len3 - (intOf v).toNat)
  case atStart => exact ⟨0, _, by omega, rfl, FD.out⟩
  case round =>
    obtain ⟨i, L, hi, rfl, hD⟩ := hrel
    have HD := Lib.hid hD
    clear hD FD
    by_cases hl : i < len3
    · have i1 : (i : Int) < (len3 : Int) := by omega
      obtain ⟨x3, rfl, c3⟩ := C3.out i hl
      generalize z3.getD i 0 = z at *
      have HX := Lib.hid (HD.out.small (by omega))
      have HLn := Lib.hid HD.out.kp.len
      obtain ⟨L', hL'⟩ : ∃ L', stpK z H L n = L' := ⟨_, rfl⟩
      have K1 := Lib.hid fun (M : List Nat) (wx : World) (h : KD w K V R H n (.slice fa n fc) L M wx) => KD.step1 (want := z) hn (by omega) hwV hRV HX.out h
      have K2 := Lib.hid fun (M : List Nat) (wx : World) (h : KD w K V R H n (.slice fa n fc) M L wx) => KD.step2 (want := z) hn hb1.1 (by omega) hwR hRV hRK HLn.out h
      rw [hL'] at K1 K2
      clear hL'
      obtain ⟨on, hon⟩ : ∃ on, onV H L' n = on := ⟨_, rfl⟩
      have KO := Lib.hid fun (wx : World) (h : KD w K V R H n (.slice fa n fc) L' L' wx) => onC K V H n L' hn wx h.kp
      rw [hon] at K1 K2 KO
      have EP : (on != on) = false := by simp
      obtain ⟨N, _, hKr⟩ := HD.out.kr
      have LO := fun d => pick_ind (R := fun w' => Below w.heap.size w w') (M := fun wx => Below w.heap.size w wx) (w0 := wr) HD.out.lo (fun w' h => h) d
      have e0 := fun d => below_cell (LO d) c3
      have P43 := fun d => pick_ind (R := fun w' => w'.cell? ⟨R, 43, none⟩ = some (.int .i64 on)) (M := fun w' => w'.cell? ⟨R, 43, none⟩ = some (.int .i64 on)) (w0 := wr.setCell ⟨R, 43, none⟩ (.int .i64 on)) (hKr.setO on).c43 (fun w' h => h) d
      clear LO hKr c3
      go_upto_region 14 with fail
      refine wp_region_ph2 5 11 (TwoK w K V R H n (.slice fa n fc) L L') (by kernel_rfl) (by kernel_rfl) (by kernel_rfl) (by kernel_rfl) ⟨HD.out.kp.below (Below.refl _ _).drew, ?_, HD.out.lo.drew⟩ ?_
      · obtain ⟨M, hM, hr⟩ := HD.out.kr
        exact ⟨M, hM, hr.below (Below.refl _ _).drew hr.lt⟩
      iterate 5 (refine ph_val (pick_twoR (R := fun w' => Below w.heap.size w w') (w0 := wr) (fun b c w' h => h.lo)) (by kernel_rfl) (by kernel_rfl) (by kernel_rfl) (by kernel_rfl) ?_; intro K hK; go_big_quiet_op; go_big_quiet_on)
      refine ph_w1 (.int .i64 on) (by kernel_rfl) (by kernel_rfl) (by kernel_rfl) (by kernel_rfl) (fun c' w' hw' => ?_) ?_
      · exact phAt_call Tryd.func23 (by kernel_rfl) (by kernel_rfl) #[.pointer (some ⟨K, 0, none⟩), .int .i64 z] (by kernel_rfl) (K1.out _ _ hw')
      simp only [Act.put, List.setIfInBounds_toArray, List.set_cons_succ, List.set_cons_zero]
      iterate 5 (refine ph_val (pick_twoR (R := fun w' => Below w.heap.size w w') (w0 := wr) (fun b c w' h => h.lo)) (by kernel_rfl) (by kernel_rfl) (by kernel_rfl) (by kernel_rfl) ?_; intro K hK; go_big_quiet_op; go_big_quiet_on)
      refine ph_w2 (.int .i64 on) (by kernel_rfl) (by kernel_rfl) (by kernel_rfl) (by kernel_rfl) (fun c' w' hw' => ?_) ?_
      · exact phAt_call Tryd.func24 (by kernel_rfl) (by kernel_rfl) #[.pointer (some ⟨R, 0, none⟩), .int .i64 z] (by kernel_rfl) (K2.out _ _ hw')
      simp only [Act.put, List.setIfInBounds_toArray, List.set_cons_succ, List.set_cons_zero]
      iterate 3 (refine ph_val (pick_twoR (R := fun w' => Below w.heap.size w w') (w0 := wr) (fun b c w' h => h.lo)) (by kernel_rfl) (by kernel_rfl) (by kernel_rfl) (by kernel_rfl) ?_; intro K hK; go_big_quiet_op; go_big_quiet_on)
      refine ph_callw 22 22 (.int .i64 on) (by kernel_rfl) (by kernel_rfl) (by kernel_rfl) (by kernel_rfl) (by kernel_rfl) (fun w' hw' => ?_) ?_
      · exact phAt_call Tryd.func25 (by kernel_rfl) (by kernel_rfl) #[.pointer (some ⟨K, 0, none⟩)] (by kernel_rfl) ((KO.out _ hw').mono fun e w'' ⟨h1, h2⟩ => ⟨h1, by subst h2; exact hw'⟩)
      simp only [Act.put, List.setIfInBounds_toArray, List.set_cons_succ, List.set_cons_zero]
      iterate 1 (refine ph_val (pick_twoR (R := fun w' => Below w.heap.size w w') (w0 := wr) (fun b c w' h => h.lo)) (by kernel_rfl) (by kernel_rfl) (by kernel_rfl) (by kernel_rfl) ?_; intro K hK; go_big_quiet_op; go_big_quiet_on)
      refine ph_nil _ ⟨R, 0, none⟩ rfl (by kernel_rfl) (by kernel_rfl) (by kernel_rfl) (by kernel_rfl) ?_
      simp only [Act.put, List.setIfInBounds_toArray, List.set_cons_succ, List.set_cons_zero]
      iterate 1 (refine ph_val (pick_twoR (R := fun w' => Below w.heap.size w w') (w0 := wr) (fun b c w' h => h.lo)) (by kernel_rfl) (by kernel_rfl) (by kernel_rfl) (by kernel_rfl) ?_; intro K hK; go_big_quiet_op; go_big_quiet_on)
      refine ph_valw 22 22 (pick_both (R := fun w' => w'.cell? ⟨R, 43, none⟩ = some (.int .i64 on)) (w0 := wr.setCell ⟨R, 43, none⟩ (.int .i64 on)) (fun w' h => ?_)) (by kernel_rfl) (by kernel_rfl) (by kernel_rfl) (by kernel_rfl) (by kernel_rfl) (by kernel_rfl) ?_
      · obtain ⟨M, _, hr⟩ := h.kr
        rw [← hon]
        exact hr.c43
      intro K hK; go_big_quiet_op; go_big_quiet_on
      iterate 2 (refine ph_val (pick_twoR (R := fun w' => Below w.heap.size w w') (w0 := wr) (fun b c w' h => h.lo)) (by kernel_rfl) (by kernel_rfl) (by kernel_rfl) (by kernel_rfl) ?_; intro K hK; go_big_quiet_op; go_big_quiet_on)
      refine ph_end ?_
      intro w' hw'
      have G := Lib.hid (show KD w K V R H n (.slice fa n fc) L' L' w' from hw')
      clear hw' e0 P43
      go_wp2_with fail
      go_roundw
      case rel => exact ⟨i + 1, _, by omega, by go_num, G.out⟩
      case measure => simp [intOf]; omega
    · obtain rfl : i = len3 := by omega
      go_wp2_with fail
      go_returns
      exact ⟨rfl, HD.out.lo⟩
end Go.Proofs.YtbeemfkndpandaaDoor
