/- A made configuration is one that may be, an empty one is not; the chapter's examples. Conditions: the seven errors lie apart. -/
import Derived.Test.YtbeemfkndpandaaDoorConfC
namespace Go.Proofs.YtbeemfkndpandaaDoor
open Go.RowKit
set_option linter.unusedVariables false
set_option maxRecDepth 20000
theorem inB_true {x lo hi : Int} (h1 : lo ≤ x) (h2 : x ≤ hi) : inB x lo hi = true := by
  unfold inB
  rw [decide_eq_true h1, decide_eq_true h2]; rfl
theorem add0 (O k : Nat) : (⟨O, 0, none⟩ : Addr).add k = ⟨O, k, none⟩ := by
  unfold Addr.add
  by_cases h : k = 0
  · subst h; simp
  · simp [h]
def oxF : Nat → Int
  | 0 => 0
  | 1 => 20000
  | 2 => 80000
  | _ => 100000
def oyF : Nat → Int
  | 0 => 20000
  | 1 => 23000
  | 2 => 25000
  | _ => 28000
theorem Ocv.pts {w : World} {O : Nat} (h : Ocv w O) : PtsG w (some ⟨O, 0, none⟩) 4 oxF oyF := by
  intro i hi
  refine ⟨_, rfl, ?_⟩
  rw [add0]
  have q : ∀ j v, ocvA[j]? = some v → w.cell? ⟨O, j, none⟩ = some v := fun j v hv => (cell_of_row _ _ j _ _ _ h).trans hv
  rcases (show i = 0 ∨ i = 1 ∨ i = 2 ∨ i = 3 by omega) with rfl | rfl | rfl | rfl
  · exact ⟨q 0 _ rfl, q 1 _ rfl⟩
  · exact ⟨q 2 _ rfl, q 3 _ rfl⟩
  · exact ⟨q 4 _ rfl, q 5 _ rfl⟩
  · exact ⟨q 6 _ rfl, q 7 _ rfl⟩
theorem madeTab : TabOk 4 oxF oyF := by
  refine ⟨by omega, by omega, ?_, ?_, ?_, ?_⟩
  · intro i hi
    rcases (show i = 0 ∨ i = 1 ∨ i = 2 ∨ i = 3 by omega) with rfl | rfl | rfl | rfl <;> simp [oxF]
  · intro i hi
    rcases (show i = 0 ∨ i = 1 ∨ i = 2 ∨ i = 3 by omega) with rfl | rfl | rfl | rfl <;> simp [oyF]
  · intro i hi
    rcases (show i = 0 ∨ i = 1 ∨ i = 2 by omega) with rfl | rfl | rfl <;> simp [oxF]
  · intro i hi
    rcases (show i = 0 ∨ i = 1 ∨ i = 2 by omega) with rfl | rfl | rfl <;> simp [oyF]
theorem madeOcv : ocvOk 4 oxF oyF 100000 := ⟨madeTab, rfl, rfl⟩
theorem madeGood (k : Int) (hk : 0 ≤ k) (i : Nat) : goodFed (busI k) (loadI k) (prioI k) i = true := by
  unfold goodFed
  have h1 : inB (busI k i) 4 6 = true := inB_true (by unfold busI; omega) (by unfold busI; omega)
  have h2 : inB (loadI k i) 0 1073741824 = true := inB_true (by unfold loadI; omega) (by unfold loadI; omega)
  have h3 : inB (prioI k i) 0 100 = true := by
    unfold prioI
    generalize (i : Int) * i = s
    exact inB_true (by omega) (by omega)
  rw [h1, h2, h3]; rfl
theorem madeFed (k : Int) (hk : 0 ≤ k) (n : Nat) (hn : n ≤ 16) : fedOk n (busI k) (loadI k) (prioI k) := ⟨hn, fun i _ => madeGood k hk i⟩
/-- The bounds of what dynamomake makes. -/
structure CB (c : CF) : Prop where
  d : 1 ≤ c.D ∧ c.D ≤ 4
  b : 1 ≤ c.B ∧ c.B ≤ 3
  s : 1 ≤ c.S ∧ c.S ≤ 4
  p : 1 ≤ c.P ∧ c.P ≤ 9
  h : 1 ≤ c.H ∧ c.H ≤ 5
  e : 0 ≤ c.err ∧ c.err ≤ 4
  l : 0 ≤ c.eland ∧ c.eland ≤ 7000
  g : 500 ≤ c.margin ∧ c.margin ≤ 2000
theorem CB.of (n m k : Int) (hn : 0 ≤ n) (hm : 0 ≤ m) (hk : 0 ≤ k) : CB (cfgOf n m k) := by
  constructor <;> (simp only [cfgOf]; omega)
theorem okMade {c : CF} (h : CB c) : okL c.cg true true = List.replicate 27 true := by
  obtain ⟨d, b, s, p, hh, e, l, g⟩ := h
  have e1 : inB c.D 1 100 = true := inB_true (by omega) (by omega)
  have e2 : inB c.B 1 100 = true := inB_true (by omega) (by omega)
  have e3 : inB c.S 1 100 = true := inB_true (by omega) (by omega)
  have e4 : inB c.P 1 100 = true := inB_true (by omega) (by omega)
  have e5 : inB c.H 1 100 = true := inB_true (by omega) (by omega)
  have e6 : inB c.err 0 500000 = true := inB_true (by omega) (by omega)
  have e7 : inB c.eland 0 1073741824 = true := inB_true (by omega) (by omega)
  have e8 : inB c.margin 500 1073741824 = true := inB_true (by omega) (by omega)
  simp only [okL, CF.cg, e1, e2, e3, e4, e5, e6, e7, e8]
  rfl
theorem errNil {E : Nat → Addr} {w : World} {v : Value} {p : Bool} {k : Int} (h : ErrIs E w v 0 p k) : v = .nilIface := by
  generalize hc : (0 : Int) = c at h
  cases h with
  | fine => rfl
  | bare k hk => omega
  | placed k hk B n hr => omega
theorem checkMade {E : Nat → Addr} (c : CF) (hc : CB c) (k : Int) (hk : 0 ≤ k) (O : Nat) (fa : Option Addr) (n fc : Nat) (hn : n ≤ 6) (w : World) (he : Ers E w) (ho : Ocv w O) (hf : Feeds w fa n k) :
    Calls Tryd.prog 30 #[.agg (cgA c.cg (.slice (some ⟨O, 0, none⟩) 4 4) (.slice fa n fc))] w fun e w' => e = .returned .nilIface ∧ Below w.heap.size w w' := by
  refine (checkConf c.cg _ 4 4 oxF oyF fa n fc (busI k) (loadI k) (prioI k) true true (by simp; exact madeOcv) (by simp; exact madeFed k hk n (by omega)) (by omega) (by omega) w he ho.pts hf.g).mono ?_
  rintro e w' ⟨v, c1, p1, k1, rfl, hv, hd, hb⟩
  obtain ⟨rfl, rfl, rfl⟩ := hd.same (.fine (fun j hj => by
    rw [okMade hc, List.getElem?_replicate, if_pos hj]; rfl))
  obtain rfl := errNil hv
  exact ⟨rfl, hb⟩
theorem sameA {E : Nat → Addr} {w : World} (h : Ers E w) {b : Nat → Bool} {v : Value} {c c' k k' : Int} {p p' : Bool} (he : ErrIs E w v c p k) (hv : Amiss b c p k) (gv : Amiss b c' p' k') :
    Calls Tryd.prog 29 #[v, .agg #[.int .i64 c', .bool p', .int .i64 k']] w fun e w' => e = .returned (.bool true) ∧ Below w.heap.size w w' := by
  obtain ⟨rfl, rfl, rfl⟩ := hv.same gv
  exact sameC h he
def cg0 : CG := ⟨0, 0, 0, 0, 0, 0, 0, 0, 0, 0, 0, 0, 0, 0, 0, 0, 0, 0, 0, 0, 0, 0, 0, 0, 0⟩
theorem checkNone {E : Nat → Addr} (w : World) (he : Ers E w) :
    Calls Tryd.prog 30 #[.agg (cgA cg0 (.slice none 0 0) (.slice none 0 0))] w fun e w' => ∃ v c1 p1 k1, e = .returned v ∧ ErrIs E w' v c1 p1 k1 ∧ Amiss (fun i => (okL cg0 false true)[i]?.getD false) c1 p1 k1 ∧ Below w.heap.size w w' :=
  checkConf cg0 none 0 0 (fun _ => 0) (fun _ => 0) none 0 0 (fun _ => 0) (fun _ => 0) (fun _ => 0) false true (by simp; intro h; have := h.1.n2; omega) (by simp; exact ⟨by omega, fun i hi => by omega⟩) (by omega) (by omega) w he (fun i hi => by omega) (fun i hi => by omega)
set_option maxHeartbeats 4000000 in
theorem first27 {E : Nat → Addr} (w : World) (he : Ers E w) : Calls Tryd.prog 28 #[] w fun e w' => e = .returned (.bool true) ∧ Below w.heap.size w w' := by
  have HE := Lib.hid he
  clear he
  go_enter Tryd.func28, Tryd.ntmps28
  go_wp2_with fail
  refine (checkNone w HE.out).mono ?_
  rintro e w1 ⟨v, c1, p1, k1, rfl, hv, hd, hb⟩
  have HV := Lib.hid hv
  have HD := Lib.hid hd
  have H1 := Lib.hid (HE.out.below hb)
  have L1 := Lib.hid hb
  clear hv hd hb
  go_wp2_with fail
  refine (placedC 106 1 (by omega) w1).mono ?_
  rintro e w2 ⟨rfl, hb⟩
  have H2 := Lib.hid (H1.out.below hb)
  have V2 := Lib.hid (HV.out.below hb)
  have L2 := Lib.hid (L1.out.trans (hb.mono L1.out.size))
  clear hb
  go_wp2_with fail
  refine (sameA H2.out V2.out HD.out (.bad 0 (by omega) rfl (fun j h => by omega))).mono ?_
  rintro e w3 ⟨rfl, hb⟩
  have H3 := Lib.hid (H2.out.below hb)
  have L3 := Lib.hid (L2.out.trans (hb.mono L2.out.size))
  clear hb
  go_wp2_with fail
  refine (configF 0 0 0 w3).mono ?_
  rintro e w4 ⟨O, fa, fc, rfl, hO, ho, hf, hb⟩
  have C4 := Lib.hid (checkMade (cfgOf 0 0 0) (CB.of 0 0 0 (by omega) (by omega) (by omega)) 0 (by omega) O fa _ fc (by decide) w4 (H3.out.below hb) ho hf)
  have L4 := Lib.hid (L3.out.trans (hb.mono L3.out.size))
  clear hb ho hf
  go_wp2_with fail
  refine (C4.out).mono ?_
  rintro e w5 ⟨rfl, hb⟩
  have L5 := Lib.hid (L4.out.trans (hb.mono L4.out.size))
  clear hb
  go_wp2_with fail
  go_returns
  exact ⟨rfl, L5.out⟩
end Go.Proofs.YtbeemfkndpandaaDoor
