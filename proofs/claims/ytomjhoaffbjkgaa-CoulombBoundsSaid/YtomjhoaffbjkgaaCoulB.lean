/- CoulombBounds holds: each call returns true. Conditions: the arguments are numbers of 64 bits, a slice of numbers. -/
import Derived.Test.YtomjhoaffbjkgaaCoulN
import Derived.Deep.QuietTactic
import Derived.Deep.DeepCutAuto
import Derived.Deep.RegionWith
namespace Go.Proofs.Ytomjhoaffbjkgaa
open Go.RowKit
set_option linter.unusedVariables false
structure CK.Good (k : CK) : Prop where
  full : k.full = 100000
  most : k.most = 500
  amiss : k.amiss = 0
  lo : 0 ≤ k.lo
  mid : k.lo ≤ k.hi
  hi : k.hi ≤ 100000
theorem CK.Good.ok {k : CK} (h : k.Good) : k.Ok := by
  have := h.full; have := h.most; have := h.amiss; have := h.lo; have := h.mid; have := h.hi
  constructor <;> unfold I64 <;> omega
theorem CK.Good.step {k : CK} (h : k.Good) (v : Int) (hv : -500000 ≤ v ∧ v ≤ 500000) (f : Bool) : (k.step v f).Good := by
  have h1 := h.full; have h2 := h.most; have h3 := h.amiss; have h4 := h.lo; have h5 := h.mid; have h6 := h.hi
  unfold CK.step
  have e : ∃ a b : Int, k.out v f = (a, b) ∧ a ≤ b ∧ -500000 ≤ a ∧ b ≤ 500000 := by
    cases f
    · exact ⟨-500, 500, by simp only [CK.out, Bool.false_eq_true, if_false, h2]; rfl, by omega, by omega, by omega⟩
    · refine ⟨v, v, ?_, by omega, by omega, by omega⟩
      simp only [CK.out, if_true, h3]
      rw [show max (0 : Int) 0 = 0 from rfl, satId _ (by unfold I64; omega), satId _ (by unfold I64; omega)]
      simp
  obtain ⟨a, b, e, hab, ha, hb⟩ := e
  rw [e]
  simp only
  rw [satId _ (by unfold I64; omega), satId _ (by unfold I64; omega)]
  unfold CK.set clampI
  constructor <;> simp only [h1, h2, h3]
  · split <;> split <;> omega
  · (repeat' split) <;> omega
  · split <;> split <;> omega
theorem good0 (c : CF) (he : c.err = 0) (a b : Int) (h : a ≤ b) : (c.k0.set a b).Good := by
  unfold CK.set CF.k0 clampI
  constructor <;> simp only [he]
  · split <;> split <;> omega
  · (repeat' split) <;> omega
  · split <;> split <;> omega
theorem tmodC (a : Int) (b : Int) (hb : 0 < b) : -b < a.tmod b ∧ a.tmod b < b := by
  have h1 := Int.tmod_lt_of_pos (-a) hb
  have h2 := Int.tmod_lt_of_pos a hb
  rw [Int.neg_tmod] at h1; omega
theorem finA {w wr w7 : World} {n B S : Nat} {c : CF} {oc fe : Value} {k' : CK} {a b : Int} (hC : Cfg wr n c oc fe) (hR : wr.heap[S]? = some (.cells #[.int .i64 a, .int .i64 b] 23 (0, 0))) (hB : Below w.heap.size w wr) (g : k'.Good) (hK : Ctr w7 B k') (ho : Only B wr.drew w7) (h1 : w.heap.size ≤ B) (h2 : n ≠ B) (h3 : S ≠ B) :
    ∃ (P : Nat) (k : CK), Value.pointer (some ⟨w7.heap.size, 0, none⟩) = .pointer (some ⟨P, 0, none⟩) ∧ (w7.alloc (.cells #[.int .i64 k'.lo, .int .i64 k'.hi] 23)).heap[P]? = some (.cells #[.int .i64 k.lo, .int .i64 k.hi] 23 (0, 0)) ∧ k.Good ∧ Ctr (w7.alloc (.cells #[.int .i64 k'.lo, .int .i64 k'.hi] 23)) B k ∧ Cfg (w7.alloc (.cells #[.int .i64 k'.lo, .int .i64 k'.hi] 23)) n c oc fe ∧ (w7.alloc (.cells #[.int .i64 k'.lo, .int .i64 k'.hi] 23)).heap[S]? = some (.cells #[.int .i64 a, .int .i64 b] 23 (0, 0)) ∧ Below w.heap.size w (w7.alloc (.cells #[.int .i64 k'.lo, .int .i64 k'.hi] 23)) := by
  have b9 := (Below.refl w7.heap.size w7).alloc (Nat.le_refl _) (.cells #[.int .i64 k'.lo, .int .i64 k'.hi] 23)
  have B7 := hB.drew.trans (ho.below h1 hB.drew.size)
  have C7 : Cfg w7 n c oc fe := ho.row (w := wr.drew) hC h2
  exact ⟨w7.heap.size, k', rfl, heap_alloc_new _ _, g, Ctr.below hK b9 hK.lt, Cfg.below C7 b9 (Array.getElem?_eq_some_iff.1 C7).1, row_below b9 (ho.row (w := wr.drew) hR h3), B7.trans (b9.mono B7.size)⟩
theorem finB {w wr w7 : World} {n B S : Nat} {c : CF} {oc fe : Value} {k' : CK} {a b : Int} (hC : Cfg wr n c oc fe) (hR : wr.heap[S]? = some (.cells #[.int .i64 a, .int .i64 b] 23 (0, 0))) (hB : Below w.heap.size w wr) (g : k'.Good) (hK : Ctr w7 B k') (ho : Only B (wr.alloc (.cells #[.int .i64 0, .int .i64 0] 23)).drew w7) (hP : w7.heap[wr.heap.size]? = some (.cells #[.int .i64 0, .int .i64 0] 23 (0, 0))) (h1 : w.heap.size ≤ B) (h2 : n ≠ B) (h3 : S ≠ B) (h4 : B < wr.heap.size) (h5 : wr.heap.size ≠ B) :
    ∃ (P : Nat) (k : CK), Value.pointer (some ⟨wr.heap.size, 0, none⟩) = .pointer (some ⟨P, 0, none⟩) ∧ ((w7.setCell ⟨wr.heap.size, 0, none⟩ (.int .i64 k'.lo)).setCell ⟨wr.heap.size, 1, none⟩ (.int .i64 k'.hi)).heap[P]? = some (.cells #[.int .i64 k.lo, .int .i64 k.hi] 23 (0, 0)) ∧ k.Good ∧ Ctr ((w7.setCell ⟨wr.heap.size, 0, none⟩ (.int .i64 k'.lo)).setCell ⟨wr.heap.size, 1, none⟩ (.int .i64 k'.hi)) B k ∧ Cfg ((w7.setCell ⟨wr.heap.size, 0, none⟩ (.int .i64 k'.lo)).setCell ⟨wr.heap.size, 1, none⟩ (.int .i64 k'.hi)) n c oc fe ∧ ((w7.setCell ⟨wr.heap.size, 0, none⟩ (.int .i64 k'.lo)).setCell ⟨wr.heap.size, 1, none⟩ (.int .i64 k'.hi)).heap[S]? = some (.cells #[.int .i64 a, .int .i64 b] 23 (0, 0)) ∧ Below w.heap.size w ((w7.setCell ⟨wr.heap.size, 0, none⟩ (.int .i64 k'.lo)).setCell ⟨wr.heap.size, 1, none⟩ (.int .i64 k'.hi)) := by
  have fa := (Below.refl wr.heap.size wr).alloc (Nat.le_refl _) (.cells #[.int .i64 0, .int .i64 0] 23)
  have hB2 := (hB.alloc hB.size (.cells #[.int .i64 0, .int .i64 0] 23)).drew
  have B7 := hB2.trans (ho.below h1 hB2.size)
  have nC : n < wr.heap.size := (Array.getElem?_eq_some_iff.1 hC).1
  have nS : S < wr.heap.size := (Array.getElem?_eq_some_iff.1 hR).1
  have C7 : Cfg w7 n c oc fe := ho.row (w := (wr.alloc (.cells #[.int .i64 0, .int .i64 0] 23)).drew) (Cfg.below hC fa.drew nC) h2
  have S7 := ho.row (w := (wr.alloc (.cells #[.int .i64 0, .int .i64 0] 23)).drew) ((fa.block _ nS).trans hR) h3
  have hk2 : ∀ k, k ≠ wr.heap.size → ((w7.setCell ⟨wr.heap.size, 0, none⟩ (.int .i64 k'.lo)).setCell ⟨wr.heap.size, 1, none⟩ (.int .i64 k'.hi)).heap[k]? = w7.heap[k]? := fun k hk => (heap_setCell_other _ ⟨_, _, _⟩ _ _ hk).trans (heap_setCell_other _ ⟨_, _, _⟩ _ _ hk)
  have hs := hB.size
  refine ⟨wr.heap.size, k', rfl, ?_, g, (hk2 _ (Ne.symm h5)).trans hK, (hk2 _ (by omega)).trans C7, (hk2 _ (by omega)).trans S7, (B7.setCell (p := ⟨wr.heap.size, 0, none⟩) hs _).setCell (p := ⟨wr.heap.size, 1, none⟩) hs _⟩
  simp [World.setCell, Array.getElem?_modify, hP]
set_option maxRecDepth 100000 in
set_option maxHeartbeats 4000000 in
theorem walkCoulombBounds (a0_0 : Int) (a0_1 : Int) (a1 : Option Addr) (len1 cap1 : Nat) (z1 : List Int) (a2_0 : Int) (a2_1 : Int) (w : World) (w0_0 : (Lit.int .i64 a0_0).wf = true) (w0_1 : (Lit.int .i64 a0_1).wf = true) (w1 : CameI .i64 w a1 len1 cap1 z1) (w2_0 : (Lit.int .i64 a2_0).wf = true) (w2_1 : (Lit.int .i64 a2_1).wf = true) :
    Calls Try.prog 12 #[.agg #[.int .i64 a0_0, .int .i64 a0_1], .slice a1 len1 cap1, .agg #[.int .i64 a2_0, .int .i64 a2_1]] w fun e w' => e = .returned (.bool true) ∧ Below w.heap.size w w' := by
  have C1 := Lib.hid fun i hi => w1.at i hi
  clear w1 w0_0 w0_1 w2_0 w2_1
  by_cases h1 : 60 < len1
  · go_enter Try.func12, Try.ntmps12
    go_wp2_with fail
    refine (first18 _).mono ?_
    rintro e w1 ⟨rfl, hb⟩
    obtain ⟨r0, r1, B1, s1⟩ := boxes2 hb
    have p0 : w1.cell? ⟨w.heap.size, 0, none⟩ = some (.int .i64 a0_0) := cell_of_row w1 _ 0 _ _ _ r0
    have p1 : w1.cell? ⟨w.heap.size, 1, none⟩ = some (.int .i64 a0_1) := cell_of_row w1 _ 1 _ _ _ r0
    have q0 : w1.cell? ⟨w.heap.size + 1, 0, none⟩ = some (.int .i64 a2_0) := cell_of_row w1 _ 0 _ _ _ r1
    have q1 : w1.cell? ⟨w.heap.size + 1, 1, none⟩ = some (.int .i64 a2_1) := cell_of_row w1 _ 1 _ _ _ r1
    have BB := Lib.hid B1
    clear hb r0 r1 B1
    go_wp2_with fail
    go_ret
    exact ⟨rfl, BB.out⟩
  by_cases h2 : a0_1 < a0_0
  · go_enter Try.func12, Try.ntmps12
    go_wp2_with fail
    refine (first18 _).mono ?_
    rintro e w1 ⟨rfl, hb⟩
    obtain ⟨r0, r1, B1, s1⟩ := boxes2 hb
    have p0 : w1.cell? ⟨w.heap.size, 0, none⟩ = some (.int .i64 a0_0) := cell_of_row w1 _ 0 _ _ _ r0
    have p1 : w1.cell? ⟨w.heap.size, 1, none⟩ = some (.int .i64 a0_1) := cell_of_row w1 _ 1 _ _ _ r0
    have q0 : w1.cell? ⟨w.heap.size + 1, 0, none⟩ = some (.int .i64 a2_0) := cell_of_row w1 _ 0 _ _ _ r1
    have q1 : w1.cell? ⟨w.heap.size + 1, 1, none⟩ = some (.int .i64 a2_1) := cell_of_row w1 _ 1 _ _ _ r1
    have BB := Lib.hid B1
    clear hb r0 r1 B1
    go_wp2_with fail
    go_ret
    exact ⟨rfl, BB.out⟩
  by_cases h3 : a2_1 < a2_0
  · go_enter Try.func12, Try.ntmps12
    go_wp2_with fail
    refine (first18 _).mono ?_
    rintro e w1 ⟨rfl, hb⟩
    obtain ⟨r0, r1, B1, s1⟩ := boxes2 hb
    have p0 : w1.cell? ⟨w.heap.size, 0, none⟩ = some (.int .i64 a0_0) := cell_of_row w1 _ 0 _ _ _ r0
    have p1 : w1.cell? ⟨w.heap.size, 1, none⟩ = some (.int .i64 a0_1) := cell_of_row w1 _ 1 _ _ _ r0
    have q0 : w1.cell? ⟨w.heap.size + 1, 0, none⟩ = some (.int .i64 a2_0) := cell_of_row w1 _ 0 _ _ _ r1
    have q1 : w1.cell? ⟨w.heap.size + 1, 1, none⟩ = some (.int .i64 a2_1) := cell_of_row w1 _ 1 _ _ _ r1
    have BB := Lib.hid B1
    clear hb r0 r1 B1
    go_wp2_with fail
    go_ret
    exact ⟨rfl, BB.out⟩
  go_enter Try.func12, Try.ntmps12
  go_wp2_with fail
  refine (first18 _).mono ?_
  rintro e w1 ⟨rfl, hb⟩
  obtain ⟨r0, r1, B1, s1⟩ := boxes2 hb
  have p0 : w1.cell? ⟨w.heap.size, 0, none⟩ = some (.int .i64 a0_0) := cell_of_row w1 _ 0 _ _ _ r0
  have p1 : w1.cell? ⟨w.heap.size, 1, none⟩ = some (.int .i64 a0_1) := cell_of_row w1 _ 1 _ _ _ r0
  have q0 : w1.cell? ⟨w.heap.size + 1, 0, none⟩ = some (.int .i64 a2_0) := cell_of_row w1 _ 0 _ _ _ r1
  have q1 : w1.cell? ⟨w.heap.size + 1, 1, none⟩ = some (.int .i64 a2_1) := cell_of_row w1 _ 1 _ _ _ r1
  have BB := Lib.hid B1
  have HR := Lib.hid r1
  clear hb r0 r1 B1
  go_wp2_with fail
  refine (configC _ _ _ _).mono ?_
  rintro e w2 ⟨O, fa, fl, fc, rfl, hO, hv, hb1⟩
  have he : (cfgOf (0 % 1048576) (0 % 1048576) (0 % 1048576)).err = 0 := rfl
  generalize cfgOf (0 % 1048576) (0 % 1048576) (0 % 1048576) = c at *
  simp only [cfgV]
  replace p0 := below_cell hb1 p0
  replace p1 := below_cell hb1 p1
  clear q0 q1
  go_wp2_with fail
  refine upon_fresh (by simp) rfl (cfgA_one rfl rfl) ?_
  intro W1 b1 s1' h1'
  replace p0 := below_cell b1 p0
  replace p1 := below_cell b1 p1
  have HC := Lib.hid h1'
  have BX := BB.out.trans (hb1.mono BB.out.size)
  have hC0 : w.heap.size + 2 ≤ w2.heap.size := Nat.le_trans s1 hb1.size
  have HR1 := Lib.hid (row_below b1 (row_below hb1 HR.out))
  have HB := Lib.hid (BX.trans (b1.mono BX.size))
  clear h1' b1 hb1 hv BX BB HR
  go_wp2_with (refine wpList_load_row_g rfl 34 _ rfl w2.heap.size rfl 34 _ (0, 0) _ HC.out Try.underlying34 rfl (by kernel_rfl) ?_)
  refine (ctrNew _ _ _ _ _ _).mono ?_
  rintro e w3 ⟨B, rfl, hB, hk, hb2⟩
  have HG := Lib.hid (good0 c he a0_0 a0_1 (by omega))
  have HK := Lib.hid hk
  have HC2 := Lib.hid (Cfg.below HC.out hb2 (Array.getElem?_eq_some_iff.1 HC.out).1)
  have HR2 := Lib.hid (row_below hb2 HR1.out)
  have HB2 := Lib.hid (HB.out.trans (hb2.mono HB.out.size))
  have hBn : w2.heap.size < B := Nat.lt_of_lt_of_le (Array.getElem?_eq_some_iff.1 HC.out).1 hB
  clear hk hb2 HC HR1 HB p0 p1
  generalize c.k0.set a0_0 a0_1 = k0 at *
  go_wp2_with fail
  go_loopw [10] (fun v wr => ∃ (i : Nat) (k : CK), i ≤ len1 ∧ v = .int .i64 i ∧ k.Good ∧ Ctr wr B k ∧ Cfg wr w2.heap.size c (.slice (some ⟨O, 0, none⟩) 4 4) (.slice fa fl fc) ∧ wr.heap[w.heap.size + 1]? = some (.cells #[.int .i64 a2_0, .int .i64 a2_1] 23 (0, 0)) ∧ Below w.heap.size w wr) (fun v _ => len1 - (intOf v).toNat)
  case atStart => exact ⟨0, k0, by omega, rfl, HG.out, HK.out, HC2.out, HR2.out, HB2.out⟩
  case round =>
    obtain ⟨i, k, hi, rfl, hg, hk, hc, hr, hb⟩ := hrel
    have FG := Lib.hid hg
    have FK := Lib.hid hk
    have FC := Lib.hid hc
    have FR := Lib.hid hr
    have FB := Lib.hid hb
    clear hg hk hc hr hb HG HK HC2 HR2 HB2
    by_cases hl : i < len1
    · obtain ⟨x1, rfl, c1⟩ := C1.out i hl
      have D1 := Lib.hid (below_cell FB.out c1)
      clear c1
      generalize z1.getD i 0 = y1 at *
      have ty := tmodC y1 500001 (by omega)
      have KS : ∀ (v : Int) (f : Bool) (hv : -500000 ≤ v ∧ v ≤ 500000) (w : World) (h : Ctr w B k), Calls Try.prog 30 #[.pointer (some ⟨B, 0, none⟩), .agg #[.int .i64 v, .bool f]] w fun e w' => ∃ k' : CK, e = .returned (.agg #[.int .i64 k'.lo, .int .i64 k'.hi]) ∧ k'.Good ∧ Ctr w' B k' ∧ Only B w w' := by
        intro v f hv w h
        cases f
        · exact (ctrStepF B k FG.out.ok v (by unfold I64; omega) w h).mono fun e w' h => ⟨_, h.1, FG.out.step v hv false, h.2.1, h.2.2⟩
        · exact (ctrStepT B k FG.out.ok v (by unfold I64; omega) w h).mono fun e w' h => ⟨_, h.1, FG.out.step v hv true, h.2.1, h.2.2⟩
      have KSH := Lib.hid KS
      clear KS
      go_upto_region 13 with fail
      go_cut [11] (fun s11 wx => ∃ (P : Nat) (k' : CK), s11 = .pointer (some ⟨P, 0, none⟩) ∧ wx.heap[P]? = some (.cells #[.int .i64 k'.lo, .int .i64 k'.hi] 23 (0, 0)) ∧ k'.Good ∧ Ctr wx B k' ∧ Cfg wx w2.heap.size c (.slice (some ⟨O, 0, none⟩) 4 4) (.slice fa fl fc) ∧ wx.heap[w.heap.size + 1]? = some (.cells #[.int .i64 a2_0, .int .i64 a2_1] 23 (0, 0)) ∧ Below w.heap.size w wx)
      case first =>
        have d1 : wr.drew.cell? (x1.add i) = some (.int .i64 y1) := D1.out
        have d2 : ∀ o, (wr.alloc o).drew.cell? (x1.add i) = some (.int .i64 y1) := fun o => cell_alloc D1.out o
        have fa := (Below.refl wr.heap.size wr).alloc (Nat.le_refl _) (.cells #[.int .i64 0, .int .i64 0] 23)
        have FK2 := Lib.hid (show Ctr (wr.alloc (.cells #[.int .i64 0, .int .i64 0] 23)).drew B k from Ctr.below FK.out fa.drew FK.out.lt)
        have FN := Lib.hid (heap_alloc_new wr (.cells #[.int .i64 0, .int .i64 0] 23))
        have FL := Lib.hid (Nat.ne_of_gt FK.out.lt)
        have FA := Lib.hid fa
        clear fa
        go_region_with (first
          | (go_at_call 30; (with_reducible refine (KSH.out _ _ ?_ _ ?_).mono ?_); omega; (with_reducible exact FK.out); rintro e w7 ⟨k', rfl, H7, C7, ho⟩; have P7 := Lib.hid H7; have Q7 := Lib.hid C7; have R7 := Lib.hid ho; clear H7 C7 ho; dsimp only)
          | (go_at_call 30; (with_reducible refine (KSH.out _ _ ?_ _ ?_).mono ?_); omega; exact FK.out; rintro e w7 ⟨k', rfl, H7, C7, ho⟩; have P7 := Lib.hid H7; have Q7 := Lib.hid C7; have R7 := Lib.hid ho; clear H7 C7 ho; dsimp only)
          | (go_at_call 30; (with_reducible refine (KSH.out _ _ ?_ _ ?_).mono ?_); omega; exact FK2.out; rintro e w7 ⟨k', rfl, H7, C7, ho⟩; have P7 := Lib.hid H7; have Q7 := Lib.hid C7; have R7 := Lib.hid ho; have S7 := Lib.hid (ho.row (w := (wr.alloc (.cells #[.int .i64 0, .int .i64 0] 23)).drew) FN.out FL.out); have y0 : w7.cell? ⟨wr.heap.size, 0, none⟩ = some (.int .i64 0) := cell_of_row w7 _ 0 _ _ _ S7.out; have y1 : w7.cell? ⟨wr.heap.size, 1, none⟩ = some (.int .i64 0) := cell_of_row w7 _ 1 _ _ _ S7.out; have yf : ∀ j, w7.frozen? ⟨wr.heap.size, j, none⟩ = false := fun j => (by simp [World.frozen?, S7.out]); clear H7 C7 ho; dsimp only))
        all_goals
          go_wp2_with fail
          go_meet
          first
            | exact finA FC.out FR.out FB.out P7.out Q7.out R7.out (by omega) (by omega) (by omega)
            | exact finB FC.out FR.out FB.out P7.out Q7.out R7.out S7.out (by omega) (by omega) (by omega) FK.out.lt FL.out
      case rest =>
      obtain ⟨P, k', rfl, hp, hg, hk, hc, hr, hb⟩ := hcut
      have p0 : wc.cell? ⟨P, 0, none⟩ = some (.int .i64 k'.lo) := cell_of_row wc _ 0 _ _ _ hp
      have p1 : wc.cell? ⟨P, 1, none⟩ = some (.int .i64 k'.hi) := cell_of_row wc _ 1 _ _ _ hp
      have c5 : wc.cell? ⟨w2.heap.size, 5, none⟩ = some (.int .i64 100000) := cell_of_row wc _ 5 _ _ _ hc
      have g1 := hg.lo
      have g2 := hg.mid
      have g3 := hg.hi
      have H1 := Lib.hid hg
      have H2 := Lib.hid hk
      have H3 := Lib.hid hc
      have H4 := Lib.hid hr
      have H5 := Lib.hid hb
      clear hp hg hk hc hr hb FG FK FC FR FB KSH D1
      go_wp2_with fail
      go_roundw
      case rel => exact ⟨i + 1, k', by omega, by go_num, H1.out, H2.out, H3.out, H4.out, H5.out⟩
      case measure => simp [intOf]; omega
    · have q0 : wr.cell? ⟨w.heap.size + 1, 0, none⟩ = some (.int .i64 a2_0) := cell_of_row wr _ 0 _ _ _ FR.out
      have q1 : wr.cell? ⟨w.heap.size + 1, 1, none⟩ = some (.int .i64 a2_1) := cell_of_row wr _ 1 _ _ _ FR.out
      obtain ⟨full, most, amiss, lo, hi'⟩ := k
      obtain rfl : full = 100000 := FG.out.full
      go_wp2_with fail
      refine (ctrSet B _ a2_0 a2_1 _ FK.out).mono ?_
      rintro e w5 ⟨rfl, hk, ho⟩
      have hC := ho.row (w := wr) FC.out (by omega)
      have hR := ho.row FR.out (by omega)
      have hB' := FB.out.trans (ho.below (by omega) FB.out.size)
      have q1 := ctrQ B _ _ hk
      rw [show (CK.set ⟨100000, most, amiss, lo, hi'⟩ a2_0 a2_1).lo = clampI a2_0 0 100000 from rfl, show (CK.set ⟨100000, most, amiss, lo, hi'⟩ a2_0 a2_1).hi = clampI a2_1 0 100000 from rfl] at q1
      have Q1 := Lib.hid q1
      have H3 := Lib.hid hC
      have H4 := Lib.hid hR
      have H5 := Lib.hid hB'
      clear q0 q1 ho hk hC hR hB' FG FK FC FR FB
      go_wp2_with fail
      refine Q1.out.mono ?_
      rintro e w6 ⟨rfl, hb6⟩
      have hC6 : Cfg w6 w2.heap.size c _ _ := Cfg.below H3.out hb6 (Array.getElem?_eq_some_iff.1 H3.out).1
      have c5 := fun o => cell_alloc (show w6.cell? ⟨w2.heap.size, 5, none⟩ = some (.int .i64 100000) from cell_of_row w6 _ 5 _ _ _ hC6) o
      have hR6 := row_below hb6 H4.out
      have q0 := fun o => cell_alloc (show w6.cell? ⟨w.heap.size + 1, 0, none⟩ = some (.int .i64 a2_0) from cell_of_row w6 _ 0 _ _ _ hR6) o
      have q1 := fun o => cell_alloc (show w6.cell? ⟨w.heap.size + 1, 1, none⟩ = some (.int .i64 a2_1) from cell_of_row w6 _ 1 _ _ _ hR6) o
      have G := Lib.hid (H5.out.trans (hb6.mono H5.out.size))
      have K0 := Lib.hid fun (w : World) => refClamp a2_0 0 100000 w
      have K1 := Lib.hid fun (w : World) => refClamp a2_1 0 100000 w
      have e0 : (clampI a2_0 0 100000 == clampI a2_0 0 100000) = true := by simp
      have e1 : (clampI a2_1 0 100000 == clampI a2_1 0 100000) = true := by simp
      clear hb6 hC6 hR6 H3 H4 H5 Q1
      generalize clampI a2_0 0 100000 = m0 at *
      generalize clampI a2_1 0 100000 = m1 at *
      go_wp2_with fail
      go_quiet ((go_at_call 33; first | with_reducible exact Calls.quiet_of_same ((K0.out _).mono fun _ _ h => ⟨h.1, h.2.symm⟩) | with_reducible exact Calls.quiet_of_same ((K1.out _).mono fun _ _ h => ⟨h.1, h.2.symm⟩)))
      go_wp2_with fail
      go_ret
      exact ⟨by first | rfl | simp, below_drewN (G.out.alloc G.out.size _) _⟩
end Go.Proofs.Ytomjhoaffbjkgaa
