/- CoulombHolds holds: each call returns true. Conditions: the arguments are numbers of 64 bits, slices of numbers and of bools. -/
import Derived.Test.YtomjhoaffbjkgaaCoulN
import Derived.Deep.QuietTactic
import Derived.StillTailTactics
import Derived.Deep.DeepCutAuto
import Derived.Deep.RegionWith
namespace Go.Proofs.Ytomjhoaffbjkgaa
open Go.RowKit
set_option linter.unusedVariables false
/-- The charge stands in the span. -/
structure CK.Has (k : CK) (err : Int) (q : Int) : Prop where
  full : k.full = 100000
  most : k.most = 500
  amiss : k.amiss = err
  lo : 0 ≤ k.lo ∧ k.lo ≤ q
  hi : q ≤ k.hi ∧ k.hi ≤ 100000
theorem CK.Has.ok {k : CK} {err q : Int} (h : k.Has err q) (he : 0 ≤ err ∧ err ≤ 4) : k.Ok := by
  have := h.full; have := h.most; have := h.amiss; have := h.lo; have := h.hi
  constructor <;> unfold I64 <;> omega
theorem satId3 (a : Int) (h : -1000000 ≤ a ∧ a ≤ 1000000) : sat a = a := satId a (by unfold I64; omega)
theorem CK.Has.step {k : CK} {err q a v : Int} {f : Bool} (h : k.Has err q) (he : 0 ≤ err ∧ err ≤ 4) (ha : -500 ≤ a ∧ a ≤ 500) (hq : 0 ≤ q - a ∧ q - a ≤ 100000) (hv : f = true → a - err ≤ v ∧ v ≤ a + err) : (k.step v f).Has err (q - a) := by
  have h1 := h.full; have h2 := h.most; have h3 := h.amiss; have h4 := h.lo; have h5 := h.hi
  unfold CK.step
  cases f
  · have e : k.out v false = (-500, 500) := by
      simp only [CK.out, Bool.false_eq_true, if_false, h2]
      rfl
    rw [e]
    simp only
    rw [satId3 _ (by omega), satId3 _ (by omega)]
    unfold CK.set clampI
    constructor <;> simp only [h1, h2, h3]
    · split <;> split <;> omega
    · split <;> split <;> omega
  · have hv' := hv rfl
    have e : k.out v true = (v - err, v + err) := by
      simp only [CK.out, if_true, h3]
      rw [show max err 0 = err by omega, satId3 _ (by omega), satId3 _ (by omega)]
    rw [e]
    simp only
    rw [satId3 _ (by omega), satId3 _ (by omega)]
    unfold CK.set clampI
    constructor <;> simp only [h1, h2, h3]
    · split <;> split <;> omega
    · split <;> split <;> omega
theorem hasSet {w : World} {B : Nat} (c : CF) (q a b : Int) (ha : 0 ≤ a ∧ a ≤ q) (hb : q ≤ b ∧ b ≤ 100000) (h : Ctr w B (c.k0.set a b)) : ∃ k : CK, k.Has c.err q ∧ Ctr w B k := by
  refine ⟨_, ?_, h⟩
  unfold CK.set CF.k0 clampI
  constructor <;> simp only
  · split <;> split <;> omega
  · split <;> split <;> omega
theorem wrapI (a : Int) (h : -1000000000 ≤ a ∧ a ≤ 1000000000) : IntKind.i64.wrap a = a := by
  simp [IntKind.wrap, IntKind.signed, IntKind.bits]
  try omega
theorem tmodB (a : Int) (b : Int) (hb : 0 < b) : -b < a.tmod b ∧ a.tmod b < b := by
  have h1 := Int.tmod_lt_of_pos (-a) hb
  have h2 := Int.tmod_lt_of_pos a hb
  rw [Int.neg_tmod] at h1; omega
set_option maxRecDepth 100000 in
set_option maxHeartbeats 4000000 in
theorem walkCoulombHolds (a0 : Int) (a1 : Int) (a2 : Int) (a3 : Int) (a4 : Option Addr) (len4 cap4 : Nat) (z4 : List Int) (a5 : Option Addr) (len5 cap5 : Nat) (z5 : List Int) (a6 : Option Addr) (len6 cap6 : Nat) (z6 : Nat → Bool) (w : World) (w0 : (Lit.int .i64 a0).wf = true) (w1 : (Lit.int .i64 a1).wf = true) (w2 : (Lit.int .i64 a2).wf = true) (w3 : (Lit.int .i64 a3).wf = true) (w4 : CameI .i64 w a4 len4 cap4 z4) (w5 : CameI .i64 w a5 len5 cap5 z5) (w6 : CameB w a6 len6 cap6 z6) :
    Calls Try.prog 13 #[.int .i64 a0, .int .i64 a1, .int .i64 a2, .int .i64 a3, .slice a4 len4 cap4, .slice a5 len5 cap5, .slice a6 len6 cap6] w fun e w' => e = .returned (.bool true) ∧ Below w.heap.size w w' := by
  have C4 := Lib.hid fun i hi => w4.at i hi
  have C5 := Lib.hid fun i hi => w5.at i hi
  have C6 := Lib.hid fun i hi => w6.at i hi
  clear w4 w5 w6 w0 w1 w2 w3
  by_cases h1 : 100 < len4
  · go_enter Try.func13, Try.ntmps13
    go_wp2_with fail
    refine (first18 _).mono ?_
    rintro e w1 ⟨rfl, hb0⟩
    have T0 := Lib.hid hb0
    clear hb0
    go_wp2_with fail
    go_ret
    exact ⟨rfl, T0.out⟩
  by_cases h2 : len5 < len4
  · go_enter Try.func13, Try.ntmps13
    go_wp2_with fail
    refine (first18 _).mono ?_
    rintro e w1 ⟨rfl, hb0⟩
    have T0 := Lib.hid hb0
    clear hb0
    go_wp2_with fail
    go_ret
    exact ⟨rfl, T0.out⟩
  by_cases h3 : len6 < len4
  · go_enter Try.func13, Try.ntmps13
    go_wp2_with fail
    refine (first18 _).mono ?_
    rintro e w1 ⟨rfl, hb0⟩
    have T0 := Lib.hid hb0
    clear hb0
    go_wp2_with fail
    go_ret
    exact ⟨rfl, T0.out⟩
  have t3 := tmodB a3 100001 (by omega)
  go_enter Try.func13, Try.ntmps13
  go_wp2_with fail
  refine (first18 _).mono ?_
  rintro e w1 ⟨rfl, hb0⟩
  go_wp2_with fail
  refine (configC _ _ _ _).mono ?_
  rintro e w2 ⟨O, fa, fl, fc, rfl, hO, hv, hb1⟩
  have he : 0 ≤ (cfgOf (a0 % 1048576) (a1 % 1048576) (a2 % 1048576)).err ∧ (cfgOf (a0 % 1048576) (a1 % 1048576) (a2 % 1048576)).err ≤ 4 := by unfold cfgOf; simp only; omega
  generalize cfgOf (a0 % 1048576) (a1 % 1048576) (a2 % 1048576) = c at *
  simp only [cfgV]
  go_wp2_with fail
  refine upon_fresh (by simp) rfl (cfgA_one rfl rfl) ?_
  intro W1 b1 s1 h1
  have HC := Lib.hid h1
  have BB := hb0.trans (hb1.mono hb0.size)
  have hC0 := BB.size
  have HB := Lib.hid (BB.trans (b1.mono BB.size))
  have c5 : W1.cell? ⟨w2.heap.size, 5, none⟩ = some (.int .i64 100000) := cell_of_row W1 _ 5 _ _ _ h1
  clear h1 b1 hb0 hb1 hv BB
  go_wp2_with fail
  dsimp only [Act.put]
  go_cut [17] (fun s17 wx => ∃ q : Int, s17 = .int .i64 q ∧ 0 ≤ q ∧ q ≤ 100000 ∧ Cfg wx w2.heap.size c (.slice (some ⟨O, 0, none⟩) 4 4) (.slice fa fl fc) ∧ Below w.heap.size w wx)
  case first =>
    have hw2 : IntKind.i64.wrap (a3.tmod 100001 + 100000) = a3.tmod 100001 + 100000 := wrapI _ (by omega)
    have hw3 : IntKind.i64.wrap (a3.tmod 100001 + 100000 + 1) = a3.tmod 100001 + 100001 := (wrapI _ (by omega)).trans (by omega)
    have hw4 : IntKind.i64.wrap 100001 = 100001 := wrapI _ (by omega)
    have c5' : W1.drew.cell? ⟨w2.heap.size, 5, none⟩ = some (.int .i64 100000) := c5
    go_region_with (fail)
    all_goals
      go_wp2_with fail
      go_meet
      try simp only [hw2, hw3, hw4]
      exact ⟨_, rfl, Int.tmod_nonneg _ (by omega), by have := Int.tmod_lt_of_pos (a3.tmod 100001 + 100001) (show (0 : Int) < 100001 by omega); omega, HC.out, HB.out.drew⟩
  case rest =>
    obtain ⟨q0, rfl, hq1, hq2, hc, hb⟩ := hcut
    have FC := Lib.hid hc
    have FB := Lib.hid hb
    clear hc hb HC HB c5
    go_upto_region 8 with fail
    go_cut [18] (fun s18 wx => ∃ (B : Nat) (k : CK), s18 = .pointer (some ⟨B, 0, none⟩) ∧ w2.heap.size < B ∧ k.Has c.err q0 ∧ Ctr wx B k ∧ Cfg wx w2.heap.size c (.slice (some ⟨O, 0, none⟩) 4 4) (.slice fa fl fc) ∧ Below w.heap.size w wx)
    case first =>
      have c5 : wc.cell? ⟨w2.heap.size, 5, none⟩ = some (.int .i64 100000) := cell_of_row wc _ 5 _ _ _ FC.out
      go_wp2_with (refine wpList_load_row_g rfl 34 _ rfl w2.heap.size rfl 34 _ (0, 0) _ FC.out Try.underlying34 rfl (by kernel_rfl) ?_)
      all_goals
        refine (ctrNew c _ _ _ _ _).mono ?_
        rintro e w3 ⟨B, rfl, hB, hk, hb2⟩
        have HH := Lib.hid (hasSet c q0 _ _ (by omega) (by omega) hk)
        have HC := Lib.hid (Cfg.below FC.out hb2 (Array.getElem?_eq_some_iff.1 FC.out).1)
        have HB := Lib.hid (FB.out.trans (hb2.mono FB.out.size))
        have hBn : w2.heap.size < B := Nat.lt_of_lt_of_le (Array.getElem?_eq_some_iff.1 FC.out).1 hB
        clear hk hb2
        go_wp2_with fail
        go_meet
        obtain ⟨k, hk1, hk2⟩ := HH.out
        exact ⟨B, k, rfl, hBn, hk1, hk2, HC.out, HB.out⟩
    case rest =>
    obtain ⟨B, k0, rfl, hBn, hhas, hk, hc, hb⟩ := hcut
    have HH := Lib.hid hhas
    have HK := Lib.hid hk
    have HC := Lib.hid hc
    have HB := Lib.hid hb
    clear hhas hk hc hb FC FB
    go_wp2_with fail
    go_loopw [17, 19] (fun s17 s19 wr => ∃ (i : Nat) (q : Int) (k : CK), i ≤ len4 ∧ s19 = .int .i64 i ∧ s17 = .int .i64 q ∧ 0 ≤ q ∧ q ≤ 100000 ∧ k.Has c.err q ∧ Ctr wr B k ∧ Cfg wr w2.heap.size c (.slice (some ⟨O, 0, none⟩) 4 4) (.slice fa fl fc) ∧ Below w.heap.size w wr) (fun _ v _ => len4 - (intOf v).toNat)
    case atStart => exact ⟨0, q0, k0, by omega, rfl, rfl, hq1, hq2, HH.out, HK.out, HC.out, HB.out⟩
    case round =>
      obtain ⟨i, q, k, hi, rfl, rfl, hq3, hq4, hh, hk, hc, hb⟩ := hrel
      have FH := Lib.hid hh
      have FK := Lib.hid hk
      have FC := Lib.hid hc
      have FB := Lib.hid hb
      clear hh hk hc hb HH HK HC HB
      by_cases hl : i < len4
      · obtain ⟨x4, rfl, c4⟩ := C4.out i hl
        obtain ⟨x5, rfl, c5⟩ := C5.out i (by omega)
        obtain ⟨x6, rfl, c6⟩ := C6.out i (by omega)
        have hl5 : i < len5 := by omega
        have hl6 : i < len6 := by omega
        have D4 := Lib.hid (below_cell FB.out c4)
        have D5 := Lib.hid (below_cell FB.out c5)
        have D6 := Lib.hid (below_cell FB.out c6)
        clear c4 c5 c6
        generalize z4.getD i 0 = y4 at *
        generalize z5.getD i 0 = y5 at *
        generalize z6 i = y6 at *
        have ty4 := tmodB y4 501 (by omega)
        have ty5 := tmodB y5 (c.err + 1) (by omega)
        go_wp2_with fail
        try dsimp only [Act.put]
        go_cut [20] (fun s20 wx => ∃ a : Int, s20 = .int .i64 a ∧ -500 ≤ a ∧ a ≤ 500 ∧ Ctr wx B k ∧ Cfg wx w2.heap.size c (.slice (some ⟨O, 0, none⟩) 4 4) (.slice fa fl fc) ∧ Below w.heap.size w wx ∧ Below wr.heap.size wr wx)
        case first =>
          have d4 : wr.drew.cell? (x4.add i) = some (.int .i64 y4) := D4.out
          have d7 : wr.drew.cell? ⟨w2.heap.size, 7, none⟩ = some (.int .i64 500) := cell_of_row wr _ 7 _ _ _ FC.out
          have hw4 : IntKind.i64.wrap 501 = 501 := wrapI _ (by omega)
          go_region_with (fail)
          all_goals
            go_wp2_with fail
            go_meet
            try simp only [hw4]
            exact ⟨_, rfl, by omega, by omega, FK.out, FC.out, FB.out.drew, (Below.refl _ _).drew⟩
        case rest =>
          obtain ⟨a, rfl, ha1, ha2, hk, hc, hb, hb'⟩ := hcut
          have GK := Lib.hid hk
          have GC := Lib.hid hc
          have GB := Lib.hid hb
          have E5 := Lib.hid (below_cell hb' D5.out)
          have E6 := Lib.hid (below_cell hb' D6.out)
          have g5 : wc.cell? ⟨w2.heap.size, 5, none⟩ = some (.int .i64 100000) := cell_of_row wc _ 5 _ _ _ hc
          clear hk hc hb hb' FK FC FB D4 D5 D6
          go_upto_region 15 with fail
          go_cut [20] (fun s20 wx => ∃ b : Int, s20 = .int .i64 b ∧ -500 ≤ b ∧ b ≤ 500 ∧ 0 ≤ q - b ∧ q - b ≤ 100000 ∧ wx = wc)
          case first =>
            go_wp2_with fail
            all_goals
              go_meet
              exact ⟨_, rfl, by omega, by omega, by omega, by omega, rfl⟩
          case rest =>
          obtain ⟨b, rfl, hb1, hb2, hb3, hb4, rfl⟩ := hcut
          clear g5
          have KS : ∀ (v : Int) (hv : b - c.err ≤ v ∧ v ≤ b + c.err) (w : World) (h : Ctr w B k), Calls Try.prog 30 #[.pointer (some ⟨B, 0, none⟩), .agg #[.int .i64 v, .bool y6]] w fun e w' => ∃ k' : CK, e = .returned (.agg #[.int .i64 k'.lo, .int .i64 k'.hi]) ∧ k'.Has c.err (q - b) ∧ Ctr w' B k' ∧ Only B w w' := by
            intro v hv w h
            cases y6
            · exact (ctrStepF B k (FH.out.ok he) v (by unfold I64; omega) w h).mono fun e w' h => ⟨_, h.1, FH.out.step he ⟨hb1, hb2⟩ ⟨hb3, hb4⟩ (fun h => by cases h), h.2.1, h.2.2⟩
            · exact (ctrStepT B k (FH.out.ok he) v (by unfold I64; omega) w h).mono fun e w' h => ⟨_, h.1, FH.out.step he ⟨hb1, hb2⟩ ⟨hb3, hb4⟩ (fun _ => hv), h.2.1, h.2.2⟩
          have KSH := Lib.hid KS
          clear KS
          go_upto_region 17 with fail
          go_cut [] (fun wx => ∃ k' : CK, k'.Has c.err (q - b) ∧ Ctr wx B k' ∧ Cfg wx w2.heap.size c (.slice (some ⟨O, 0, none⟩) 4 4) (.slice fa fl fc) ∧ Below w.heap.size w wx)
          case first =>
            have d5 : wc.drew.cell? (x5.add i) = some (.int .i64 y5) := E5.out
            have d6 : wc.drew.cell? (x6.add i) = some (.bool y6) := E6.out
            have d7 : wc.drew.cell? ⟨w2.heap.size, 18, none⟩ = some (.int .i64 c.err) := cell_of_row wc _ 18 _ _ _ GC.out
            have hw4 : IntKind.i64.wrap (c.err + 1) = c.err + 1 := wrapI _ (by omega)
            have hw5 : IntKind.i64.wrap (b + y5.tmod (c.err + 1)) = b + y5.tmod (c.err + 1) := wrapI _ (by omega)
            have hz : (c.err + 1 == 0) = false := by rw [beq_eq_false_iff_ne]; omega
            go_region_with ((go_at_call 30; (with_reducible refine (KSH.out _ ?_ _ ?_).mono ?_); (first | omega | (simp only [hw4, hw5]; omega)); exact GK.out; rintro e w7 ⟨k', rfl, H7, C7, ho⟩; have P7 := Lib.hid H7; have Q7 := Lib.hid C7; have R7 := Lib.hid ho; clear H7 C7 ho; dsimp only))
            all_goals
              go_wp2_with fail
              go_meet
              exact ⟨k', P7.out, Q7.out, R7.out.row (w := wc.drew) GC.out (by omega), GB.out.drew.trans (R7.out.below (by omega) GB.out.drew.size)⟩
          case rest =>
          obtain ⟨k', hh, hk, hc, hb⟩ := hcut
          have hlo := hh.lo
          have hhi := hh.hi
          have H1 := Lib.hid hh
          clear hh GK GC GB KSH E5 E6
          go_wp2_with fail
          refine (ctrQ B _ _ hk).mono ?_
          rintro e w8 ⟨rfl, hb8⟩
          have H2 := Lib.hid (Ctr.below hk hb8 hk.lt)
          have H3 := Lib.hid (Cfg.below hc hb8 (Array.getElem?_eq_some_iff.1 hc).1)
          have H4 := Lib.hid (hb.trans (hb8.mono hb.size))
          clear hk hc hb hb8
          go_wp2_with fail
          go_roundw
          case rel =>
            have b9 := (Below.refl w8.heap.size w8).alloc (Nat.le_refl _) (.cells #[.int .i64 k'.lo, .int .i64 k'.hi] 23)
            exact ⟨i + 1, q - b, k', by omega, by go_num, rfl, hb3, hb4, H1.out, Ctr.below H2.out b9 H2.out.lt, Cfg.below H3.out b9 (Array.getElem?_eq_some_iff.1 H3.out).1, H4.out.trans (b9.mono H4.out.size)⟩
          case measure => simp [intOf]; omega
      · go_wp2_with fail
        go_ret
        exact ⟨rfl, FB.out⟩
end Go.Proofs.Ytomjhoaffbjkgaa
