/- CoulombPlays holds: each call returns true. Conditions: the arguments are numbers of 64 bits, a slice of samples and one of numbers. -/
import Derived.Test.YtomjhoaffbjkgaaCounted
import Derived.Test.YtomjhoaffbjkgaaFlat
import Derived.Deep.QuietTactic
import Derived.Deep.DeepCutAuto
import Derived.Deep.RegionWith
namespace Go.Proofs.Ytomjhoaffbjkgaa
open Go.RowKit
set_option linter.unusedVariables false
/-- A counter of this configuration. -/
structure CK.Of (k : CK) (c : CF) : Prop where
  full : k.full = 100000
  most : k.most = 500
  amiss : k.amiss = c.err
  lo : 0 ≤ k.lo ∧ k.lo ≤ 100000
  hi : 0 ≤ k.hi ∧ k.hi ≤ 100000
theorem CK.Of.eq {k : CK} {c : CF} (h : k.Of c) : c.at k.lo k.hi = k := by
  obtain ⟨full, most, amiss, lo, hi⟩ := k
  have h1 := h.full; have h2 := h.most; have h3 := h.amiss
  simp only at h1 h2 h3
  subst h1; subst h2; subst h3
  rfl
theorem CK.Of.ok {k : CK} {c : CF} (h : k.Of c) (he : 0 ≤ c.err ∧ c.err ≤ 4) : k.Ok := by
  have := h.full; have := h.most; have := h.amiss; have := h.lo; have := h.hi
  constructor <;> unfold I64 <;> omega
theorem clampB (a : Int) : 0 ≤ clampI a 0 100000 ∧ clampI a 0 100000 ≤ 100000 := by
  unfold clampI
  (repeat' split) <;> omega
theorem CK.Of.set {k : CK} {c : CF} (h : k.Of c) (a b : Int) : (k.set a b).Of c := by
  have h1 := h.full; have h2 := h.most; have h3 := h.amiss
  unfold CK.set
  rw [h1]
  exact ⟨rfl, h2, h3, clampB _, clampB _⟩
theorem of0 (c : CF) (a b : Int) : (c.k0.set a b).Of c := by
  unfold CK.set CF.k0
  exact ⟨rfl, rfl, rfl, clampB _, clampB _⟩
theorem tmodD (a : Int) (b : Int) (hb : 0 < b) : -b < a.tmod b ∧ a.tmod b < b := by
  have h1 := Int.tmod_lt_of_pos (-a) hb
  have h2 := Int.tmod_lt_of_pos a hb
  rw [Int.neg_tmod] at h1; omega
set_option maxRecDepth 100000 in
set_option maxHeartbeats 8000000 in
theorem walkCoulombPlays (a0 : Int) (a1 : Int) (a2 : Int) (a3_0 : Int) (a3_1 : Int) (a4 : Option Addr) (len4 cap4 : Nat) (z4 : Nat → List Value) (a5 : Option Addr) (len5 cap5 : Nat) (z5 : List Int) (w : World) (w0 : (Lit.int .i64 a0).wf = true) (w1 : (Lit.int .i64 a1).wf = true) (w2 : (Lit.int .i64 a2).wf = true) (w3_0 : (Lit.int .i64 a3_0).wf = true) (w3_1 : (Lit.int .i64 a3_1).wf = true) (w4 : CameS [.int .i64, .bool] w a4 len4 cap4 z4) (w5 : CameI .i64 w a5 len5 cap5 z5) :
    Calls Try.prog 14 #[.int .i64 a0, .int .i64 a1, .int .i64 a2, .agg #[.int .i64 a3_0, .int .i64 a3_1], .slice a4 len4 cap4, .slice a5 len5 cap5] w fun e w' => e = .returned (.bool true) ∧ Below w.heap.size w w' := by
  have C4 := Lib.hid fun i hi => w4.at i hi
  have C5 := Lib.hid fun i hi => w5.at i hi
  clear w4 w5 w0 w1 w2 w3_0 w3_1
  by_cases h1 : 100 < len4
  · go_enter Try.func14, Try.ntmps14
    go_wp2_with fail
    refine (first18 _).mono ?_
    rintro e w1 ⟨rfl, hb⟩
    obtain ⟨r0, B1, s1⟩ := boxes1 hb
    have p0 : w1.cell? ⟨w.heap.size, 0, none⟩ = some (.int .i64 a3_0) := cell_of_row w1 _ 0 _ _ _ r0
    have p1 : w1.cell? ⟨w.heap.size, 1, none⟩ = some (.int .i64 a3_1) := cell_of_row w1 _ 1 _ _ _ r0
    have BB := Lib.hid B1
    clear hb r0 B1
    go_wp2_with fail
    go_ret
    exact ⟨rfl, BB.out⟩
  by_cases h2 : 100 < len5
  · go_enter Try.func14, Try.ntmps14
    go_wp2_with fail
    refine (first18 _).mono ?_
    rintro e w1 ⟨rfl, hb⟩
    obtain ⟨r0, B1, s1⟩ := boxes1 hb
    have p0 : w1.cell? ⟨w.heap.size, 0, none⟩ = some (.int .i64 a3_0) := cell_of_row w1 _ 0 _ _ _ r0
    have p1 : w1.cell? ⟨w.heap.size, 1, none⟩ = some (.int .i64 a3_1) := cell_of_row w1 _ 1 _ _ _ r0
    have BB := Lib.hid B1
    clear hb r0 B1
    go_wp2_with fail
    go_ret
    exact ⟨rfl, BB.out⟩
  by_cases h3 : a3_1 < a3_0
  · go_enter Try.func14, Try.ntmps14
    go_wp2_with fail
    refine (first18 _).mono ?_
    rintro e w1 ⟨rfl, hb⟩
    obtain ⟨r0, B1, s1⟩ := boxes1 hb
    have p0 : w1.cell? ⟨w.heap.size, 0, none⟩ = some (.int .i64 a3_0) := cell_of_row w1 _ 0 _ _ _ r0
    have p1 : w1.cell? ⟨w.heap.size, 1, none⟩ = some (.int .i64 a3_1) := cell_of_row w1 _ 1 _ _ _ r0
    have BB := Lib.hid B1
    clear hb r0 B1
    go_wp2_with fail
    go_ret
    exact ⟨rfl, BB.out⟩
  go_enter Try.func14, Try.ntmps14
  go_wp2_with fail
  refine (first18 _).mono ?_
  rintro e w1 ⟨rfl, hb⟩
  obtain ⟨r0, B1, s1⟩ := boxes1 hb
  have p0 : w1.cell? ⟨w.heap.size, 0, none⟩ = some (.int .i64 a3_0) := cell_of_row w1 _ 0 _ _ _ r0
  have p1 : w1.cell? ⟨w.heap.size, 1, none⟩ = some (.int .i64 a3_1) := cell_of_row w1 _ 1 _ _ _ r0
  have BB := Lib.hid B1
  clear hb r0 B1
  go_wp2_with fail
  refine (configC _ _ _ _).mono ?_
  rintro e w2 ⟨O, fa, fl, fc, rfl, hO, hv, hb1⟩
  have he : 0 ≤ (cfgOf (a0 % 1048576) (a1 % 1048576) (a2 % 1048576)).err ∧ (cfgOf (a0 % 1048576) (a1 % 1048576) (a2 % 1048576)).err ≤ 4 := by unfold cfgOf; simp only; omega
  generalize cfgOf (a0 % 1048576) (a1 % 1048576) (a2 % 1048576) = c at *
  simp only [cfgV]
  replace p0 := below_cell hb1 p0
  replace p1 := below_cell hb1 p1
  go_wp2_with fail
  refine upon_fresh (by simp) rfl (cfgA_one rfl rfl) ?_
  intro W1 b1 s1' h1'
  replace p0 := below_cell b1 p0
  replace p1 := below_cell b1 p1
  have HC := Lib.hid h1'
  have BX := BB.out.trans (hb1.mono BB.out.size)
  have hC0 := BX.size
  have HB := Lib.hid (BX.trans (b1.mono BX.size))
  have c5 : W1.cell? ⟨w2.heap.size, 5, none⟩ = some (.int .i64 100000) := cell_of_row W1 _ 5 _ _ _ h1'
  clear h1' b1 hb1 hv BX BB
  go_wp2_with (refine wpList_load_row_g rfl 34 _ rfl w2.heap.size rfl 34 _ (0, 0) _ HC.out Try.underlying34 rfl (by kernel_rfl) ?_)
  refine (ctrNew _ _ _ _ _ _).mono ?_
  rintro e w3 ⟨B, rfl, hB, hk, hb2⟩
  have HG := Lib.hid (of0 c a3_0 a3_1)
  have HK := Lib.hid hk
  have HC2 := Lib.hid (Cfg.below HC.out hb2 (Array.getElem?_eq_some_iff.1 HC.out).1)
  have HB2 := Lib.hid (HB.out.trans (hb2.mono HB.out.size))
  have hBn : w2.heap.size < B := Nat.lt_of_lt_of_le (Array.getElem?_eq_some_iff.1 HC.out).1 hB
  have d5 := below_cell hb2 c5
  replace p0 := below_cell hb2 p0
  replace p1 := below_cell hb2 p1
  clear hk hb2 HC HB c5
  have KC := refClampSpan a3_0 a3_1 0 100000
  rw [show clampI a3_0 0 100000 = (c.k0.set a3_0 a3_1).lo from rfl, show clampI a3_1 0 100000 = (c.k0.set a3_0 a3_1).hi from rfl] at KC
  have KC0 := Lib.hid KC
  clear KC
  generalize c.k0.set a3_0 a3_1 = k0 at *
  go_wp2_with fail
  refine (KC0.out _).mono ?_
  rintro e w4 ⟨rfl, hb3⟩
  have HK3 := Lib.hid (Ctr.below HK.out hb3 HK.out.lt)
  have HC3 := Lib.hid (Cfg.below HC2.out hb3 (Array.getElem?_eq_some_iff.1 HC2.out).1)
  have HB3 := Lib.hid (HB2.out.trans (hb3.mono HB2.out.size))
  clear hb3 HK HC2 HB2 d5 p0 p1 KC0
  go_upto_region 9 with fail
  generalize hX : World.alloc w4 _ = X
  obtain ⟨hK4, hY4, hC4, hB4⟩ : Ctr X B k0 ∧ X.heap[w4.heap.size]? = some (.cells #[.int .i64 k0.lo, .int .i64 k0.hi] 23 (0, 0)) ∧ Cfg X w2.heap.size c (.slice (some ⟨O, 0, none⟩) 4 4) (.slice fa fl fc) ∧ Below w.heap.size w X := by
    rw [← hX]
    have b9 := (Below.refl w4.heap.size w4).alloc (Nat.le_refl _) (.cells #[.int .i64 k0.lo, .int .i64 k0.hi] 23)
    exact ⟨HK3.out.below b9 HK3.out.lt, heap_alloc_new _ _, Cfg.below HC3.out b9 (Array.getElem?_eq_some_iff.1 HC3.out).1, HB3.out.trans (b9.mono HB3.out.size)⟩
  clear hX
  have hBY : B ≠ w4.heap.size := Nat.ne_of_lt HK3.out.lt
  have hCY : w2.heap.size ≠ w4.heap.size := Nat.ne_of_lt (Array.getElem?_eq_some_iff.1 HC3.out).1
  have hYn : w.heap.size ≤ w4.heap.size := HB3.out.size
  clear HK3 HC3 HB3
  generalize w4.heap.size = Y at *
  have HK4 := Lib.hid hK4
  have HY4 := Lib.hid hY4
  have HC4 := Lib.hid hC4
  have HB4 := Lib.hid hB4
  go_cut [58] (fun s58 wx => s58 = .bool false ∧ Below X.heap.size X wx)
  case first =>
    have KQ := Lib.hid fun (w : World) h => ctrQ B k0 w h
    have KS := Lib.hid fun (w : World) => sameSpan k0.lo k0.hi k0.lo k0.hi w
    rw [sameB_self] at KS
    have l0 : X.drew.cell? ⟨Y, 0, none⟩ = some (.int .i64 k0.lo) := cell_of_row X _ 0 _ _ _ hY4
    have l1 : X.drew.cell? ⟨Y, 1, none⟩ = some (.int .i64 k0.hi) := cell_of_row X _ 1 _ _ _ hY4
    clear hK4 hY4 hC4 hB4
    go_region_with (first
      | (go_at_call 31; (with_reducible refine (KQ.out _ ?_).mono ?_); exact HK4.out; rintro e w5 ⟨rfl, hb5⟩; have l0 := below_cell hb5 l0; have l1 := below_cell hb5 l1; have B5 := Lib.hid hb5; clear hb5; dsimp only)
      | (go_at_call 35; (with_reducible refine (KS.out _).mono ?_); rintro e w6 ⟨rfl, hb6⟩; have B6 := Lib.hid hb6; clear hb6; dsimp only))
    all_goals
      go_wp2_with fail
      go_meet
      exact ⟨rfl, (Below.refl _ _).drew.trans ((B5.out.trans (B6.out.mono B5.out.size)).mono (Nat.le_refl _))⟩
  case rest =>
  obtain ⟨rfl, hb⟩ := hcut
  have HK5 := Lib.hid (HK4.out.below hb HK4.out.lt)
  have HY5 := Lib.hid (row_below hb HY4.out)
  have HC5 := Lib.hid (Cfg.below HC4.out hb (Array.getElem?_eq_some_iff.1 HC4.out).1)
  have HB5 := Lib.hid (HB4.out.trans (hb.mono HB4.out.size))
  clear hb hK4 hY4 hC4 hB4 HK4 HY4 HC4 HB4
  go_wp2_with fail
  go_loopw [17] (fun v wr => ∃ (i : Nat) (k : CK), i ≤ len4 ∧ v = .int .i64 i ∧ k.Of c ∧ Ctr wr B k ∧ wr.heap[Y]? = some (.cells #[.int .i64 k.lo, .int .i64 k.hi] 23 (0, 0)) ∧ Cfg wr w2.heap.size c (.slice (some ⟨O, 0, none⟩) 4 4) (.slice fa fl fc) ∧ Below w.heap.size w wr) (fun v _ => len4 - (intOf v).toNat)
  case atStart => exact ⟨0, k0, by omega, rfl, HG.out, HK5.out, HY5.out, HC5.out, HB5.out⟩
  case round =>
    obtain ⟨i, k, hi, rfl, hg, hk, hy, hc, hb⟩ := hrel
    have FG := Lib.hid hg
    have FK := Lib.hid hk
    have FY := Lib.hid hy
    have FC := Lib.hid hc
    have FB := Lib.hid hb
    clear hg hk hy hc hb HG HK5 HY5 HC5 HB5
    by_cases hl : i < len4
    · obtain ⟨x4, rfl, o4, c4⟩ := C4.out i hl
      obtain ⟨v4, f4, hv4, hz4⟩ : ∃ v f, I64 v ∧ z4 i = [.int .i64 v, .bool f] := by
        obtain ⟨_, _, e1, ⟨v, rfl, hv⟩, o⟩ := oks_cons o4
        obtain ⟨_, _, rfl, ⟨f, rfl⟩, o2⟩ := oks_cons o
        obtain rfl := oks_nil o2
        exact ⟨v, f, by have := bounds_i64 hv; exact this, e1⟩
      rw [hz4] at c4
      clear o4 hz4
      have c40 : w.cell? (x4.add (i * 2)) = some (.int .i64 v4) := c4 0 (.int .i64 v4) rfl
      have c41 : w.cell? (x4.add (i * 2 + 1)) = some (.bool f4) := c4 1 (.bool f4) rfl
      clear c4
      by_cases h5 : i < len5
      · obtain ⟨x5, rfl, c5⟩ := C5.out i h5
        have D5 := Lib.hid (below_cell FB.out c5)
        clear c5
        generalize z5.getD i 0 = y5 at *
        cases hbit : (bits .and .i64 y5 7 == 0)
        · have d5 : wr.cell? (x5.add i) = some (.int .i64 y5) := D5.out
          have HG1 := FG
          have HK1 := FK
          have HY1 := FY
          have HC1 := FC
          have HB1 := FB
          clear FG FK FY FC FB
          go_upto_region 18 with fail
          have e0 : wr.cell? (x4.add (i * 2)) = some (.int .i64 v4) := below_cell HB1.out c40
          have e1 : wr.cell? (x4.add (i * 2 + 1)) = some (.bool f4) := below_cell HB1.out c41
          have e2 : wr.cell? ⟨(x4.add (i * 2)).block, (x4.add (i * 2)).off + 1, none⟩ = some (.bool f4) := (show wr.cell? ((x4.add (i * 2)).add 1) = some (.bool f4) by rw [Addr.add_add]; exact e1)
          go_cut [19] (fun s19 wx => ∃ P : Nat, s19 = .pointer (some ⟨P, 0, none⟩) ∧ wr.heap.size ≤ P ∧ wx.heap[P]? = some (.cells #[.int .i64 v4, .bool f4] 50 (0, 0)) ∧ Below wr.heap.size wr wx)
          case first =>
            go_wp2_with fail
            all_goals
              go_meet
              exact ⟨_, rfl, Nat.le_refl _, heap_alloc_new _ _, (Below.refl _ _).alloc (Nat.le_refl _) _⟩
          case rest =>
          obtain ⟨P, rfl, hP, hrow, hbP⟩ := hcut
          have p0 : wc.cell? ⟨P, 0, none⟩ = some (.int .i64 v4) := cell_of_row wc _ 0 _ _ _ hrow
          have pf : ∀ j, wc.frozen? ⟨P, j, none⟩ = false := fun j => by simp [World.frozen?, hrow]
          clear e0 e1 e2
          go_upto_region 19 with fail
          go_cut [] (fun wx => wx.heap[P]? = some (.cells #[.int .i64 (v4.tmod 500001), .bool f4] 50 (0, 0)) ∧ Below wr.heap.size wr wx)
          case first =>
            go_wp2_with fail
            all_goals
              go_meet
              exact ⟨by simp [World.setCell, Array.getElem?_modify, hrow], hbP.setCell (p := ⟨P, 0, none⟩) hP _⟩
          case rest =>
          obtain ⟨hrow2, hbP2⟩ := hcut
          have JP := Lib.hid hrow2
          have JK := Lib.hid (HK1.out.below hbP2 HK1.out.lt)
          have JY := Lib.hid (row_below hbP2 HY1.out)
          have JC := Lib.hid (Cfg.below HC1.out hbP2 (Array.getElem?_eq_some_iff.1 HC1.out).1)
          have JB := Lib.hid (HB1.out.trans (hbP2.mono HB1.out.size))
          have hPB : B ≠ P := by have := HK1.out.lt; omega
          have hPY : Y ≠ P := by have := (Array.getElem?_eq_some_iff.1 HY1.out).1; omega
          have hPC : w2.heap.size ≠ P := by have := (Array.getElem?_eq_some_iff.1 HC1.out).1; omega
          clear hrow hrow2 hbP hbP2 p0 pf HK1 HY1 HC1 HB1 hP
          have hv5 := tmodD v4 500001 (by omega)
          generalize v4.tmod 500001 = v5 at *
          have KT := fun (w : World) => countedC c he (.slice (some ⟨O, 0, none⟩) 4 4) (.slice fa fl fc) k.lo k.hi v5 f4 (by have := HG1.out.lo; unfold I64; omega) (by have := HG1.out.hi; unfold I64; omega) (by unfold I64; omega) w
          rw [HG1.out.eq] at KT
          have KTH := Lib.hid KT
          clear KT
          have KST : ∀ (w : World) (h : Ctr w B k), Calls Try.prog 30 #[.pointer (some ⟨B, 0, none⟩), .agg #[.int .i64 v5, .bool f4]] w fun e w' => e = .returned (.agg #[.int .i64 (k.step v5 f4).lo, .int .i64 (k.step v5 f4).hi]) ∧ Ctr w' B (k.step v5 f4) ∧ Only B w w' := by
            intro w h
            cases f4
            · exact ctrStepF B k (HG1.out.ok he) v5 (by unfold I64; omega) w h
            · exact ctrStepT B k (HG1.out.ok he) v5 (by unfold I64; omega) w h
          have KSH := Lib.hid KST
          clear KST
          have HGN := Lib.hid (show (k.step v5 f4).Of c from HG1.out.set _ _)
          generalize k.step v5 f4 = k2 at *
          go_upto_region 20 with fail
          go_cut [] (fun wx => wx.heap[Y]? = some (.cells #[.int .i64 (k2.lo), .int .i64 (k2.hi)] 23 (0, 0)) ∧ Ctr wx B k ∧ wx.heap[P]? = some (.cells #[.int .i64 v5, .bool f4] 50 (0, 0)) ∧ Cfg wx w2.heap.size c (.slice (some ⟨O, 0, none⟩) 4 4) (.slice fa fl fc) ∧ Below w.heap.size w wx)
          case first =>
            have y0 : wc.cell? ⟨Y, 0, none⟩ = some (.int .i64 k.lo) := cell_of_row wc _ 0 _ _ _ JY.out
            have y1 : wc.cell? ⟨Y, 1, none⟩ = some (.int .i64 k.hi) := cell_of_row wc _ 1 _ _ _ JY.out
            have q0 : wc.cell? ⟨P, 0, none⟩ = some (.int .i64 v5) := cell_of_row wc _ 0 _ _ _ JP.out
            have q1 : wc.cell? ⟨P, 1, none⟩ = some (.bool f4) := cell_of_row wc _ 1 _ _ _ JP.out
            go_wp2_with (refine wpList_load_row_g rfl 34 _ rfl w2.heap.size rfl 34 _ (0, 0) _ JC.out Try.underlying34 rfl (by kernel_rfl) ?_)
            refine (KTH.out _).mono ?_
            rintro e w8 ⟨rfl, hb8⟩
            have hy8 := row_below hb8 JY.out
            have z0 : w8.cell? ⟨Y, 0, none⟩ = some (.int .i64 k.lo) := cell_of_row w8 _ 0 _ _ _ hy8
            have z1 : w8.cell? ⟨Y, 1, none⟩ = some (.int .i64 k.hi) := cell_of_row w8 _ 1 _ _ _ hy8
            have zf : ∀ j, w8.frozen? ⟨Y, j, none⟩ = false := fun j => by simp [World.frozen?, hy8]
            have E8 := Lib.hid hb8
            have HY8 := Lib.hid hy8
            clear hb8 hy8
            go_wp2_with fail
            go_meet
            have o : ∀ k, k ≠ Y → ((w8.setCell ⟨Y, 0, none⟩ (.int .i64 k2.lo)).setCell ⟨Y, 1, none⟩ (.int .i64 k2.hi)).heap[k]? = w8.heap[k]? := fun k hk => (heap_setCell_other _ ⟨_, _, _⟩ _ _ hk).trans (heap_setCell_other _ ⟨_, _, _⟩ _ _ hk)
            have hy9 := HY8.out
            refine ⟨by simp [World.setCell, Array.getElem?_modify, hy9], (o _ hBY).trans (JK.out.below E8.out JK.out.lt), (o _ hPY.symm).trans (row_below E8.out JP.out), (o _ hCY).trans (Cfg.below JC.out E8.out (Array.getElem?_eq_some_iff.1 JC.out).1), ((JB.out.trans (E8.out.mono JB.out.size)).setCell (p := ⟨Y, 0, none⟩) hYn _).setCell (p := ⟨Y, 1, none⟩) hYn _⟩
          case rest =>
          obtain ⟨hy, hk, hp, hc, hb⟩ := hcut
          clear JP JK JY JC JB
          have FY2 := Lib.hid hy
          have FK2 := Lib.hid hk
          have FP2 := Lib.hid hp
          have FC2 := Lib.hid hc
          have FB2 := Lib.hid hb
          clear hy hk hp hc hb
          go_upto_region 21 with fail
          go_cut [119] (fun s wx => s = .bool false ∧ Ctr wx B k2 ∧ wx.heap[Y]? = some (.cells #[.int .i64 (k2.lo), .int .i64 (k2.hi)] 23 (0, 0)) ∧ Cfg wx w2.heap.size c (.slice (some ⟨O, 0, none⟩) 4 4) (.slice fa fl fc) ∧ Below w.heap.size w wx)
          case first =>
            have KQ := Lib.hid fun (w : World) h => ctrQ B k2 w h
            have KS := Lib.hid fun (w : World) => sameSpan k2.lo k2.hi k2.lo k2.hi w
            rw [sameB_self] at KS
            have q0 : wc.drew.cell? ⟨P, 0, none⟩ = some (.int .i64 v5) := cell_of_row wc _ 0 _ _ _ FP2.out
            have q1 : wc.drew.cell? ⟨P, 1, none⟩ = some (.bool f4) := cell_of_row wc _ 1 _ _ _ FP2.out
            have l0 : wc.drew.cell? ⟨Y, 0, none⟩ = some (.int .i64 k2.lo) := cell_of_row wc _ 0 _ _ _ FY2.out
            have l1 : wc.drew.cell? ⟨Y, 1, none⟩ = some (.int .i64 k2.hi) := cell_of_row wc _ 1 _ _ _ FY2.out
            go_region_with (first
              | (go_at_call 30; (with_reducible refine (KSH.out _ ?_).mono ?_); exact FK2.out; rintro e w5 ⟨rfl, H5, ho⟩; have l0 := ho.cell l0 hBY.symm; have l1 := ho.cell l1 hBY.symm; have GK := Lib.hid H5; have GY := Lib.hid (ho.row (w := wc.drew) FY2.out hBY.symm); have GC := Lib.hid (show Cfg w5 w2.heap.size _ _ _ from ho.row (w := wc.drew) FC2.out (Nat.ne_of_lt hBn)); have GB := Lib.hid (FB2.out.drew.trans (ho.below (Nat.le_trans hC0 (Nat.le_of_lt hBn)) FB2.out.drew.size)); clear H5 ho; dsimp only)
              | (go_at_call 35; (with_reducible refine (KS.out _).mono ?_); rintro e w6 ⟨rfl, hb6⟩; have l0 := below_cell hb6 l0; have l1 := below_cell hb6 l1; have GY := Lib.hid (row_below hb6 GY.out); have GC := Lib.hid (Cfg.below GC.out hb6 (Array.getElem?_eq_some_iff.1 GC.out).1); have GB := Lib.hid (GB.out.trans (hb6.mono GB.out.size)); have GK := Lib.hid (GK.out.below hb6 GK.out.lt); clear hb6; dsimp only)
              | (go_at_call 31; (with_reducible refine (KQ.out _ ?_).mono ?_); exact GK.out; rintro e w7 ⟨rfl, hb7⟩; have l0 := below_cell hb7 l0; have l1 := below_cell hb7 l1; have GY := Lib.hid (row_below hb7 GY.out); have GC := Lib.hid (Cfg.below GC.out hb7 (Array.getElem?_eq_some_iff.1 GC.out).1); have GB := Lib.hid (GB.out.trans (hb7.mono GB.out.size)); have GK := Lib.hid (GK.out.below hb7 GK.out.lt); clear hb7; dsimp only))
            all_goals
              go_wp2_with fail
              go_meet
              exact ⟨rfl, GK.out, GY.out, GC.out, GB.out⟩
          case rest =>
          obtain ⟨rfl, hk, hy, hc, hb⟩ := hcut
          go_wp2_with fail
          go_roundw
          case rel => exact ⟨i + 1, k2, by omega, by go_num, HGN.out, hk, hy, hc, hb⟩
          case measure => simp [intOf]; omega
        · have d5 : wr.cell? (x5.add i) = some (.int .i64 y5) := D5.out
          have d1 : wr.drew.cell? (x5.add i) = some (.int .i64 y5) := D5.out
          have d2 : ∀ o, (wr.alloc o).drew.cell? (x5.add i) = some (.int .i64 y5) := fun o => cell_alloc D5.out o
          have FN := Lib.hid (heap_alloc_new wr (.cells #[.int .i64 0, .int .i64 0] 23))
          have FA := Lib.hid ((Below.refl wr.heap.size wr).alloc (Nat.le_refl _) (.cells #[.int .i64 0, .int .i64 0] 23))
          go_upto_region 15 with fail
          go_cut [18] (fun s18 wx => ∃ (P : Nat) (a b : Int), s18 = .pointer (some ⟨P, 0, none⟩) ∧ wr.heap.size ≤ P ∧ wx.heap[P]? = some (.cells #[.int .i64 a, .int .i64 b] 23 (0, 0)) ∧ Below wr.heap.size wr wx)
          case first =>
            go_region_with (first
              | (go_at_call 36; (with_reducible refine (refOf _ _ _).mono ?_); rintro e w5 ⟨rfl, hb5⟩; have h5 := row_below (w := (wr.alloc (.cells #[.int .i64 0, .int .i64 0] 23)).drew) hb5 FN.out; have y0 : w5.cell? ⟨wr.heap.size, 0, none⟩ = some (.int .i64 0) := cell_of_row w5 _ 0 _ _ _ h5; have y1 : w5.cell? ⟨wr.heap.size, 1, none⟩ = some (.int .i64 0) := cell_of_row w5 _ 1 _ _ _ h5; have yf : ∀ j, w5.frozen? ⟨wr.heap.size, j, none⟩ = false := fun j => (by simp [World.frozen?, h5]); have H5 := Lib.hid h5; have G5 := Lib.hid (FA.out.drew.trans (hb5.mono FA.out.drew.size)); clear h5 hb5; dsimp only)
              | (go_at_call 36; (with_reducible refine (refOf _ _ _).mono ?_); rintro e w5 ⟨rfl, hb5⟩; have G5 := Lib.hid ((Below.refl wr.heap.size wr).drew.trans (hb5.mono (Nat.le_refl _))); clear hb5; dsimp only))
            all_goals
              go_wp2_with fail
              go_meet
              first
                | exact ⟨w5.heap.size, _, _, rfl, G5.out.size, heap_alloc_new _ _, G5.out.alloc G5.out.size _⟩
                | (have h6 := H5.out
                   exact ⟨wr.heap.size, _, _, rfl, Nat.le_refl _, by simp [World.setCell, Array.getElem?_modify, h6]; exact ⟨rfl, rfl⟩, (G5.out.setCell (p := ⟨wr.heap.size, 0, none⟩) (Nat.le_refl _) _).setCell (p := ⟨wr.heap.size, 1, none⟩) (Nat.le_refl _) _⟩)
          case rest =>
          obtain ⟨Z, a, b, rfl, hZ, hzr, hbz⟩ := hcut
          have z0 : wc.cell? ⟨Z, 0, none⟩ = some (.int .i64 a) := cell_of_row wc _ 0 _ _ _ hzr
          have z1 : wc.cell? ⟨Z, 1, none⟩ = some (.int .i64 b) := cell_of_row wc _ 1 _ _ _ hzr
          have hZB : Z ≠ B := by have := FK.out.lt; omega
          have HZ := Lib.hid hzr
          have IK := Lib.hid (FK.out.below hbz FK.out.lt)
          have IY := Lib.hid (row_below hbz FY.out)
          have IC := Lib.hid (Cfg.below FC.out hbz (Array.getElem?_eq_some_iff.1 FC.out).1)
          have IB := Lib.hid (FB.out.trans (hbz.mono FB.out.size))
          clear hzr hbz FK FY FC FB FN FA d1 d2 d5 D5
          go_upto_region 16 with fail
          go_wp2_with fail
          refine (ctrSet B k a b _ IK.out).mono ?_
          rintro e w6 ⟨rfl, hk, ho⟩
          have KC := refClampSpan a b 0 100000
          rw [show clampI a 0 100000 = (k.set a b).lo by unfold CK.set; rw [FG.out.full], show clampI b 0 100000 = (k.set a b).hi by unfold CK.set; rw [FG.out.full]] at KC
          have KC0 := Lib.hid KC
          have HG1 := Lib.hid (FG.out.set a b)
          generalize k.set a b = k1 at *
          have JK := Lib.hid hk
          have JZ := ho.row HZ.out hZB
          have JY := Lib.hid (ho.row IY.out hBY.symm)
          have JC := Lib.hid (show Cfg w6 w2.heap.size _ _ _ from ho.row IC.out (by omega))
          have JB := Lib.hid (IB.out.trans (ho.below (by omega) IB.out.size))
          have z0' : w6.cell? ⟨Z, 0, none⟩ = some (.int .i64 a) := cell_of_row w6 _ 0 _ _ _ JZ
          have z1' : w6.cell? ⟨Z, 1, none⟩ = some (.int .i64 b) := cell_of_row w6 _ 1 _ _ _ JZ
          have g5 : w6.cell? ⟨w2.heap.size, 5, none⟩ = some (.int .i64 100000) := cell_of_row w6 _ 5 _ _ _ JC.out
          clear hk ho KC IK IY IC IB z0 z1 JZ
          go_upto_region 17 with fail
          go_cut [] (fun wx => Ctr wx B k1 ∧ wx.heap[Y]? = some (.cells #[.int .i64 (k1.lo), .int .i64 (k1.hi)] 23 (0, 0)) ∧ Cfg wx w2.heap.size c (.slice (some ⟨O, 0, none⟩) 4 4) (.slice fa fl fc) ∧ Below w.heap.size w wx)
          case first =>
            go_wp2_with fail
            refine (KC0.out _).mono ?_
            rintro e w8 ⟨rfl, hb8⟩
            have hy8 := row_below hb8 JY.out
            have y0 : w8.cell? ⟨Y, 0, none⟩ = some (.int .i64 k.lo) := cell_of_row w8 _ 0 _ _ _ hy8
            have y1 : w8.cell? ⟨Y, 1, none⟩ = some (.int .i64 k.hi) := cell_of_row w8 _ 1 _ _ _ hy8
            have yf : ∀ j, w8.frozen? ⟨Y, j, none⟩ = false := fun j => by simp [World.frozen?, hy8]
            have E8 := Lib.hid hb8
            have HY8 := Lib.hid hy8
            clear hb8 hy8
            go_wp2_with fail
            go_meet
            have o : ∀ x, x ≠ Y → ((w8.setCell ⟨Y, 0, none⟩ (.int .i64 k1.lo)).setCell ⟨Y, 1, none⟩ (.int .i64 k1.hi)).heap[x]? = w8.heap[x]? := fun x hx => (heap_setCell_other _ ⟨_, _, _⟩ _ _ hx).trans (heap_setCell_other _ ⟨_, _, _⟩ _ _ hx)
            have hy9 := HY8.out
            exact ⟨(o _ hBY).trans (JK.out.below E8.out JK.out.lt), by simp [World.setCell, Array.getElem?_modify, hy9], (o _ hCY).trans (Cfg.below JC.out E8.out (Array.getElem?_eq_some_iff.1 JC.out).1), ((JB.out.trans (E8.out.mono JB.out.size)).setCell (p := ⟨Y, 0, none⟩) hYn _).setCell (p := ⟨Y, 1, none⟩) hYn _⟩
          case rest =>
          obtain ⟨hk, hy, hc, hb⟩ := hcut
          have HK1 := Lib.hid hk
          have HY1 := Lib.hid hy
          have HC1 := Lib.hid hc
          have HB1 := Lib.hid hb
          clear hk hy hc hb JK JY JC JB KC0 z0' z1' g5 HZ FG
          generalize hwc : wc = W9 at *
          clear hwc
          go_upto_region 18 with fail
          have e0 : W9.cell? (x4.add (i * 2)) = some (.int .i64 v4) := below_cell HB1.out c40
          have e1 : W9.cell? (x4.add (i * 2 + 1)) = some (.bool f4) := below_cell HB1.out c41
          have e2 : W9.cell? ⟨(x4.add (i * 2)).block, (x4.add (i * 2)).off + 1, none⟩ = some (.bool f4) := (show W9.cell? ((x4.add (i * 2)).add 1) = some (.bool f4) by rw [Addr.add_add]; exact e1)
          go_cut [19] (fun s19 wx => ∃ P : Nat, s19 = .pointer (some ⟨P, 0, none⟩) ∧ W9.heap.size ≤ P ∧ wx.heap[P]? = some (.cells #[.int .i64 v4, .bool f4] 50 (0, 0)) ∧ Below W9.heap.size W9 wx)
          case first =>
            go_wp2_with fail
            all_goals
              go_meet
              exact ⟨_, rfl, Nat.le_refl _, heap_alloc_new _ _, (Below.refl _ _).alloc (Nat.le_refl _) _⟩
          case rest =>
          obtain ⟨P, rfl, hP, hrow, hbP⟩ := hcut
          have p0 : wc.cell? ⟨P, 0, none⟩ = some (.int .i64 v4) := cell_of_row wc _ 0 _ _ _ hrow
          have pf : ∀ j, wc.frozen? ⟨P, j, none⟩ = false := fun j => by simp [World.frozen?, hrow]
          clear e0 e1 e2
          go_upto_region 19 with fail
          go_cut [] (fun wx => wx.heap[P]? = some (.cells #[.int .i64 (v4.tmod 500001), .bool f4] 50 (0, 0)) ∧ Below W9.heap.size W9 wx)
          case first =>
            go_wp2_with fail
            all_goals
              go_meet
              exact ⟨by simp [World.setCell, Array.getElem?_modify, hrow], hbP.setCell (p := ⟨P, 0, none⟩) hP _⟩
          case rest =>
          obtain ⟨hrow2, hbP2⟩ := hcut
          have JP := Lib.hid hrow2
          have JK := Lib.hid (HK1.out.below hbP2 HK1.out.lt)
          have JY := Lib.hid (row_below hbP2 HY1.out)
          have JC := Lib.hid (Cfg.below HC1.out hbP2 (Array.getElem?_eq_some_iff.1 HC1.out).1)
          have JB := Lib.hid (HB1.out.trans (hbP2.mono HB1.out.size))
          have hPB : B ≠ P := by have := HK1.out.lt; omega
          have hPY : Y ≠ P := by have := (Array.getElem?_eq_some_iff.1 HY1.out).1; omega
          have hPC : w2.heap.size ≠ P := by have := (Array.getElem?_eq_some_iff.1 HC1.out).1; omega
          clear hrow hrow2 hbP hbP2 p0 pf HK1 HY1 HC1 HB1 hP
          have hv5 := tmodD v4 500001 (by omega)
          generalize v4.tmod 500001 = v5 at *
          have KT := fun (w : World) => countedC c he (.slice (some ⟨O, 0, none⟩) 4 4) (.slice fa fl fc) k1.lo k1.hi v5 f4 (by have := HG1.out.lo; unfold I64; omega) (by have := HG1.out.hi; unfold I64; omega) (by unfold I64; omega) w
          rw [HG1.out.eq] at KT
          have KTH := Lib.hid KT
          clear KT
          have KST : ∀ (w : World) (h : Ctr w B k1), Calls Try.prog 30 #[.pointer (some ⟨B, 0, none⟩), .agg #[.int .i64 v5, .bool f4]] w fun e w' => e = .returned (.agg #[.int .i64 (k1.step v5 f4).lo, .int .i64 (k1.step v5 f4).hi]) ∧ Ctr w' B (k1.step v5 f4) ∧ Only B w w' := by
            intro w h
            cases f4
            · exact ctrStepF B k1 (HG1.out.ok he) v5 (by unfold I64; omega) w h
            · exact ctrStepT B k1 (HG1.out.ok he) v5 (by unfold I64; omega) w h
          have KSH := Lib.hid KST
          clear KST
          have HGN := Lib.hid (show (k1.step v5 f4).Of c from HG1.out.set _ _)
          generalize k1.step v5 f4 = k2 at *
          go_upto_region 20 with fail
          go_cut [] (fun wx => wx.heap[Y]? = some (.cells #[.int .i64 (k2.lo), .int .i64 (k2.hi)] 23 (0, 0)) ∧ Ctr wx B k1 ∧ wx.heap[P]? = some (.cells #[.int .i64 v5, .bool f4] 50 (0, 0)) ∧ Cfg wx w2.heap.size c (.slice (some ⟨O, 0, none⟩) 4 4) (.slice fa fl fc) ∧ Below w.heap.size w wx)
          case first =>
            have y0 : wc.cell? ⟨Y, 0, none⟩ = some (.int .i64 k1.lo) := cell_of_row wc _ 0 _ _ _ JY.out
            have y1 : wc.cell? ⟨Y, 1, none⟩ = some (.int .i64 k1.hi) := cell_of_row wc _ 1 _ _ _ JY.out
            have q0 : wc.cell? ⟨P, 0, none⟩ = some (.int .i64 v5) := cell_of_row wc _ 0 _ _ _ JP.out
            have q1 : wc.cell? ⟨P, 1, none⟩ = some (.bool f4) := cell_of_row wc _ 1 _ _ _ JP.out
            go_wp2_with (refine wpList_load_row_g rfl 34 _ rfl w2.heap.size rfl 34 _ (0, 0) _ JC.out Try.underlying34 rfl (by kernel_rfl) ?_)
            refine (KTH.out _).mono ?_
            rintro e w8 ⟨rfl, hb8⟩
            have hy8 := row_below hb8 JY.out
            have z0 : w8.cell? ⟨Y, 0, none⟩ = some (.int .i64 k1.lo) := cell_of_row w8 _ 0 _ _ _ hy8
            have z1 : w8.cell? ⟨Y, 1, none⟩ = some (.int .i64 k1.hi) := cell_of_row w8 _ 1 _ _ _ hy8
            have zf : ∀ j, w8.frozen? ⟨Y, j, none⟩ = false := fun j => by simp [World.frozen?, hy8]
            have E8 := Lib.hid hb8
            have HY8 := Lib.hid hy8
            clear hb8 hy8
            go_wp2_with fail
            go_meet
            have o : ∀ k, k ≠ Y → ((w8.setCell ⟨Y, 0, none⟩ (.int .i64 k2.lo)).setCell ⟨Y, 1, none⟩ (.int .i64 k2.hi)).heap[k]? = w8.heap[k]? := fun k hk => (heap_setCell_other _ ⟨_, _, _⟩ _ _ hk).trans (heap_setCell_other _ ⟨_, _, _⟩ _ _ hk)
            have hy9 := HY8.out
            refine ⟨by simp [World.setCell, Array.getElem?_modify, hy9], (o _ hBY).trans (JK.out.below E8.out JK.out.lt), (o _ hPY.symm).trans (row_below E8.out JP.out), (o _ hCY).trans (Cfg.below JC.out E8.out (Array.getElem?_eq_some_iff.1 JC.out).1), ((JB.out.trans (E8.out.mono JB.out.size)).setCell (p := ⟨Y, 0, none⟩) hYn _).setCell (p := ⟨Y, 1, none⟩) hYn _⟩
          case rest =>
          obtain ⟨hy, hk, hp, hc, hb⟩ := hcut
          clear JP JK JY JC JB
          have FY2 := Lib.hid hy
          have FK2 := Lib.hid hk
          have FP2 := Lib.hid hp
          have FC2 := Lib.hid hc
          have FB2 := Lib.hid hb
          clear hy hk hp hc hb
          go_upto_region 21 with fail
          go_cut [119] (fun s wx => s = .bool false ∧ Ctr wx B k2 ∧ wx.heap[Y]? = some (.cells #[.int .i64 (k2.lo), .int .i64 (k2.hi)] 23 (0, 0)) ∧ Cfg wx w2.heap.size c (.slice (some ⟨O, 0, none⟩) 4 4) (.slice fa fl fc) ∧ Below w.heap.size w wx)
          case first =>
            have KQ := Lib.hid fun (w : World) h => ctrQ B k2 w h
            have KS := Lib.hid fun (w : World) => sameSpan k2.lo k2.hi k2.lo k2.hi w
            rw [sameB_self] at KS
            have q0 : wc.drew.cell? ⟨P, 0, none⟩ = some (.int .i64 v5) := cell_of_row wc _ 0 _ _ _ FP2.out
            have q1 : wc.drew.cell? ⟨P, 1, none⟩ = some (.bool f4) := cell_of_row wc _ 1 _ _ _ FP2.out
            have l0 : wc.drew.cell? ⟨Y, 0, none⟩ = some (.int .i64 k2.lo) := cell_of_row wc _ 0 _ _ _ FY2.out
            have l1 : wc.drew.cell? ⟨Y, 1, none⟩ = some (.int .i64 k2.hi) := cell_of_row wc _ 1 _ _ _ FY2.out
            go_region_with (first
              | (go_at_call 30; (with_reducible refine (KSH.out _ ?_).mono ?_); exact FK2.out; rintro e w5 ⟨rfl, H5, ho⟩; have l0 := ho.cell l0 hBY.symm; have l1 := ho.cell l1 hBY.symm; have GK := Lib.hid H5; have GY := Lib.hid (ho.row (w := wc.drew) FY2.out hBY.symm); have GC := Lib.hid (show Cfg w5 w2.heap.size _ _ _ from ho.row (w := wc.drew) FC2.out (Nat.ne_of_lt hBn)); have GB := Lib.hid (FB2.out.drew.trans (ho.below (Nat.le_trans hC0 (Nat.le_of_lt hBn)) FB2.out.drew.size)); clear H5 ho; dsimp only)
              | (go_at_call 35; (with_reducible refine (KS.out _).mono ?_); rintro e w6 ⟨rfl, hb6⟩; have l0 := below_cell hb6 l0; have l1 := below_cell hb6 l1; have GY := Lib.hid (row_below hb6 GY.out); have GC := Lib.hid (Cfg.below GC.out hb6 (Array.getElem?_eq_some_iff.1 GC.out).1); have GB := Lib.hid (GB.out.trans (hb6.mono GB.out.size)); have GK := Lib.hid (GK.out.below hb6 GK.out.lt); clear hb6; dsimp only)
              | (go_at_call 31; (with_reducible refine (KQ.out _ ?_).mono ?_); exact GK.out; rintro e w7 ⟨rfl, hb7⟩; have l0 := below_cell hb7 l0; have l1 := below_cell hb7 l1; have GY := Lib.hid (row_below hb7 GY.out); have GC := Lib.hid (Cfg.below GC.out hb7 (Array.getElem?_eq_some_iff.1 GC.out).1); have GB := Lib.hid (GB.out.trans (hb7.mono GB.out.size)); have GK := Lib.hid (GK.out.below hb7 GK.out.lt); clear hb7; dsimp only))
            all_goals
              go_wp2_with fail
              go_meet
              exact ⟨rfl, GK.out, GY.out, GC.out, GB.out⟩
          case rest =>
          obtain ⟨rfl, hk, hy, hc, hb⟩ := hcut
          go_wp2_with fail
          go_roundw
          case rel => exact ⟨i + 1, k2, by omega, by go_num, HGN.out, hk, hy, hc, hb⟩
          case measure => simp [intOf]; omega
      · have HG1 := FG
        have HK1 := FK
        have HY1 := FY
        have HC1 := FC
        have HB1 := FB
        clear FG FK FY FC FB
        go_upto_region 18 with fail
        have e0 : wr.cell? (x4.add (i * 2)) = some (.int .i64 v4) := below_cell HB1.out c40
        have e1 : wr.cell? (x4.add (i * 2 + 1)) = some (.bool f4) := below_cell HB1.out c41
        have e2 : wr.cell? ⟨(x4.add (i * 2)).block, (x4.add (i * 2)).off + 1, none⟩ = some (.bool f4) := (show wr.cell? ((x4.add (i * 2)).add 1) = some (.bool f4) by rw [Addr.add_add]; exact e1)
        go_cut [19] (fun s19 wx => ∃ P : Nat, s19 = .pointer (some ⟨P, 0, none⟩) ∧ wr.heap.size ≤ P ∧ wx.heap[P]? = some (.cells #[.int .i64 v4, .bool f4] 50 (0, 0)) ∧ Below wr.heap.size wr wx)
        case first =>
          go_wp2_with fail
          all_goals
            go_meet
            exact ⟨_, rfl, Nat.le_refl _, heap_alloc_new _ _, (Below.refl _ _).alloc (Nat.le_refl _) _⟩
        case rest =>
        obtain ⟨P, rfl, hP, hrow, hbP⟩ := hcut
        have p0 : wc.cell? ⟨P, 0, none⟩ = some (.int .i64 v4) := cell_of_row wc _ 0 _ _ _ hrow
        have pf : ∀ j, wc.frozen? ⟨P, j, none⟩ = false := fun j => by simp [World.frozen?, hrow]
        clear e0 e1 e2
        go_upto_region 19 with fail
        go_cut [] (fun wx => wx.heap[P]? = some (.cells #[.int .i64 (v4.tmod 500001), .bool f4] 50 (0, 0)) ∧ Below wr.heap.size wr wx)
        case first =>
          go_wp2_with fail
          all_goals
            go_meet
            exact ⟨by simp [World.setCell, Array.getElem?_modify, hrow], hbP.setCell (p := ⟨P, 0, none⟩) hP _⟩
        case rest =>
        obtain ⟨hrow2, hbP2⟩ := hcut
        have JP := Lib.hid hrow2
        have JK := Lib.hid (HK1.out.below hbP2 HK1.out.lt)
        have JY := Lib.hid (row_below hbP2 HY1.out)
        have JC := Lib.hid (Cfg.below HC1.out hbP2 (Array.getElem?_eq_some_iff.1 HC1.out).1)
        have JB := Lib.hid (HB1.out.trans (hbP2.mono HB1.out.size))
        have hPB : B ≠ P := by have := HK1.out.lt; omega
        have hPY : Y ≠ P := by have := (Array.getElem?_eq_some_iff.1 HY1.out).1; omega
        have hPC : w2.heap.size ≠ P := by have := (Array.getElem?_eq_some_iff.1 HC1.out).1; omega
        clear hrow hrow2 hbP hbP2 p0 pf HK1 HY1 HC1 HB1 hP
        have hv5 := tmodD v4 500001 (by omega)
        generalize v4.tmod 500001 = v5 at *
        have KT := fun (w : World) => countedC c he (.slice (some ⟨O, 0, none⟩) 4 4) (.slice fa fl fc) k.lo k.hi v5 f4 (by have := HG1.out.lo; unfold I64; omega) (by have := HG1.out.hi; unfold I64; omega) (by unfold I64; omega) w
        rw [HG1.out.eq] at KT
        have KTH := Lib.hid KT
        clear KT
        have KST : ∀ (w : World) (h : Ctr w B k), Calls Try.prog 30 #[.pointer (some ⟨B, 0, none⟩), .agg #[.int .i64 v5, .bool f4]] w fun e w' => e = .returned (.agg #[.int .i64 (k.step v5 f4).lo, .int .i64 (k.step v5 f4).hi]) ∧ Ctr w' B (k.step v5 f4) ∧ Only B w w' := by
          intro w h
          cases f4
          · exact ctrStepF B k (HG1.out.ok he) v5 (by unfold I64; omega) w h
          · exact ctrStepT B k (HG1.out.ok he) v5 (by unfold I64; omega) w h
        have KSH := Lib.hid KST
        clear KST
        have HGN := Lib.hid (show (k.step v5 f4).Of c from HG1.out.set _ _)
        generalize k.step v5 f4 = k2 at *
        go_upto_region 20 with fail
        go_cut [] (fun wx => wx.heap[Y]? = some (.cells #[.int .i64 (k2.lo), .int .i64 (k2.hi)] 23 (0, 0)) ∧ Ctr wx B k ∧ wx.heap[P]? = some (.cells #[.int .i64 v5, .bool f4] 50 (0, 0)) ∧ Cfg wx w2.heap.size c (.slice (some ⟨O, 0, none⟩) 4 4) (.slice fa fl fc) ∧ Below w.heap.size w wx)
        case first =>
          have y0 : wc.cell? ⟨Y, 0, none⟩ = some (.int .i64 k.lo) := cell_of_row wc _ 0 _ _ _ JY.out
          have y1 : wc.cell? ⟨Y, 1, none⟩ = some (.int .i64 k.hi) := cell_of_row wc _ 1 _ _ _ JY.out
          have q0 : wc.cell? ⟨P, 0, none⟩ = some (.int .i64 v5) := cell_of_row wc _ 0 _ _ _ JP.out
          have q1 : wc.cell? ⟨P, 1, none⟩ = some (.bool f4) := cell_of_row wc _ 1 _ _ _ JP.out
          go_wp2_with (refine wpList_load_row_g rfl 34 _ rfl w2.heap.size rfl 34 _ (0, 0) _ JC.out Try.underlying34 rfl (by kernel_rfl) ?_)
          refine (KTH.out _).mono ?_
          rintro e w8 ⟨rfl, hb8⟩
          have hy8 := row_below hb8 JY.out
          have z0 : w8.cell? ⟨Y, 0, none⟩ = some (.int .i64 k.lo) := cell_of_row w8 _ 0 _ _ _ hy8
          have z1 : w8.cell? ⟨Y, 1, none⟩ = some (.int .i64 k.hi) := cell_of_row w8 _ 1 _ _ _ hy8
          have zf : ∀ j, w8.frozen? ⟨Y, j, none⟩ = false := fun j => by simp [World.frozen?, hy8]
          have E8 := Lib.hid hb8
          have HY8 := Lib.hid hy8
          clear hb8 hy8
          go_wp2_with fail
          go_meet
          have o : ∀ k, k ≠ Y → ((w8.setCell ⟨Y, 0, none⟩ (.int .i64 k2.lo)).setCell ⟨Y, 1, none⟩ (.int .i64 k2.hi)).heap[k]? = w8.heap[k]? := fun k hk => (heap_setCell_other _ ⟨_, _, _⟩ _ _ hk).trans (heap_setCell_other _ ⟨_, _, _⟩ _ _ hk)
          have hy9 := HY8.out
          refine ⟨by simp [World.setCell, Array.getElem?_modify, hy9], (o _ hBY).trans (JK.out.below E8.out JK.out.lt), (o _ hPY.symm).trans (row_below E8.out JP.out), (o _ hCY).trans (Cfg.below JC.out E8.out (Array.getElem?_eq_some_iff.1 JC.out).1), ((JB.out.trans (E8.out.mono JB.out.size)).setCell (p := ⟨Y, 0, none⟩) hYn _).setCell (p := ⟨Y, 1, none⟩) hYn _⟩
        case rest =>
        obtain ⟨hy, hk, hp, hc, hb⟩ := hcut
        clear JP JK JY JC JB
        have FY2 := Lib.hid hy
        have FK2 := Lib.hid hk
        have FP2 := Lib.hid hp
        have FC2 := Lib.hid hc
        have FB2 := Lib.hid hb
        clear hy hk hp hc hb
        go_upto_region 21 with fail
        go_cut [119] (fun s wx => s = .bool false ∧ Ctr wx B k2 ∧ wx.heap[Y]? = some (.cells #[.int .i64 (k2.lo), .int .i64 (k2.hi)] 23 (0, 0)) ∧ Cfg wx w2.heap.size c (.slice (some ⟨O, 0, none⟩) 4 4) (.slice fa fl fc) ∧ Below w.heap.size w wx)
        case first =>
          have KQ := Lib.hid fun (w : World) h => ctrQ B k2 w h
          have KS := Lib.hid fun (w : World) => sameSpan k2.lo k2.hi k2.lo k2.hi w
          rw [sameB_self] at KS
          have q0 : wc.drew.cell? ⟨P, 0, none⟩ = some (.int .i64 v5) := cell_of_row wc _ 0 _ _ _ FP2.out
          have q1 : wc.drew.cell? ⟨P, 1, none⟩ = some (.bool f4) := cell_of_row wc _ 1 _ _ _ FP2.out
          have l0 : wc.drew.cell? ⟨Y, 0, none⟩ = some (.int .i64 k2.lo) := cell_of_row wc _ 0 _ _ _ FY2.out
          have l1 : wc.drew.cell? ⟨Y, 1, none⟩ = some (.int .i64 k2.hi) := cell_of_row wc _ 1 _ _ _ FY2.out
          go_region_with (first
            | (go_at_call 30; (with_reducible refine (KSH.out _ ?_).mono ?_); exact FK2.out; rintro e w5 ⟨rfl, H5, ho⟩; have l0 := ho.cell l0 hBY.symm; have l1 := ho.cell l1 hBY.symm; have GK := Lib.hid H5; have GY := Lib.hid (ho.row (w := wc.drew) FY2.out hBY.symm); have GC := Lib.hid (show Cfg w5 w2.heap.size _ _ _ from ho.row (w := wc.drew) FC2.out (Nat.ne_of_lt hBn)); have GB := Lib.hid (FB2.out.drew.trans (ho.below (Nat.le_trans hC0 (Nat.le_of_lt hBn)) FB2.out.drew.size)); clear H5 ho; dsimp only)
            | (go_at_call 35; (with_reducible refine (KS.out _).mono ?_); rintro e w6 ⟨rfl, hb6⟩; have l0 := below_cell hb6 l0; have l1 := below_cell hb6 l1; have GY := Lib.hid (row_below hb6 GY.out); have GC := Lib.hid (Cfg.below GC.out hb6 (Array.getElem?_eq_some_iff.1 GC.out).1); have GB := Lib.hid (GB.out.trans (hb6.mono GB.out.size)); have GK := Lib.hid (GK.out.below hb6 GK.out.lt); clear hb6; dsimp only)
            | (go_at_call 31; (with_reducible refine (KQ.out _ ?_).mono ?_); exact GK.out; rintro e w7 ⟨rfl, hb7⟩; have l0 := below_cell hb7 l0; have l1 := below_cell hb7 l1; have GY := Lib.hid (row_below hb7 GY.out); have GC := Lib.hid (Cfg.below GC.out hb7 (Array.getElem?_eq_some_iff.1 GC.out).1); have GB := Lib.hid (GB.out.trans (hb7.mono GB.out.size)); have GK := Lib.hid (GK.out.below hb7 GK.out.lt); clear hb7; dsimp only))
          all_goals
            go_wp2_with fail
            go_meet
            exact ⟨rfl, GK.out, GY.out, GC.out, GB.out⟩
        case rest =>
        obtain ⟨rfl, hk, hy, hc, hb⟩ := hcut
        go_wp2_with fail
        go_roundw
        case rel => exact ⟨i + 1, k2, by omega, by go_num, HGN.out, hk, hy, hc, hb⟩
        case measure => simp [intOf]; omega
    · go_wp2_with fail
      go_ret
      exact ⟨rfl, FB.out⟩
end Go.Proofs.Ytomjhoaffbjkgaa
