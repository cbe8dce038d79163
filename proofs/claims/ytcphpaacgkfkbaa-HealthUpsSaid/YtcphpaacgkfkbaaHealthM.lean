/- HealthMays holds: each call returns true. Conditions: the arguments are a number of 64 bits and a slice of bools. -/
import Derived.Test.YtcphpaacgkfkbaaHealthS
import Derived.Test.YtcphpaacgkfkbaaPh
namespace Go.Proofs.Ytcphpaacgkfkbaa
open Go.RowKit
set_option linter.unusedVariables false
theorem step_mk (B U V X : Nat) (s s' : HS) (i : HI) (u : Bool) (hs : s.step i = s') (hu' : s'.usable = u) (hA : Apart B U V X) (hu : s.up.Ok) (ho : s.over.Ok) (hsk : s.sick.Ok) (ht : -1000000 ≤ s.trip ∧ s.trip ≤ 1000000) (w : World) (h : Src w B U V X s) :
    Calls Try.prog 17 #[.pointer (some ⟨B, 0, none⟩), i.v] w fun e w' => e = .returned (.bool u) ∧ Src w' B U V X s' ∧ Only4 B U V X w w' := by
  subst hs; subst hu'
  exact healthStep B U V X s i hA hu ho hsk ht w h
theorem ok0 (k : FK) (h : k.c = 0) : k.Ok := by unfold FK.Ok; omega
theorem first17 (w : World) : Calls Try.prog 12 #[] w fun e w' => e = .returned (.bool true) ∧ Below w.heap.size w w' := by
  go_enter Try.func12, Try.ntmps12
  go_wp2_with fail
  refine (configC 0 0 0 _).mono ?_
  rintro e w1 ⟨O, fa, fl, fc, rfl, hO, hv, hb1⟩
  have HB1 := Lib.hid hb1
  clear hb1 hv
  simp only [cfgV]
  go_wp2_with fail
  refine (healthNew _ _ _ _).mono ?_
  rintro e w2 ⟨B, U, V, X, rfl, hS, hA, hL, hb2⟩
  have HS2 := Lib.hid hS
  have HB2 := Lib.hid (HB1.out.trans (hb2.mono HB1.out.size))
  have hsz := HB1.out.size
  clear hS hb2 HB1
  go_wp2_with fail
  refine (usableC B U V X _ _ HS2.out).mono ?_
  rintro e w' ⟨rfl, rfl⟩
  rw [show (newS (cfgOf 0 0 0)).usable = false from rfl]
  go_wp2_with fail
  refine (step_mk B U V X _ _ ⟨20000, true, 0, false, 0, true⟩ true rfl (by decide) hA (ok0 _ rfl) (ok0 _ rfl) (ok0 _ rfl) ⟨by decide, by decide⟩ _ HS2.out).mono ?_
  rintro e w3 ⟨rfl, hS3, ho⟩
  have HB3 := Lib.hid (HB2.out.trans (ho.below (b := w.heap.size) (by omega) (by omega) (by omega) (by omega) HB2.out.size))
  clear hS3 ho
  go_wp2_with fail
  go_ret
  exact ⟨rfl, HB3.out⟩
theorem Src.other {w w' : World} {B U V X : Nat} {s : HS} (h : Src w B U V X s) (hk : ∀ k, k = B ∨ k = U ∨ k = V ∨ k = X → w'.heap[k]? = w.heap[k]?) : Src w' B U V X s :=
  ⟨(hk B (.inl rfl)).trans h.row, (hk U (.inr (.inl rfl))).trans h.up, (hk V (.inr (.inr (.inl rfl)))).trans h.over, (hk X (.inr (.inr (.inr rfl)))).trans h.sick⟩
def hm (b i : Int) (m : Bool) : HS := ⟨10000, 20000, if i < b then ⟨b, i, false⟩ else ⟨b, 0, true⟩, ⟨b, 0, false⟩, ⟨b, 0, false⟩, false, m⟩
theorem newS_hm (c : CF) (h : 1 ≤ c.B ∧ c.B ≤ 3) : newS c = hm c.B 0 false := by
  unfold newS hm cut1
  rw [if_pos (by omega)]
  have : cut1 c.B = c.B := by unfold cut1; omega
  unfold cut1 at this
  rw [this]
theorem hm_step (b i : Int) (m m' : Bool) (h : 0 ≤ i) (hb : 1 ≤ b) : (hm b i m).step ⟨10001, true, -20000, true, 0, m'⟩ = hm b (i + 1) m' := by
  unfold hm HS.step
  have e1 : upIn 10000 ⟨10001, true, -20000, true, 0, m'⟩ = true := rfl
  have e2 : overIn 20000 ⟨10001, true, -20000, true, 0, m'⟩ = false := rfl
  have e3 : badB 0 = false := rfl
  simp only [e1, e2, e3]
  unfold FK.step
  by_cases h1 : i < b
  · by_cases h2 : b ≤ i + 1
    · simp [h1, h2, show ¬ i + 1 < b by omega]
    · simp [h1, h2, show i + 1 < b by omega]
  · simp [h1, show ¬ i + 1 < b by omega]
theorem hm_usable (b i : Int) (m : Bool) : (hm b i m).usable = (m && decide (b ≤ i)) := by
  unfold hm HS.usable
  by_cases h : i < b
  · simp [h, show ¬ b ≤ i by omega]
  · simp [h, show b ≤ i by omega]
theorem hm_ok (b i : Int) (m : Bool) (h : 0 ≤ i) (hb : 1 ≤ b ∧ b ≤ 3) : (hm b i m).up.Ok ∧ (hm b i m).over.Ok ∧ (hm b i m).sick.Ok ∧ (-1000000 ≤ (hm b i m).trip ∧ (hm b i m).trip ≤ 1000000) := by
  unfold hm FK.Ok
  refine ⟨?_, ⟨Int.le_refl _, show (0 : Int) ≤ 1000000 by omega⟩, ⟨Int.le_refl _, show (0 : Int) ≤ 1000000 by omega⟩, show (-1000000 : Int) ≤ 20000 by omega, show (20000 : Int) ≤ 1000000 by omega⟩
  simp only
  split
  · exact ⟨h, show i ≤ 1000000 by omega⟩
  · exact ⟨show (0 : Int) ≤ 0 by omega, show (0 : Int) ≤ 1000000 by omega⟩
set_option maxRecDepth 100000 in
set_option maxHeartbeats 8000000 in
theorem walkHealthMays (a0 : Int) (a1 : Option Addr) (len1 cap1 : Nat) (z1 : Nat → Bool) (w : World) (w0 : (Lit.int .i64 a0).wf = true) (w1 : CameB w a1 len1 cap1 z1) :
    Calls Try.prog 5 #[.int .i64 a0, .slice a1 len1 cap1] w fun e w' => e = .returned (.bool true) ∧ Below w.heap.size w w' := by
  have C1 := Lib.hid fun i hi => w1.at i hi
  have hml := w1
  clear w0
  have hB : 1 ≤ (cfgOf (a0 % 1048576) 0 0).B ∧ (cfgOf (a0 % 1048576) 0 0).B ≤ 3 := by unfold cfgOf; simp only; omega
  by_cases hl : 60 < len1
  · go_enter Try.func5, Try.ntmps5
    go_wp2_with fail
    refine (first17 _).mono ?_
    rintro e w1 ⟨rfl, hb⟩
    have BB := Lib.hid hb
    clear hb
    go_wp2_with fail
    go_ret
    exact ⟨rfl, BB.out⟩
  · clear hml w1
    go_enter Try.func5, Try.ntmps5
    go_wp2_with fail
    refine (first17 _).mono ?_
    rintro e w1 ⟨rfl, hb⟩
    have B1 := Lib.hid hb
    clear hb
    go_wp2_with fail
    refine (configC _ 0 0 _).mono ?_
    rintro e w2 ⟨O, fa, fl, fc, rfl, hO, hv, hb1⟩
    have B2 := Lib.hid (B1.out.trans (hb1.mono B1.out.size))
    clear hb1 hv hO
    simp only [cfgV]
    rw [show (0 : Int) % 1048576 = 0 from rfl]
    generalize cfgOf (a0 % 1048576) 0 0 = c at *
    go_wp2_with fail
    refine upon_fresh (by simp) rfl (cfgA_one rfl rfl) ?_
    intro W1 b1 s1 h1
    have HC := Lib.hid h1
    have B3 := Lib.hid (B2.out.trans (b1.mono B2.out.size))
    clear h1 b1
    go_wp2_with (refine wpList_load_row_g rfl 26 _ rfl w2.heap.size rfl 26 _ (0, 0) _ HC.out Try.underlying26 rfl (by kernel_rfl) ?_)
    refine (healthNew _ _ _ _).mono ?_
    rintro e w3 ⟨B, U, V, X, rfl, hS, hA, hL, hb3⟩
    have H3 := Lib.hid (Cfg.below HC.out hb3 (Array.getElem?_eq_some_iff.1 HC.out).1)
    have HS3 := Lib.hid hS
    have B4 := Lib.hid (B3.out.trans (hb3.mono B3.out.size))
    have hC := (Array.getElem?_eq_some_iff.1 HC.out).1
    have hws := B3.out.size
    have c8 : w3.cell? ⟨w2.heap.size, 8, none⟩ = some (.int .i64 20000) := cell_of_row w3 _ 8 _ _ _ H3.out
    have c9 : w3.cell? ⟨w2.heap.size, 9, none⟩ = some (.int .i64 10000) := cell_of_row w3 _ 9 _ _ _ H3.out
    clear hS hb3 HC B3 s1
    go_wp2_with fail
    rw [newS_hm c hB] at HS3
    obtain ⟨l1, l2, l3, l4⟩ := HS3.out.lts
    have hCw : w2.heap.size < w3.heap.size := (Array.getElem?_eq_some_iff.1 H3.out).1
    have NZ : w3.heap.size ≠ B ∧ w3.heap.size ≠ U ∧ w3.heap.size ≠ V ∧ w3.heap.size ≠ X := by omega
    have NC : w2.heap.size ≠ B ∧ w2.heap.size ≠ U ∧ w2.heap.size ≠ V ∧ w2.heap.size ≠ X := by omega
    have NW : w.heap.size ≤ B ∧ w.heap.size ≤ U ∧ w.heap.size ≤ V ∧ w.heap.size ≤ X := by omega
    have WZ : w.heap.size ≤ w3.heap.size := B4.out.size
    have WC : w.heap.size ≤ w2.heap.size := B2.out.size
    have HA := Lib.hid (show Apart B U V X from hA)
    clear hL hws c8 c9 l1 l2 l3 l4 hA
    go_loopw [9] (fun v wr => ∃ (i : Nat) (m : Bool), i ≤ len1 ∧ v = .int .i64 i ∧ Src wr B U V X (hm c.B i m) ∧ Cfg wr w2.heap.size c (.slice (some ⟨O, 0, none⟩) 4 4) (.slice fa fl fc) ∧ inRow ⟨10001, true, -20000, true, 0, m⟩ wr w3.heap.size ∧ Below w.heap.size w wr) (fun v _ => len1 - (intOf v).toNat)
    case atStart =>
      have al := (Below.refl w3.heap.size w3).alloc (Nat.le_refl _) (.cells #[.int .i64 10001, .bool true, .int .i64 (-20000), .bool true, .int .i64 0, .bool false] 34)
      exact ⟨0, false, by omega, rfl, HS3.out.below al, Cfg.below H3.out al hCw, heap_alloc_new _ _, B4.out.trans (al.mono B4.out.size)⟩
    case round =>
      obtain ⟨i, m, hi, rfl, hs, hc, hp, hb⟩ := hrel
      have FS := Lib.hid hs
      have FC := Lib.hid hc
      have FP := Lib.hid hp
      have FB := Lib.hid hb
      clear hs hc hp hb HS3 H3 B4
      by_cases hlt : i < len1
      · obtain ⟨x, rfl, hx⟩ := C1.out i hlt
        have hxl := block_lt_of_cell hx
        have p5 : wr.cell? ⟨w3.heap.size, 5, none⟩ = some (.bool m) := cell_of_row wr _ 5 _ _ _ FP.out
        have f5 : wr.frozen? ⟨w3.heap.size, 5, none⟩ = false := by have := FP.out; unfold inRow at this; simp [World.frozen?, this]
        have hx' := below_cell FB.out hx
        go_upto_region 15 with fail
        generalize hW : World.setCell wr _ _ = W4
        obtain ⟨G1, G2, G3, G4⟩ : Hid (Src W4 B U V X (hm c.B i m)) ∧ Hid (Cfg W4 w2.heap.size c (.slice (some ⟨O, 0, none⟩) 4 4) (.slice fa fl fc)) ∧ Hid (inRow ⟨10001, true, -20000, true, 0, z1 i⟩ W4 w3.heap.size) ∧ Hid (Below w.heap.size w W4) := by
          rw [← hW]
          refine ⟨Lib.hid (FS.out.other fun k hk => heap_setCell_other _ ⟨_, _, _⟩ _ _ ?_), Lib.hid ((heap_setCell_other _ ⟨_, _, _⟩ _ _ (show w2.heap.size ≠ w3.heap.size by omega)).trans FC.out), Lib.hid ?_, Lib.hid (FB.out.setCell (p := ⟨w3.heap.size, 5, none⟩) WZ _)⟩
          · rcases hk with rfl | rfl | rfl | rfl
            · exact NZ.1.symm
            · exact NZ.2.1.symm
            · exact NZ.2.2.1.symm
            · exact NZ.2.2.2.symm
          · have := FP.out
            unfold inRow at *
            simp [World.setCell, Array.getElem?_modify, this]
        clear hW FS FC FP FB p5 f5 hx'
        have OK := hm_ok c.B i m (by omega) hB
        have hA := HA.out
        have HU := Lib.hid (show (hm c.B (i + 1) (z1 i)).usable = (z1 i && decide (c.B - 1 ≤ (i : Int))) by rw [hm_usable]; congr 1; exact decide_eq_decide.2 (by omega))
        have KS := Lib.hid fun (u : Bool) hu => step_mk B U V X (hm c.B i m) (hm c.B (i + 1) (z1 i)) ⟨10001, true, -20000, true, 0, z1 i⟩ u (hm_step _ _ _ _ (by omega) hB.1) hu hA OK.1 OK.2.1 OK.2.2.1 OK.2.2.2 W4.drew (G1.out.other fun _ _ => rfl)
        obtain ⟨R, RR⟩ : ∃ R : World → Prop, Hid (∀ w', R w' ↔ (Src w' B U V X (hm c.B (i + 1) (z1 i)) ∧ Only4 B U V X W4.drew w')) := ⟨_, fun _ => Iff.rfl⟩
        have HM := Lib.hid (pick_ind (w0 := W4.drew) (R := R) (M := fun w' => inRow ⟨10001, true, -20000, true, 0, z1 i⟩ w' w3.heap.size ∧ Cfg w' w2.heap.size c (.slice (some ⟨O, 0, none⟩) 4 4) (.slice fa fl fc) ∧ Below w.heap.size w w')
          ⟨G3.out, G2.out, G4.out.drew⟩ (fun w' h => by
            have h := (RR.out w').1 h
            exact ⟨h.2.row G3.out NZ.1 NZ.2.1 NZ.2.2.1 NZ.2.2.2, h.2.row G2.out NC.1 NC.2.1 NC.2.2.1 NC.2.2.2, G4.out.drew.trans (h.2.below NW.1 NW.2.1 NW.2.2.1 NW.2.2.2 G4.out.size)⟩))
        obtain ⟨q, hq⟩ : ∃ q, z1 i = q := ⟨_, rfl⟩
        rw [hq] at HM KS HU hx G3 RR
        clear hq
        have y0 : ∀ d, (pickE R W4.drew d).cell? ⟨w3.heap.size, 0, none⟩ = some (.int .i64 10001) := fun d => cell_of_row _ _ 0 _ _ _ (HM.out d).1
        have y1 : ∀ d, (pickE R W4.drew d).cell? ⟨w3.heap.size, 1, none⟩ = some (.bool true) := fun d => cell_of_row _ _ 1 _ _ _ (HM.out d).1
        have y2 : ∀ d, (pickE R W4.drew d).cell? ⟨w3.heap.size, 2, none⟩ = some (.int .i64 (-20000)) := fun d => cell_of_row _ _ 2 _ _ _ (HM.out d).1
        have y3 : ∀ d, (pickE R W4.drew d).cell? ⟨w3.heap.size, 3, none⟩ = some (.bool true) := fun d => cell_of_row _ _ 3 _ _ _ (HM.out d).1
        have y4 : ∀ d, (pickE R W4.drew d).cell? ⟨w3.heap.size, 4, none⟩ = some (.int .i64 0) := fun d => cell_of_row _ _ 4 _ _ _ (HM.out d).1
        have y5 : ∀ d, (pickE R W4.drew d).cell? ⟨w3.heap.size, 5, none⟩ = some (.bool q) := fun d => cell_of_row _ _ 5 _ _ _ (HM.out d).1
        have cb : ∀ d, (pickE R W4.drew d).cell? ⟨w2.heap.size, 1, none⟩ = some (.int .i64 c.B) := fun d => cell_of_row _ _ 1 _ _ _ (HM.out d).2.1
        have xs : ∀ d, (pickE R W4.drew d).cell? (x.add i) = some (.bool q) := fun d => below_cell (HM.out d).2.2 hx
        clear C1
        refine wp_region_ph2 2 99 (one W4.drew R) (by kernel_rfl) (by kernel_rfl) (by kernel_rfl) (by kernel_rfl) rfl ?_
        iterate 2 (refine ph_val one_pick (by kernel_rfl) (by kernel_rfl) (by kernel_rfl) (by kernel_rfl) ?_; intro K hK; go_big_quiet_op; go_big_quiet_on)
        have FIN := Lib.hid fun (u : Bool) (hu : (hm c.B (i + 1) q).usable = u) => (KS.out u hu).mono fun e w' h => (⟨h.1, (RR.out w').2 h.2⟩ : e = .returned (.bool u) ∧ R w')
        clear KS
        cases q
        · refine ph_w1 (.bool false) (by kernel_rfl) (by kernel_rfl) (by kernel_rfl) (by kernel_rfl) (fun c' w' hw' => ?_) ?_
          · obtain rfl : w' = W4.drew := hw'
            exact phAt_call Try.func17 (by kernel_rfl) (by kernel_rfl) #[.pointer (some ⟨B, 0, none⟩), .agg #[.int .i64 10001, .bool true, .int .i64 (-20000), .bool true, .int .i64 0, .bool false]] (by kernel_rfl) (FIN.out false (by rw [HU.out]; rfl))
          simp only [Act.put, List.setIfInBounds_toArray, List.set_cons_succ, List.set_cons_zero]
          iterate 5 (refine ph_val one_pick (by kernel_rfl) (by kernel_rfl) (by kernel_rfl) (by kernel_rfl) ?_; intro K hK; go_big_quiet_op; go_big_quiet_on)
          iterate 5 (refine ph_skip (by kernel_rfl) (by kernel_rfl) (by kernel_rfl) ?_)
          simp only [Act.put, List.setIfInBounds_toArray, List.set_cons_succ, List.set_cons_zero]
          iterate 2 (refine ph_val one_pick (by kernel_rfl) (by kernel_rfl) (by kernel_rfl) (by kernel_rfl) ?_; intro K hK; go_big_quiet_op; go_big_quiet_on)
          refine ph_end ?_
          intro w' hw'
          obtain ⟨hS, hO⟩ := (RR.out w').1 hw'
          have G5 := Lib.hid hS
          have G6 := Lib.hid hO
          clear y0 y1 y2 y3 y4 y5 cb xs hS hO hw'
          go_wp2_with fail
          go_roundw
          case rel => exact ⟨i + 1, false, by omega, by go_num, by simpa using G5.out, G6.out.row G2.out NC.1 NC.2.1 NC.2.2.1 NC.2.2.2, G6.out.row G3.out NZ.1 NZ.2.1 NZ.2.2.1 NZ.2.2.2, G4.out.drew.trans (G6.out.below NW.1 NW.2.1 NW.2.2.1 NW.2.2.2 G4.out.size)⟩
          case measure => simp [intOf]; omega
        · by_cases hge : c.B - 1 ≤ (i : Int)
          · refine ph_w1 (.bool true) (by kernel_rfl) (by kernel_rfl) (by kernel_rfl) (by kernel_rfl) (fun c' w' hw' => ?_) ?_
            · obtain rfl : w' = W4.drew := hw'
              exact phAt_call Try.func17 (by kernel_rfl) (by kernel_rfl) #[.pointer (some ⟨B, 0, none⟩), .agg #[.int .i64 10001, .bool true, .int .i64 (-20000), .bool true, .int .i64 0, .bool true]] (by kernel_rfl) (FIN.out true (by rw [HU.out]; simp; omega))
            simp only [Act.put, List.setIfInBounds_toArray, List.set_cons_succ, List.set_cons_zero]
            iterate 12 (refine ph_val one_pick (by kernel_rfl) (by kernel_rfl) (by kernel_rfl) (by kernel_rfl) ?_; intro K hK; go_big_quiet_op; go_big_quiet_on)
            refine ph_end ?_
            intro w' hw'
            obtain ⟨hS, hO⟩ := (RR.out w').1 hw'
            have G5 := Lib.hid hS
            have G6 := Lib.hid hO
            clear y0 y1 y2 y3 y4 y5 cb xs hS hO hw'
            go_wp2_with fail
            go_roundw
            case rel => exact ⟨i + 1, true, by omega, by go_num, by simpa using G5.out, G6.out.row G2.out NC.1 NC.2.1 NC.2.2.1 NC.2.2.2, G6.out.row G3.out NZ.1 NZ.2.1 NZ.2.2.1 NZ.2.2.2, G4.out.drew.trans (G6.out.below NW.1 NW.2.1 NW.2.2.1 NW.2.2.2 G4.out.size)⟩
            case measure => simp [intOf]; omega
          · have hd : decide (c.B - 1 ≤ (i : Int)) = false := decide_eq_false hge
            refine ph_w1 (.bool false) (by kernel_rfl) (by kernel_rfl) (by kernel_rfl) (by kernel_rfl) (fun c' w' hw' => ?_) ?_
            · obtain rfl : w' = W4.drew := hw'
              exact phAt_call Try.func17 (by kernel_rfl) (by kernel_rfl) #[.pointer (some ⟨B, 0, none⟩), .agg #[.int .i64 10001, .bool true, .int .i64 (-20000), .bool true, .int .i64 0, .bool true]] (by kernel_rfl) (FIN.out false (by rw [HU.out, hd]; rfl))
            simp only [Act.put, List.setIfInBounds_toArray, List.set_cons_succ, List.set_cons_zero]
            iterate 12 (refine ph_val one_pick (by kernel_rfl) (by kernel_rfl) (by kernel_rfl) (by kernel_rfl) ?_; intro K hK; go_big_quiet_op; go_big_quiet_on)
            refine ph_end ?_
            intro w' hw'
            obtain ⟨hS, hO⟩ := (RR.out w').1 hw'
            have G5 := Lib.hid hS
            have G6 := Lib.hid hO
            clear y0 y1 y2 y3 y4 y5 cb xs hS hO hw'
            go_wp2_with fail
            go_roundw
            case rel => exact ⟨i + 1, true, by omega, by go_num, by simpa using G5.out, G6.out.row G2.out NC.1 NC.2.1 NC.2.2.1 NC.2.2.2, G6.out.row G3.out NZ.1 NZ.2.1 NZ.2.2.1 NZ.2.2.2, G4.out.drew.trans (G6.out.below NW.1 NW.2.1 NW.2.2.1 NW.2.2.2 G4.out.size)⟩
            case measure => simp [intOf]; omega
      · obtain rfl : i = len1 := by omega
        go_wp2_with fail
        refine (failC B U V X _ HA.out.1 HA.out.2.1 HA.out.2.2.1 _ FS.out).mono ?_
        rintro e w4 ⟨rfl, hS, hO⟩
        have G1 := Lib.hid hS
        have G3 := Lib.hid (show inRow _ w4 w3.heap.size from hO.row FP.out NZ.1)
        have G4 := Lib.hid (FB.out.trans (hO.below NW.1 FB.out.size))
        have OK := hm_ok c.B i m (by omega) hB
        have e5 : (HS.usable { hm c.B i m with failed := true }) = false := by unfold HS.usable; simp
        have e6 : (HS.usable (HS.step { hm c.B i m with failed := true } ⟨10001, true, -20000, true, 0, m⟩)) = false := by unfold HS.usable HS.step; simp
        clear hS hO FS FC FP FB
        generalize hz : hm c.B i m = s at *
        clear hz
        go_wp2_with fail
        refine (usableC B U V X _ _ G1.out).mono ?_
        rw [e5]
        rintro e w' ⟨rfl, rfl⟩
        go_wp2_with fail
        refine (failedC B U V X _ _ G1.out).mono ?_
        rintro e w' ⟨rfl, rfl⟩
        have y0 : w4.cell? ⟨w3.heap.size, 0, none⟩ = some (.int .i64 10001) := cell_of_row _ _ 0 _ _ _ G3.out
        have y1 : w4.cell? ⟨w3.heap.size, 1, none⟩ = some (.bool true) := cell_of_row _ _ 1 _ _ _ G3.out
        have y2 : w4.cell? ⟨w3.heap.size, 2, none⟩ = some (.int .i64 (-20000)) := cell_of_row _ _ 2 _ _ _ G3.out
        have y3 : w4.cell? ⟨w3.heap.size, 3, none⟩ = some (.bool true) := cell_of_row _ _ 3 _ _ _ G3.out
        have y4 : w4.cell? ⟨w3.heap.size, 4, none⟩ = some (.int .i64 0) := cell_of_row _ _ 4 _ _ _ G3.out
        have y5 : w4.cell? ⟨w3.heap.size, 5, none⟩ = some (.bool m) := cell_of_row _ _ 5 _ _ _ G3.out
        go_wp2_with fail
        refine (step_mk B U V X _ _ ⟨10001, true, -20000, true, 0, m⟩ false rfl e6 HA.out OK.1 OK.2.1 OK.2.2.1 OK.2.2.2 _ G1.out).mono ?_
        rintro e w5 ⟨rfl, hS, hO⟩
        have G5 := Lib.hid (G4.out.trans (hO.below NW.1 NW.2.1 NW.2.2.1 NW.2.2.2 G4.out.size))
        clear hS hO
        go_wp2_with fail
        go_ret
        exact ⟨rfl, G5.out⟩
end Go.Proofs.Ytcphpaacgkfkbaa
