/- DebouncePlays holds: each call returns true. Conditions: the arguments are numbers of their kinds, a slice of bools and one of integers. -/
import Derived.Test.YtbgjfcnaiahehaaDebL
import Derived.Test.YtbgjfcnaiahehaaFilR
import Derived.Deep.RegionWith
namespace Go.Proofs.Ytbgjfcnaiahehaa
open Go.RowKit
set_option linter.unusedVariables false
set_option maxRecDepth 100000 in
set_option maxHeartbeats 8000000 in
theorem walkDebouncePlays (a0 : Int) (a1 : Option Addr) (len1 cap1 : Nat) (z1 : Nat → Bool) (a2 : Option Addr) (len2 cap2 : Nat) (z2 : List Int) (w : World) (_w0 : (Lit.int .i64 a0).wf = true) (w1 : CameB w a1 len1 cap1 z1) (w2 : CameI .i64 w a2 len2 cap2 z2) :
    Calls Try.prog 11 #[.int .i64 a0, .slice a1 len1 cap1, .slice a2 len2 cap2] w fun e w' => e = .returned (.bool true) ∧ Below w.heap.size w w' := by
  have C1 := Lib.hid fun i hi => w1.at i hi
  have C2 := Lib.hid fun i hi => w2.at i hi
  clear w1 w2 _w0
  by_cases h1 : 200 < len1
  · go_enter Try.func11, Try.ntmps11
    go_wp2_with fail
    refine (first13 _).mono ?_
    rintro e w0 ⟨rfl, hb0⟩
    have T0 := Lib.hid hb0
    clear hb0
    go_wp2_with fail
    go_ret
    exact ⟨rfl, T0.out⟩
  by_cases h2 : 200 < len2
  · go_enter Try.func11, Try.ntmps11
    go_wp2_with fail
    refine (first13 _).mono ?_
    rintro e w0 ⟨rfl, hb0⟩
    have T0 := Lib.hid hb0
    clear hb0
    go_wp2_with fail
    go_ret
    exact ⟨rfl, T0.out⟩
  go_enter Try.func11, Try.ntmps11
  go_wp2_with fail
  refine (first13 _).mono ?_
  rintro e w0 ⟨rfl, hb0⟩
  have T0 := Lib.hid hb0
  clear hb0
  go_wp2_with fail
  refine (newC a0 _).mono ?_
  rintro e w1 ⟨rfl, H1, hb⟩
  have F1 := Lib.hid H1
  have T1 := Lib.hid (T0.out.trans (hb.mono T0.out.size))
  have SB := Lib.hid T0.out.size
  clear H1 hb T0
  generalize w0.heap.size = B at *
  have LB := Lib.hid F1.out.lt
  go_wp2_with fail
  refine (newR a0 _).mono ?_
  rintro e w2 ⟨rfl, H2, hb⟩
  have G2 := Lib.hid H2
  have F2 := Lib.hid (F1.out.below hb)
  have T2 := Lib.hid (T1.out.trans (hb.mono T1.out.size))
  have SC := Lib.hid T1.out.size
  clear H2 hb T1 F1
  generalize w1.heap.size = C at *
  have NE := Lib.hid (Nat.ne_of_gt LB.out)
  generalize cut1 a0 = n at *
  go_wp2_with fail
  go_loopw [10] (fun v wr => ∃ (i : Nat) (k : FK), i ≤ len1 ∧ v = .int .i64 i ∧ 0 ≤ k.c ∧ k.c ≤ i ∧ Fl wr B k ∧ FlR wr C k ∧ Below w.heap.size w wr) (fun v _ => len1 - (intOf v).toNat)
  case atStart => exact ⟨0, ⟨n, 0, false⟩, by omega, rfl, Int.le_refl _, Int.le_refl _, F2.out, G2.out, T2.out⟩
  case round =>
    obtain ⟨i, k, hi, rfl, hc, hc2, hf, hg, hb⟩ := hrel
    clear F2 G2 T2
    have F := Lib.hid hf
    have G := Lib.hid hg
    have T := Lib.hid hb
    clear hf hg hb
    by_cases hl : i < len1
    · obtain ⟨x1, rfl, c1⟩ := C1.out i hl
      have c1' := below_cell T.out c1
      have CC := Lib.hid c1
      clear c1
      generalize z1 i = x at *
      by_cases hl2 : i < len2
      · obtain ⟨x2, rfl, d1⟩ := C2.out i hl2
        have d1' := below_cell T.out d1
        clear d1
        generalize z2.getD i 0 = y at *
        cases hy : (bits .and .i64 y 7 == 0)
        · have KS0 := fun (w : World) h => stepC B k x (hc) (by omega) w h
          have KR0 := fun (w : World) h => stepR C k x (hc) (by omega) w h
          have KB0 := FK.bounds k x i (hc) (hc2)
          obtain ⟨k', hk'⟩ : ∃ k', k' = FK.step k x := ⟨_, rfl⟩
          rw [← hk'] at KS0 KR0 KB0
          have KS := Lib.hid KS0
          have KR := Lib.hid KR0
          clear KS0 KR0 hk'
          have KT := Lib.hid fun (w : World) h => stateC B k' w h
          have qq : (k'.s != k'.s) = false := by simp
          have FD : Fl (wr).drew B k := F.out
          have GD : FlR (wr).drew C k := G.out
          have TD : Below w.heap.size w (wr).drew := T.out.drew
          have cD := below_cell TD CC.out
          go_wp2_with fail
          go_region_with
            (first
              | (go_at_call 29; (with_reducible refine (KS.out _ ?_).mono ?_); assumption; rintro e w5 ⟨rfl, H5, hb⟩; have T5 : Below w.heap.size w w5 := Below.trans (by assumption) (hb.below SB.out (Below.size (by assumption))); have G5 : FlR w5 C _ := FlR.only (by assumption) hb NE.out; have c5 := below_cell (by assumption : Below w.heap.size w w5) CC.out; clear hb; dsimp only)
              | (go_at_call 33; (with_reducible refine (KR.out _ ?_).mono ?_); assumption; rintro e w6 ⟨rfl, H6, hb⟩; have T6 : Below w.heap.size w w6 := Below.trans (by assumption) (hb.below SC.out (Below.size (by assumption))); have F6 : Fl w6 B _ := Fl.only (by assumption) hb NE.out.symm; have c6 := H6.cells.2.2.1; clear hb; dsimp only)
              | (go_at_call 30; (with_reducible refine (KT.out _ ?_).mono ?_); assumption; rintro e w' ⟨rfl, rfl⟩; dsimp only))
          all_goals
            go_wp2_with fail
            go_roundw
            case rel => exact ⟨i + 1, k', by omega, by go_num, by omega, by have := KB0.2; omega, by assumption, by assumption, by assumption⟩
            case measure => simp [intOf]; omega
        · go_wp2_with fail
          refine (forceC B k x _ F.out).mono ?_
          rintro e w5 ⟨rfl, H5, hb⟩
          have F5 := Lib.hid H5
          have G5 := Lib.hid (G.out.only hb NE.out)
          have T5 := Lib.hid (T.out.trans (hb.below SB.out T.out.size))
          have c2 := below_cell T5.out CC.out
          clear H5 hb c1' d1'
          go_wp2_with fail
          refine (forceR C k x _ G5.out).mono ?_
          rintro e w6 ⟨rfl, H6, hb⟩
          have G6 := Lib.hid H6
          have F6 := Lib.hid (F5.out.only hb NE.out.symm)
          have T6 := Lib.hid (T5.out.trans (hb.below SC.out T5.out.size))
          clear H6 hb c2
          have c3' := below_cell T6.out CC.out
          have KS0 := fun (w : World) h => stepC B ⟨k.n, 0, x⟩ x (Int.le_refl _) (show (0 : Int) ≤ 1000000 by decide) w h
          have KR0 := fun (w : World) h => stepR C ⟨k.n, 0, x⟩ x (Int.le_refl _) (show (0 : Int) ≤ 1000000 by decide) w h
          have KB0 := FK.bounds ⟨k.n, 0, x⟩ x 0 (Int.le_refl _) (Int.le_refl _)
          obtain ⟨k', hk'⟩ : ∃ k', k' = FK.step ⟨k.n, 0, x⟩ x := ⟨_, rfl⟩
          rw [← hk'] at KS0 KR0 KB0
          have KS := Lib.hid KS0
          have KR := Lib.hid KR0
          clear KS0 KR0 hk'
          have KT := Lib.hid fun (w : World) h => stateC B k' w h
          have qq : (k'.s != k'.s) = false := by simp
          have FD : Fl (w6).drew B ⟨k.n, 0, x⟩ := F6.out
          have GD : FlR (w6).drew C ⟨k.n, 0, x⟩ := G6.out
          have TD : Below w.heap.size w (w6).drew := T6.out.drew
          have cD := below_cell TD CC.out
          go_wp2_with fail
          go_region_with
            (first
              | (go_at_call 29; (with_reducible refine (KS.out _ ?_).mono ?_); assumption; rintro e w7 ⟨rfl, H7, hb⟩; have T7 : Below w.heap.size w w7 := Below.trans (by assumption) (hb.below SB.out (Below.size (by assumption))); have G7 : FlR w7 C _ := FlR.only (by assumption) hb NE.out; have c5 := below_cell (by assumption : Below w.heap.size w w7) CC.out; clear hb; dsimp only)
              | (go_at_call 33; (with_reducible refine (KR.out _ ?_).mono ?_); assumption; rintro e w8 ⟨rfl, H8, hb⟩; have T8 : Below w.heap.size w w8 := Below.trans (by assumption) (hb.below SC.out (Below.size (by assumption))); have F8 : Fl w8 B _ := Fl.only (by assumption) hb NE.out.symm; have c8 := H8.cells.2.2.1; clear hb; dsimp only)
              | (go_at_call 30; (with_reducible refine (KT.out _ ?_).mono ?_); assumption; rintro e w' ⟨rfl, rfl⟩; dsimp only))
          all_goals
            go_wp2_with fail
            go_roundw
            case rel => exact ⟨i + 1, k', by omega, by go_num, by omega, by have := KB0.2; omega, by assumption, by assumption, by assumption⟩
            case measure => simp [intOf]; omega
      · have KS0 := fun (w : World) h => stepC B k x (hc) (by omega) w h
        have KR0 := fun (w : World) h => stepR C k x (hc) (by omega) w h
        have KB0 := FK.bounds k x i (hc) (hc2)
        obtain ⟨k', hk'⟩ : ∃ k', k' = FK.step k x := ⟨_, rfl⟩
        rw [← hk'] at KS0 KR0 KB0
        have KS := Lib.hid KS0
        have KR := Lib.hid KR0
        clear KS0 KR0 hk'
        have KT := Lib.hid fun (w : World) h => stateC B k' w h
        have qq : (k'.s != k'.s) = false := by simp
        have FD : Fl (wr).drew B k := F.out
        have GD : FlR (wr).drew C k := G.out
        have TD : Below w.heap.size w (wr).drew := T.out.drew
        have cD := below_cell TD CC.out
        go_wp2_with fail
        go_region_with
          (first
            | (go_at_call 29; (with_reducible refine (KS.out _ ?_).mono ?_); assumption; rintro e w5 ⟨rfl, H5, hb⟩; have T5 : Below w.heap.size w w5 := Below.trans (by assumption) (hb.below SB.out (Below.size (by assumption))); have G5 : FlR w5 C _ := FlR.only (by assumption) hb NE.out; have c5 := below_cell (by assumption : Below w.heap.size w w5) CC.out; clear hb; dsimp only)
            | (go_at_call 33; (with_reducible refine (KR.out _ ?_).mono ?_); assumption; rintro e w6 ⟨rfl, H6, hb⟩; have T6 : Below w.heap.size w w6 := Below.trans (by assumption) (hb.below SC.out (Below.size (by assumption))); have F6 : Fl w6 B _ := Fl.only (by assumption) hb NE.out.symm; have c6 := H6.cells.2.2.1; clear hb; dsimp only)
            | (go_at_call 30; (with_reducible refine (KT.out _ ?_).mono ?_); assumption; rintro e w' ⟨rfl, rfl⟩; dsimp only))
        all_goals
          go_wp2_with fail
          go_roundw
          case rel => exact ⟨i + 1, k', by omega, by go_num, by omega, by have := KB0.2; omega, by assumption, by assumption, by assumption⟩
          case measure => simp [intOf]; omega
    · go_wp2_with fail
      go_ret
      exact ⟨rfl, T.out⟩
end Go.Proofs.Ytbgjfcnaiahehaa
