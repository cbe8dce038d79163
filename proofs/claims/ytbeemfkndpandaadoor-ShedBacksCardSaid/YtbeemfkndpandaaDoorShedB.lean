/- What is shed is off at once, and comes back behind so many cycles in a row. Conditions: the table of ends lies as the text lays it. -/
import Derived.Test.YtbeemfkndpandaaDoorShedF
import Derived.Test.YtbeemfkndpandaaDoorNumb
namespace Go.Proofs.YtbeemfkndpandaaDoor
open Go Go.RowKit
set_option linter.unusedVariables false
set_option maxRecDepth 20000
def allV (n : Nat) : Int := 2 ^ n - 1
theorem stepAll (n H x : Nat) (h1 : 1 ≤ n) (h6 : n ≤ 6) : stpK (allV n) H (List.replicate n x) n = List.replicate n (min (x + 1) H) := by
  rcases (show n = 1 ∨ n = 2 ∨ n = 3 ∨ n = 4 ∨ n = 5 ∨ n = 6 by omega) with rfl | rfl | rfl | rfl | rfl | rfl
  · have t0 : tz 1 0 = false := by decide +kernel
    rw [show allV 1 = 1 by decide]
    simp [stpK, getN, List.replicate, t0]
  · have t0 : tz 3 0 = false := by decide +kernel
    have t1 : tz 3 1 = false := by decide +kernel
    rw [show allV 2 = 3 by decide]
    simp [stpK, getN, List.replicate, t0, t1]
  · have t0 : tz 7 0 = false := by decide +kernel
    have t1 : tz 7 1 = false := by decide +kernel
    have t2 : tz 7 2 = false := by decide +kernel
    rw [show allV 3 = 7 by decide]
    simp [stpK, getN, List.replicate, t0, t1, t2]
  · have t0 : tz 15 0 = false := by decide +kernel
    have t1 : tz 15 1 = false := by decide +kernel
    have t2 : tz 15 2 = false := by decide +kernel
    have t3 : tz 15 3 = false := by decide +kernel
    rw [show allV 4 = 15 by decide]
    simp [stpK, getN, List.replicate, t0, t1, t2, t3]
  · have t0 : tz 31 0 = false := by decide +kernel
    have t1 : tz 31 1 = false := by decide +kernel
    have t2 : tz 31 2 = false := by decide +kernel
    have t3 : tz 31 3 = false := by decide +kernel
    have t4 : tz 31 4 = false := by decide +kernel
    rw [show allV 5 = 31 by decide]
    simp [stpK, getN, List.replicate, t0, t1, t2, t3, t4]
  · have t0 : tz 63 0 = false := by decide +kernel
    have t1 : tz 63 1 = false := by decide +kernel
    have t2 : tz 63 2 = false := by decide +kernel
    have t3 : tz 63 3 = false := by decide +kernel
    have t4 : tz 63 4 = false := by decide +kernel
    have t5 : tz 63 5 = false := by decide +kernel
    rw [show allV 6 = 63 by decide]
    simp [stpK, getN, List.replicate, t0, t1, t2, t3, t4, t5]
theorem stepNone (n H x : Nat) (h1 : 1 ≤ n) (h6 : n ≤ 6) : stpK 0 H (List.replicate n x) n = List.replicate n 0 := by
  rcases (show n = 1 ∨ n = 2 ∨ n = 3 ∨ n = 4 ∨ n = 5 ∨ n = 6 by omega) with rfl | rfl | rfl | rfl | rfl | rfl
  · have t0 : tz 0 0 = true := by decide +kernel
    simp [stpK, List.replicate, t0]
  · have t0 : tz 0 0 = true := by decide +kernel
    have t1 : tz 0 1 = true := by decide +kernel
    simp [stpK, List.replicate, t0, t1]
  · have t0 : tz 0 0 = true := by decide +kernel
    have t1 : tz 0 1 = true := by decide +kernel
    have t2 : tz 0 2 = true := by decide +kernel
    simp [stpK, List.replicate, t0, t1, t2]
  · have t0 : tz 0 0 = true := by decide +kernel
    have t1 : tz 0 1 = true := by decide +kernel
    have t2 : tz 0 2 = true := by decide +kernel
    have t3 : tz 0 3 = true := by decide +kernel
    simp [stpK, List.replicate, t0, t1, t2, t3]
  · have t0 : tz 0 0 = true := by decide +kernel
    have t1 : tz 0 1 = true := by decide +kernel
    have t2 : tz 0 2 = true := by decide +kernel
    have t3 : tz 0 3 = true := by decide +kernel
    have t4 : tz 0 4 = true := by decide +kernel
    simp [stpK, List.replicate, t0, t1, t2, t3, t4]
  · have t0 : tz 0 0 = true := by decide +kernel
    have t1 : tz 0 1 = true := by decide +kernel
    have t2 : tz 0 2 = true := by decide +kernel
    have t3 : tz 0 3 = true := by decide +kernel
    have t4 : tz 0 4 = true := by decide +kernel
    have t5 : tz 0 5 = true := by decide +kernel
    simp [stpK, List.replicate, t0, t1, t2, t3, t4, t5]
theorem stepOne (n H x : Nat) (h1 : 1 ≤ n) (h6 : n ≤ 6) : stpK 1 H (List.replicate n x) n = (List.replicate n 0).set 0 (min (x + 1) H) := by
  rcases (show n = 1 ∨ n = 2 ∨ n = 3 ∨ n = 4 ∨ n = 5 ∨ n = 6 by omega) with rfl | rfl | rfl | rfl | rfl | rfl
  · have t0 : tz 1 0 = false := by decide +kernel
    simp [stpK, getN, List.replicate, t0]
  · have t0 : tz 1 0 = false := by decide +kernel
    have t1 : tz 1 1 = true := by decide +kernel
    simp [stpK, getN, List.replicate, t0, t1]
  · have t0 : tz 1 0 = false := by decide +kernel
    have t1 : tz 1 1 = true := by decide +kernel
    have t2 : tz 1 2 = true := by decide +kernel
    simp [stpK, getN, List.replicate, t0, t1, t2]
  · have t0 : tz 1 0 = false := by decide +kernel
    have t1 : tz 1 1 = true := by decide +kernel
    have t2 : tz 1 2 = true := by decide +kernel
    have t3 : tz 1 3 = true := by decide +kernel
    simp [stpK, getN, List.replicate, t0, t1, t2, t3]
  · have t0 : tz 1 0 = false := by decide +kernel
    have t1 : tz 1 1 = true := by decide +kernel
    have t2 : tz 1 2 = true := by decide +kernel
    have t3 : tz 1 3 = true := by decide +kernel
    have t4 : tz 1 4 = true := by decide +kernel
    simp [stpK, getN, List.replicate, t0, t1, t2, t3, t4]
  · have t0 : tz 1 0 = false := by decide +kernel
    have t1 : tz 1 1 = true := by decide +kernel
    have t2 : tz 1 2 = true := by decide +kernel
    have t3 : tz 1 3 = true := by decide +kernel
    have t4 : tz 1 4 = true := by decide +kernel
    have t5 : tz 1 5 = true := by decide +kernel
    simp [stpK, getN, List.replicate, t0, t1, t2, t3, t4, t5]
theorem onAll (n H x : Nat) (h1 : 1 ≤ n) (h6 : n ≤ 6) : onV H (List.replicate n x) n = if H ≤ x then allV n else 0 := by
  rcases (show n = 1 ∨ n = 2 ∨ n = 3 ∨ n = 4 ∨ n = 5 ∨ n = 6 by omega) with rfl | rfl | rfl | rfl | rfl | rfl
  all_goals
    by_cases h : H ≤ x
    · simp only [onV, getN, List.replicate, List.getElem?_cons_zero, List.getElem?_cons_succ, Option.getD_some, h, if_true]; decide +kernel
    · simp only [onV, getN, List.replicate, List.getElem?_cons_zero, List.getElem?_cons_succ, Option.getD_some, h, if_false]
theorem onOne (n H x : Nat) (h1 : 1 ≤ n) (h6 : n ≤ 6) (hH : 1 ≤ H) : onV H ((List.replicate n 0).set 0 x) n = if H ≤ x then 1 else 0 := by
  have h0 : ¬ H ≤ 0 := by omega
  rcases (show n = 1 ∨ n = 2 ∨ n = 3 ∨ n = 4 ∨ n = 5 ∨ n = 6 by omega) with rfl | rfl | rfl | rfl | rfl | rfl
  all_goals
    by_cases h : H ≤ x
    · simp only [onV, getN, List.replicate, List.set_cons_zero, List.getElem?_cons_zero, List.getElem?_cons_succ, Option.getD_some, h, h0, if_true, if_false]; decide +kernel
    · simp only [onV, getN, List.replicate, List.set_cons_zero, List.getElem?_cons_zero, List.getElem?_cons_succ, Option.getD_some, h, h0, if_false]
set_option maxHeartbeats 16000000 in
theorem walkShedBacks (a0 : Int) (a1 : Int) (a2 : Int) (a3 : Int) (a4 : Int) (w : World) (w0 : (Lit.int .i64 a0).wf = true) (w1 : (Lit.int .i64 a1).wf = true) (w2 : (Lit.int .i64 a2).wf = true) (w3 : (Lit.int .i64 a3).wf = true) (w4 : (Lit.int .i64 a4).wf = true) (hT : Tab w) :
    Calls Tryd.prog 7 #[.int .i64 a0, .int .i64 a1, .int .i64 a2, .int .i64 a3, .int .i64 a4] w fun e w' => e = .returned (.bool true) ∧ Below w.heap.size w w' := by
  have HT := Lib.hid hT
  clear w0 w1 w2 w3 w4 hT
  go_enter Tryd.func7, Tryd.ntmps7
  go_wp2_with fail
  refine (first25 w HT.out).mono ?_
  rintro e wa ⟨rfl, hba⟩
  have HA := Lib.hid hba
  clear hba
  go_wp2_with fail
  refine (configF a0 a1 a2 wa).mono ?_
  rintro e w4 ⟨O, fa, fc, rfl, hO, ho, hf, hb⟩
  have L4 := Lib.hid (HA.out.trans (hb.mono HA.out.size))
  have CC := CB.of (a0 % 1048576) (a1 % 1048576) (a2 % 1048576) (by omega) (by omega) (by omega)
  have hn : (a1 % 1048576 / 20 % 7).toNat ≤ 6 := by omega
  unfold cfgV
  rw [cgA_of]
  clear hb ho hf hO
  generalize (a1 % 1048576 / 20 % 7).toNat = n at *
  obtain ⟨c, hc⟩ : ∃ c, (cfgOf (a0 % 1048576) (a1 % 1048576) (a2 % 1048576)).cg = c := ⟨_, rfl⟩
  rw [hc]
  obtain ⟨H, hH⟩ : ∃ H : Nat, c.H = H := ⟨c.H.toNat, by have := CC.h.1; rw [← hc]; show (cfgOf (a0 % 1048576) (a1 % 1048576) (a2 % 1048576)).H = ((cfgOf (a0 % 1048576) (a1 % 1048576) (a2 % 1048576)).H.toNat : Int); omega⟩
  have hb1 : 1 ≤ H ∧ H ≤ 5 := by
    have := CC.h
    have e : (cfgOf (a0 % 1048576) (a1 % 1048576) (a2 % 1048576)).H = (H : Int) := by rw [← hH, ← hc]; rfl
    rw [e] at this; omega
  clear hc CC
  go_wp2_with fail
  refine upon_fresh (by simp) rfl (by kernel_rfl) ?_
  intro W1 b1 s1 h1
  have R8 := Lib.hid (show Rw W1 w4.heap.size c (.slice (some ⟨O, 0, none⟩) 4 4) (.slice fa n fc) from h1)
  have L1 := Lib.hid (L4.out.trans (b1.mono L4.out.size))
  have hlt : w4.heap.size < W1.heap.size := by omega
  have c26 : W1.cell? ⟨w4.heap.size, 26, none⟩ = some (.slice fa n fc) := R8.out.cell 26 rfl
  have c4 : W1.cell? ⟨w4.heap.size, 4, none⟩ = some (.int .i64 H) := by rw [← hH]; exact R8.out.cell 4 rfl
  clear h1 b1 s1
  by_cases n0 : n = 0
  · have g0 : ((n : Int) == 0) = true := by simp [n0]
    go_wp2_with fail
    go_returns
    exact ⟨rfl, L1.out⟩
  have g0 : ((n : Int) == 0) = false := by simp [n0]
  have v1 : IntKind.i64.wrap ((H : Int) + 1) = (H : Int) + 1 := IntWalk.i64_in _ (by omega)
  have v2 : IntKind.i64.wrap (2 * (H : Int)) = 2 * (H : Int) := IntWalk.i64_in _ (by omega)
  have v3 : IntKind.i64.wrap (2 * (H : Int) + 1) = 2 * (H : Int) + 1 := IntWalk.i64_in _ (by omega)
  go_wp2_with fail
  refine (numbC a3 ((H : Int) + 1) (by omega) (by omega) W1).mono ?_
  rintro e w' ⟨rfl, rfl⟩
  obtain ⟨g, hg, hgH⟩ : ∃ g : Nat, a3 % ((H : Int) + 1) = g ∧ g ≤ H := ⟨(a3 % ((H : Int) + 1)).toNat, by have := Int.emod_nonneg a3 (show (H : Int) + 1 ≠ 0 by omega); omega, by have := Int.emod_lt_of_pos a3 (show (0 : Int) < (H : Int) + 1 by omega); have := Int.emod_nonneg a3 (show (H : Int) + 1 ≠ 0 by omega); omega⟩
  rw [hg]
  clear hg
  go_wp2_with fail
  refine (numbC a4 (2 * (H : Int) + 1) (by omega) (by omega) W1).mono ?_
  rintro e w' ⟨rfl, rfl⟩
  obtain ⟨mm, hm, hmH⟩ : ∃ g : Nat, a4 % (2 * (H : Int) + 1) = g ∧ g ≤ 2 * H := ⟨(a4 % (2 * (H : Int) + 1)).toNat, by have := Int.emod_nonneg a4 (show 2 * (H : Int) + 1 ≠ 0 by omega); omega, by have := Int.emod_lt_of_pos a4 (show (0 : Int) < 2 * (H : Int) + 1 by omega); have := Int.emod_nonneg a4 (show 2 * (H : Int) + 1 ≠ 0 by omega); omega⟩
  rw [hm]
  clear hm
  go_upto_region 10 with fail
  have hall : wrap64 (wrap64 (2 ^ n) - 1) = allV n := by
    rcases (show n = 1 ∨ n = 2 ∨ n = 3 ∨ n = 4 ∨ n = 5 ∨ n = 6 by omega) with rfl | rfl | rfl | rfl | rfl | rfl <;> decide +kernel
  have hne : allV n ≠ 0 := by
    rcases (show n = 1 ∨ n = 2 ∨ n = 3 ∨ n = 4 ∨ n = 5 ∨ n = 6 by omega) with rfl | rfl | rfl | rfl | rfl | rfl <;> decide +kernel
  rw [hall]
  have h1n : 1 ≤ n := by omega
  clear hall c26 v1 v2 v3 g0 n0
  have SA := Lib.hid (fun x => stepAll n H x h1n hn)
  have SN := Lib.hid (fun x => stepNone n H x h1n hn)
  have SO := Lib.hid (fun x => stepOne n H x h1n hn)
  have OA := Lib.hid (fun x => onAll n H x h1n hn)
  have OO := Lib.hid (fun x => onOne n H x h1n hn hb1.1)
  obtain ⟨A, hA⟩ : ∃ A, allV n = A := ⟨_, rfl⟩
  rw [hA] at hne SA OA
  rw [hA]
  clear hA
  have e1 : (A != 0) = true := by simp [hne]
  have e2 : (A != A) = false := by simp
  have e3 : (A == A) = true := by simp
  have e4 : ((0 : Int) == A) = false := by rw [beq_eq_false_iff_ne]; exact fun h => hne h.symm
  clear hne
  go_wp2_with (refine wpList_load_row_g (by kernel_rfl) 31 _ rfl w4.heap.size rfl 31 _ (0, 0) _ R8.out Tryd.underlying31 rfl (by kernel_rfl) ?_)
  refine (newC c H hH hb1.1 (.slice (some ⟨O, 0, none⟩) 4 4) fa n fc hn W1).mono ?_
  rintro e w5 ⟨K, V, rfl, hK, hV, hkp, hb⟩
  have KP := Lib.hid hkp
  have B5 := Lib.hid hb
  have KN := Lib.hid (onC K V H n (List.replicate n 0) hn w5 hkp)
  rw [OA.out 0, if_neg (show ¬ H ≤ 0 by omega)] at KN
  have KST := Lib.hid fun (x : Nat) (hx : x ≤ 5) (want : Int) (u : World) (hu : Kpr u K V H n (List.replicate n x)) => stepC K V H n (List.replicate n x) want hn (by omega) (fun y hy => by rw [List.eq_of_mem_replicate hy]; omega) W1.heap.size hV hK u hu
  have C4 := Lib.hid fun (u : World) (hu : Below W1.heap.size W1 u) => below_cell hu c4
  have LO := Lib.hid fun (u : World) (hu : Below W1.heap.size W1 u) => L1.out.trans (hu.mono L1.out.size)
  clear hkp hb hK hV R8 L1 L4 c4 hlt hH
  go_wp2_with fail
  refine KN.out.mono ?_
  rintro e w' ⟨rfl, rfl⟩
  go_wp2_with fail
  go_loopw [15] (fun v wr => ∃ i : Nat, i ≤ g ∧ v = .int .i64 i ∧ Kpr wr K V H n (List.replicate n (min i H)) ∧ Below W1.heap.size W1 wr) (fun v _ => g - (intOf v).toNat)
  case atStart => exact ⟨0, by omega, rfl, by rw [show min 0 H = 0 by omega]; exact KP.out, B5.out⟩
  case round =>
    obtain ⟨i, hi, rfl, hk, hb⟩ := hrel
    have KI := Lib.hid hk
    have BI := Lib.hid hb
    have c4 := C4.out wr hb
    clear hk hb
    by_cases q : i < g ∧ g < H
    · have g1 : decide ((i : Int) < (g : Int)) = true := decide_eq_true (by omega)
      have g2 : decide ((g : Int) < (H : Int)) = true := decide_eq_true (by omega)
      have KS := Lib.hid (KST.out (min i H) (by omega) A wr KI.out)
      go_wp2_with fail
      refine KS.out.mono ?_
      rintro e w6 ⟨L', hL, rfl, hk, hb⟩
      rw [SA.out, show min (min i H + 1) H = min (i + 1) H by omega] at hL
      subst hL
      rw [OA.out, if_neg (show ¬ H ≤ min (i + 1) H by omega)]
      have K6 := Lib.hid hk
      have B6 := Lib.hid (BI.out.trans hb)
      clear hk hb KS c4
      go_wp2_with fail
      go_roundw
      case rel => exact ⟨i + 1, by omega, by go_num, K6.out, B6.out⟩
      case measure => simp [intOf]; omega
    · have KS := Lib.hid (KST.out (min i H) (by omega) 0 wr KI.out)
      rcases (show ¬ i < g ∨ (i < g ∧ ¬ g < H) by omega) with q1 | ⟨q1, q2⟩
      · have g1 : decide ((i : Int) < (g : Int)) = false := decide_eq_false (by omega)
        go_wp2_with fail
        refine KS.out.mono ?_
        rintro e w6 ⟨L', hL, rfl, hk, hb⟩
        rw [SN.out] at hL
        subst hL
        rw [OA.out, if_neg (show ¬ H ≤ 0 by omega)]
        have K6 := Lib.hid hk
        have B6 := Lib.hid (BI.out.trans hb)
        clear hk hb KS c4 KI BI
        go_wp2_with fail
        go_loopw [16, 17] (fun v v17 wr => ∃ i : Nat, i ≤ mm ∧ v = .int .i64 i ∧ Kpr wr K V H n (List.replicate n (min i H)) ∧ Below W1.heap.size W1 wr) (fun v _ _ => mm - (intOf v).toNat)
        case atStart => exact ⟨0, by omega, rfl, by rw [show min 0 H = 0 by omega]; exact K6.out, B6.out⟩
        case round =>
          obtain ⟨j, hj, rfl, hk, hb⟩ := hrel
          have KJ := Lib.hid hk
          have BJ := Lib.hid hb
          clear hk hb
          by_cases hl : j < mm
          · have gj : decide ((j : Int) < (mm : Int)) = true := decide_eq_true (by omega)
            have KS := Lib.hid (KST.out (min j H) (by omega) A wr KJ.out)
            have vj : IntKind.i64.wrap ((j : Int) + 1) = (j : Int) + 1 := IntWalk.i64_in _ (by omega)
            go_wp2_with fail
            refine KS.out.mono ?_
            rintro e w7 ⟨L', hL, rfl, hk, hb⟩
            rw [SA.out, show min (min j H + 1) H = min (j + 1) H by omega] at hL
            subst hL
            have K7 := Lib.hid hk
            have B7 := Lib.hid (BJ.out.trans hb)
            have c4 := C4.out w7 B7.out
            clear hk hb KS KJ BJ
            rw [OA.out]
            by_cases qH : H ≤ j + 1
            · rw [if_pos (show H ≤ min (j + 1) H by omega)]
              have gh : decide ((H : Int) ≤ (j : Int) + 1) = true := decide_eq_true (by omega)
              go_wp2_with fail
              go_roundw
              case rel => exact ⟨j + 1, by omega, by go_num, K7.out, B7.out⟩
              case measure => simp [intOf]; omega
            · rw [if_neg (show ¬ H ≤ min (j + 1) H by omega)]
              have gh : decide ((H : Int) ≤ (j : Int) + 1) = false := decide_eq_false (by omega)
              go_wp2_with fail
              go_roundw
              case rel => exact ⟨j + 1, by omega, by go_num, K7.out, B7.out⟩
              case measure => simp [intOf]; omega
          · have gj : decide ((j : Int) < (mm : Int)) = false := decide_eq_false (by omega)
            have KS := Lib.hid (KST.out (min j H) (by omega) 1 wr KJ.out)
            go_wp2_with fail
            refine KS.out.mono ?_
            rintro e w7 ⟨L', hL, rfl, hk, hb⟩
            have KO := Lib.hid (onC K V H n L' hn w7 hk)
            rw [SO.out] at hL
            subst hL
            rw [OO.out] at KO
            rw [OO.out]
            have LZ := Lib.hid (LO.out w7 (BJ.out.trans hb))
            clear hk hb KS KJ BJ
            by_cases qH : H ≤ min (min j H + 1) H
            · rw [if_pos qH] at KO
              rw [if_pos qH]
              go_wp2_with fail
              refine KO.out.mono ?_
              rintro e w' ⟨rfl, rfl⟩
              go_wp2_with fail
              refine KO.out.mono ?_
              rintro e w' ⟨rfl, rfl⟩
              go_wp2_with fail
              go_returns
              exact ⟨rfl, LZ.out⟩
            · rw [if_neg qH] at KO
              rw [if_neg qH]
              go_wp2_with fail
              refine KO.out.mono ?_
              rintro e w' ⟨rfl, rfl⟩
              go_wp2_with fail
              refine KO.out.mono ?_
              rintro e w' ⟨rfl, rfl⟩
              go_wp2_with fail
              go_returns
              exact ⟨rfl, LZ.out⟩
      · have g1 : decide ((i : Int) < (g : Int)) = true := decide_eq_true (by omega)
        have g2 : decide ((g : Int) < (H : Int)) = false := decide_eq_false (by omega)
        go_wp2_with fail
        refine KS.out.mono ?_
        rintro e w6 ⟨L', hL, rfl, hk, hb⟩
        rw [SN.out] at hL
        subst hL
        rw [OA.out, if_neg (show ¬ H ≤ 0 by omega)]
        have K6 := Lib.hid hk
        have B6 := Lib.hid (BI.out.trans hb)
        clear hk hb KS c4 KI BI
        go_wp2_with fail
        go_loopw [16, 17] (fun v v17 wr => ∃ i : Nat, i ≤ mm ∧ v = .int .i64 i ∧ Kpr wr K V H n (List.replicate n (min i H)) ∧ Below W1.heap.size W1 wr) (fun v _ _ => mm - (intOf v).toNat)
        case atStart => exact ⟨0, by omega, rfl, by rw [show min 0 H = 0 by omega]; exact K6.out, B6.out⟩
        case round =>
          obtain ⟨j, hj, rfl, hk, hb⟩ := hrel
          have KJ := Lib.hid hk
          have BJ := Lib.hid hb
          clear hk hb
          by_cases hl : j < mm
          · have gj : decide ((j : Int) < (mm : Int)) = true := decide_eq_true (by omega)
            have KS := Lib.hid (KST.out (min j H) (by omega) A wr KJ.out)
            have vj : IntKind.i64.wrap ((j : Int) + 1) = (j : Int) + 1 := IntWalk.i64_in _ (by omega)
            go_wp2_with fail
            refine KS.out.mono ?_
            rintro e w7 ⟨L', hL, rfl, hk, hb⟩
            rw [SA.out, show min (min j H + 1) H = min (j + 1) H by omega] at hL
            subst hL
            have K7 := Lib.hid hk
            have B7 := Lib.hid (BJ.out.trans hb)
            have c4 := C4.out w7 B7.out
            clear hk hb KS KJ BJ
            rw [OA.out]
            by_cases qH : H ≤ j + 1
            · rw [if_pos (show H ≤ min (j + 1) H by omega)]
              have gh : decide ((H : Int) ≤ (j : Int) + 1) = true := decide_eq_true (by omega)
              go_wp2_with fail
              go_roundw
              case rel => exact ⟨j + 1, by omega, by go_num, K7.out, B7.out⟩
              case measure => simp [intOf]; omega
            · rw [if_neg (show ¬ H ≤ min (j + 1) H by omega)]
              have gh : decide ((H : Int) ≤ (j : Int) + 1) = false := decide_eq_false (by omega)
              go_wp2_with fail
              go_roundw
              case rel => exact ⟨j + 1, by omega, by go_num, K7.out, B7.out⟩
              case measure => simp [intOf]; omega
          · have gj : decide ((j : Int) < (mm : Int)) = false := decide_eq_false (by omega)
            have KS := Lib.hid (KST.out (min j H) (by omega) 1 wr KJ.out)
            go_wp2_with fail
            refine KS.out.mono ?_
            rintro e w7 ⟨L', hL, rfl, hk, hb⟩
            have KO := Lib.hid (onC K V H n L' hn w7 hk)
            rw [SO.out] at hL
            subst hL
            rw [OO.out] at KO
            rw [OO.out]
            have LZ := Lib.hid (LO.out w7 (BJ.out.trans hb))
            clear hk hb KS KJ BJ
            by_cases qH : H ≤ min (min j H + 1) H
            · rw [if_pos qH] at KO
              rw [if_pos qH]
              go_wp2_with fail
              refine KO.out.mono ?_
              rintro e w' ⟨rfl, rfl⟩
              go_wp2_with fail
              refine KO.out.mono ?_
              rintro e w' ⟨rfl, rfl⟩
              go_wp2_with fail
              go_returns
              exact ⟨rfl, LZ.out⟩
            · rw [if_neg qH] at KO
              rw [if_neg qH]
              go_wp2_with fail
              refine KO.out.mono ?_
              rintro e w' ⟨rfl, rfl⟩
              go_wp2_with fail
              refine KO.out.mono ?_
              rintro e w' ⟨rfl, rfl⟩
              go_wp2_with fail
              go_returns
              exact ⟨rfl, LZ.out⟩
end Go.Proofs.YtbeemfkndpandaaDoor
