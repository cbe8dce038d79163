/- Between which places the document's own answer on a right table is. Conditions: the table is right. -/
import Derived.Test.YtppomdpppidbaaaDoorTabE
namespace Go.Proofs.YtppomdpppidbaaaDoor
open Go.RowKit
set_option linter.unusedVariables false
theorem refOf' (a b p q : Int) (hp : min a b = p) (hq : max a b = q) (w : World) :
    Calls Tryd.prog 33 #[.int .i64 a, .int .i64 b] w fun e w' => e = .returned (.agg #[.int .i64 p, .int .i64 q]) ∧ Below w.heap.size w w' := by
  subst hp hq
  exact refOf a b w
set_option maxHeartbeats 4000000 in
set_option maxRecDepth 20000 in
theorem refBackC (a : Addr) (n cap : Nat) (x y : Nat → Int) (v : Int) (T : TabOk n x y) (w : World) (h : Pts w a n x y) :
    Calls Tryd.prog 18 #[.slice (some a) n cap, .int .i64 v] w fun e w' => e = .returned (.agg #[.int .i64 (backLo n x y v), .int .i64 (backHi n x y v)]) ∧ Below w.heap.size w w' := by
  have T1 := Lib.hid T
  have H := Lib.hid h
  have n2 := T.n2
  have n3 := T.n3
  obtain ⟨m, rfl⟩ : ∃ m, n = m + 1 := ⟨n - 1, by omega⟩
  have ff := fault_f0 0 false 0
  clear h T
  go_enter Tryd.func18, Tryd.ntmps18
  go_wp2_with fail
  have B0 := Lib.hid (Bx.new w #[.int .i64 0, .int .i64 0] 27)
  generalize World.alloc w _ = W0 at *
  refine (refCheckC a _ cap x y T1.out _ (H.out.below B0.out.lo)).mono ?_
  rintro e w1 ⟨rfl, hb1⟩
  have B1 := Lib.hid (B0.out.below hb1)
  clear hb1 B0
  have P1 := Lib.hid (H.out.below B1.out.lo)
  obtain ⟨c0, c1⟩ := P1.out 0 (by omega)
  obtain ⟨l0, l1⟩ := P1.out m (by omega)
  rw [Nat.zero_mul, add_0] at c0 c1
  have i12 : IntKind.i64.wrap ((m : Int) + 1 - 1) = (m : Int) := by rw [show (m : Int) + 1 - 1 = m by omega]; exact IntWalk.i64_in _ (by omega)
  have bx0 := T1.out.bx 0 (by omega)
  have bxm := T1.out.bx m (by omega)
  have x0m := (T1.out.mono (Nat.zero_le m) (by omega)).1
  obtain ⟨p1, p2, p3, p4⟩ := reach_pass T1.out v
  have RL := Lib.hid fun (c : Int) (h1 : x 0 ≤ c) (h2 : c ≤ x m) => reach_le T1.out v h1 h2
  have PL := Lib.hid fun (c : Int) (h1 : x 0 ≤ c) (h2 : c ≤ x m) => pass_le T1.out v h1 h2
  have EL := Lib.hid (show backLo (m + 1) x y v = min (min (reachI (m + 1) x y v) (x m)) (max (passI (m + 1) x y v - 1) (x 0)) from rfl)
  have EH := Lib.hid (show backHi (m + 1) x y v = max (min (reachI (m + 1) x y v) (x m)) (max (passI (m + 1) x y v - 1) (x 0)) from rfl)
  generalize reachI (m + 1) x y v = rr at *
  generalize passI (m + 1) x y v = pp at *
  obtain ⟨R, hR⟩ : ∃ R, min rr (x m) = R := ⟨_, rfl⟩
  obtain ⟨S, hS⟩ : ∃ S, max (pp - 1) (x 0) = S := ⟨_, rfl⟩
  have R1 : x 0 ≤ R := by omega
  have R2 : R ≤ x m := by omega
  have S1 : x 0 ≤ S := by omega
  have S2 : S ≤ x m := by omega
  have RM := Lib.hid (show ∀ c : Int, x 0 ≤ c → c < x m → (v ≤ atHi (m + 1) x y c ↔ R ≤ c) from fun c h1 h2 => by have := RL.out c h1 (by omega); omega)
  have SM := Lib.hid (show ∀ c : Int, x 0 < c → c ≤ x m → (atLo (m + 1) x y c ≤ v ↔ c ≤ S) from fun c h1 h2 => by have := PL.out c (by omega) h2; omega)
  have EL2 := Lib.hid (show backLo (m + 1) x y v = min R S by rw [EL.out, hR, hS])
  have EH2 := Lib.hid (show backHi (m + 1) x y v = max R S by rw [EH.out, hR, hS])
  clear hR hS EL EH RL PL p1 p2 p3 p4
  go_wp2_with fail
  go_loopw [7, 8] (fun s u wr => ∃ lo hi : Int, s = .int .i64 lo ∧ u = .int .i64 hi ∧ x 0 ≤ lo ∧ lo ≤ R ∧ R ≤ hi ∧ hi ≤ x m ∧ Bx w wr #[.int .i64 0, .int .i64 0] 27) (fun s u _ => (intOf u - intOf s).toNat)
  case atStart => exact ⟨x 0, x m, rfl, rfl, Int.le_refl _, R1, R2, Int.le_refl _, B1.out⟩
  case round =>
    obtain ⟨lo, hi, rfl, rfl, k1, k2, k3, k4, hb⟩ := hrel
    have B2 := Lib.hid hb
    clear hb c0 c1 l0 l1 P1 B1
    by_cases hl : lo < hi
    · obtain ⟨mid, hmid⟩ : ∃ k : Int, lo + (hi - lo) / 2 = k := ⟨_, rfl⟩
      have m1 : lo ≤ mid := by omega
      have m2 : mid < hi := by omega
      have rm := RM.out mid (by omega) (by omega)
      have f1 := span_f1 (atLo (m + 1) x y mid) (atHi (m + 1) x y mid)
      have KM := Lib.hid (refAtC a (m + 1) cap x y mid T1.out wr (H.out.below B2.out.lo))
      by_cases hq : v ≤ atHi (m + 1) x y mid
      · have r1 := rm.1 hq
        clear rm
        go_wp2_with fail
        refine KM.out.mono ?_
        rintro e w5 ⟨rfl, hb5⟩
        have B3 := Lib.hid (B2.out.below hb5)
        clear hb5
        go_wp2_with fail
        go_roundw
        case rel => exact ⟨lo, mid, rfl, rfl, k1, k2, r1, by omega, B3.out⟩
        case measure => simp [intOf]; omega
      · have r1 : mid + 1 ≤ R := by omega
        clear rm
        go_wp2_with fail
        refine KM.out.mono ?_
        rintro e w5 ⟨rfl, hb5⟩
        have B3 := Lib.hid (B2.out.below hb5)
        clear hb5
        go_wp2_with fail
        go_roundw
        case rel => exact ⟨mid + 1, hi, rfl, rfl, by omega, r1, k3, k4, B3.out⟩
        case measure => simp [intOf]; omega
    · have hRe : lo = R := by omega
      subst hRe
      clear RM k1 k2 k3 k4
      have k5 : ¬ lo < hi := hl
      go_wp2_with fail
      go_loopw [7, 8] (fun s u wr => ∃ lo hi : Int, s = .int .i64 lo ∧ u = .int .i64 hi ∧ x 0 ≤ lo ∧ lo ≤ S ∧ S ≤ hi ∧ hi ≤ x m ∧ Bx w wr #[.int .i64 0, .int .i64 0] 27) (fun s u _ => (intOf u - intOf s).toNat)
      case atStart => exact ⟨x 0, x m, rfl, rfl, Int.le_refl _, S1, S2, Int.le_refl _, B2.out⟩
      case round =>
        obtain ⟨l2, h2, rfl, rfl, k1, k2, k3, k4, hb⟩ := hrel
        have B4 := Lib.hid hb
        clear hb B2
        by_cases hl : l2 < h2
        · obtain ⟨mid, hmid⟩ : ∃ k : Int, h2 - (h2 - l2) / 2 = k := ⟨_, rfl⟩
          have m1 : l2 < mid := by omega
          have m2 : mid ≤ h2 := by omega
          have rm := SM.out mid (by omega) (by omega)
          have f0 := span_f0 (atLo (m + 1) x y mid) (atHi (m + 1) x y mid)
          have KM := Lib.hid (refAtC a (m + 1) cap x y mid T1.out wr (H.out.below B4.out.lo))
          by_cases hq : atLo (m + 1) x y mid ≤ v
          · have r1 := rm.1 hq
            clear rm
            go_wp2_with fail
            refine KM.out.mono ?_
            rintro e w5 ⟨rfl, hb5⟩
            have B5 := Lib.hid (B4.out.below hb5)
            clear hb5
            go_wp2_with fail
            go_roundw
            case rel => exact ⟨mid, h2, rfl, rfl, by omega, r1, k3, k4, B5.out⟩
            case measure => simp [intOf]; omega
          · have r1 : S ≤ mid - 1 := by omega
            clear rm
            have w1 : IntKind.i64.wrap (mid - 1) = mid - 1 := IntWalk.i64_in _ (by omega)
            go_wp2_with fail
            refine KM.out.mono ?_
            rintro e w5 ⟨rfl, hb5⟩
            have B5 := Lib.hid (B4.out.below hb5)
            clear hb5
            go_wp2_with fail
            go_roundw
            case rel => exact ⟨l2, mid - 1, rfl, rfl, k1, k2, r1, by omega, B5.out⟩
            case measure => simp [intOf]; omega
        · have hSe : l2 = S := by omega
          subst hSe
          clear SM k1 k2 k3 k4
          obtain ⟨bl, hbl⟩ : ∃ p, min lo l2 = p := ⟨_, rfl⟩
          obtain ⟨bh, hbh⟩ : ∃ p, max lo l2 = p := ⟨_, rfl⟩
          have KO := Lib.hid fun (w : World) => refOf' lo l2 bl bh hbl hbh w
          have QL := Lib.hid (EL2.out.trans hbl)
          have QH := Lib.hid (EH2.out.trans hbh)
          clear EL2 EH2 hbl hbh
          go_wp2_with fail
          refine (KO.out _).mono ?_
          rintro e w5 ⟨rfl, hb5⟩
          have B5 := Lib.hid (B4.out.below hb5)
          clear hb5
          have x0 := B5.out.cell 0 rfl
          have x1 := B5.out.cell 1 rfl
          have xf := B5.out.froz
          go_wp2_with fail
          have B6 := Lib.hid ((B5.out.set 0 (.int .i64 bl)).set 1 (.int .i64 bh))
          clear x0 x1 xf
          generalize World.setCell _ _ _ = W3 at *
          have q0 : W3.cell? ⟨w.heap.size, 0, none⟩ = some (.int .i64 bl) := B6.out.cell 0 rfl
          have q1 : W3.cell? ⟨w.heap.size, 1, none⟩ = some (.int .i64 bh) := B6.out.cell 1 rfl
          refine bodyPost_ret (v := .agg #[.int .i64 bl, .int .i64 bh]) (by simp [results, Tryd.results18, go_sem, q0, q1]) rfl ⟨by rw [QL.out, QH.out], B6.out.lo⟩
end Go.Proofs.YtppomdpppidbaaaDoor
