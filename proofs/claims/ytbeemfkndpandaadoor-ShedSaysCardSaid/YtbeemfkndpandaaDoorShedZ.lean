/- The document's Load and Chargers. Conditions: none. -/
import Derived.Test.YtbeemfkndpandaaDoorShedL
import Derived.Test.YtbeemfkndpandaaDoorShedC
namespace Go.Proofs.YtbeemfkndpandaaDoor
open Go Go.RowKit
set_option linter.unusedVariables false
set_option maxRecDepth 20000
def okG (feed shut : Int) (bu : Nat → Int) (s : Int) (i : Nat) : Bool := tb feed i && decide (0 ≤ s) && (fv (BitVec.ofInt 7 shut) (bu i) == s)
theorem loadN_congr {ok ok' : Nat → Bool} {lo : Nat → Int} (n : Nat) (h : ∀ i, ok i = ok' i) : loadN ok lo n = loadN ok' lo n := by
  rw [show ok = ok' from funext h]
theorem loadN_zero {ok : Nat → Bool} {lo : Nat → Int} (n : Nat) (h : ∀ i, ok i = false) : loadN ok lo n = 0 := by
  induction n with
  | zero => rfl
  | succ n ih => unfold loadN; rw [h n]; simpa using ih
theorem fdsF_le (j : BitVec 7) (k : Nat) : fdsF j k < k ∨ fdsF j k = -1 := by
  induction k with
  | zero => exact .inr rfl
  | succ k ih =>
    have e : fdsF j (k + 1) = if fdsF j k = -1 then (if j = bitOf k then (k : Int) else -1) else fdsF j k := rfl
    rw [e]
    by_cases h : fdsF j k = -1
    · rw [if_pos h]
      by_cases h2 : j = bitOf k
      · rw [if_pos h2]; left; omega
      · rw [if_neg h2]; right; rfl
    · rw [if_neg h]
      rcases ih with h1 | h1
      · left; omega
      · exact absurd h1 h
theorem fv_le (m : BitVec 7) (b : Int) : fv m b ≤ 3 := by
  unfold fv
  split
  · unfold fds
    split
    · omega
    · rcases fdsF_le (rch m b.toNat &&& srcs) 4 with h | h <;> omega
  · omega
theorem load_same (feed shut : Int) (bu lo : Nat → Int) (n : Nat) (s : Nat) : loadN (okG feed shut bu s) lo n = loadN (okF feed shut bu s) lo n :=
  loadN_congr n fun i => by unfold okG okF; rw [decide_eq_true (show (0 : Int) ≤ (s : Int) by omega), Bool.and_true]
theorem load_out (feed shut : Int) (bu lo : Nat → Int) (n : Nat) (s : Int) (hs : s < 0 ∨ 3 < s) : loadN (okG feed shut bu s) lo n = 0 :=
  loadN_zero n fun i => by
    unfold okG
    rcases hs with h | h
    · rw [decide_eq_false (by omega)]; simp
    · have := fv_le (BitVec.ofInt 7 shut) (bu i)
      rw [show (fv (BitVec.ofInt 7 shut) (bu i) == s) = false by rw [beq_eq_false_iff_ne]; omega, Bool.and_false]
set_option maxHeartbeats 8000000 in
theorem refLoadC (c : CG) (oc : Value) (a : Option Addr) (n cp : Nat) (bu lo pr : Nat → Int) (hn : n ≤ 6) (hlo : ∀ i, i < n → 0 ≤ lo i ∧ lo i ≤ 1073741824) (feed shut s : Int) (w : World) (h : FedG w a n bu lo pr) :
    Calls Tryd.prog 19 #[.agg (cgA c oc (.slice a n cp)), .int .i64 feed, .int .i64 shut, .int .i64 s] w fun e w' => e = .returned (.int .i64 (loadN (okG feed shut bu s) lo n)) ∧ Below w.heap.size w w' := by
  have H := Lib.hid h
  have HLO := Lib.hid hlo
  obtain ⟨ok, hok⟩ : ∃ ok, okG feed shut bu s = ok := ⟨_, rfl⟩
  rw [hok]
  have HOK := Lib.hid hok
  have BN := Lib.hid fun i (hi : i ≤ n) => loadN_bound (ok := ok) n hlo i hi
  clear h hlo hok
  go_enter Tryd.func19, Tryd.ntmps19
  go_upto_region 1 with fail
  have B0 := Lib.hid (Bx.new w (cgA c oc (.slice a n cp)) 31)
  generalize World.alloc w _ = W at *
  go_wp2_with fail
  go_loopw [9, 10] (fun v9 v wr => ∃ (i : Nat) (ld : Int), i ≤ n ∧ v = .int .i64 i ∧ v9 = .int .i64 ld ∧ ld = loadN ok lo i ∧ wr = W) (fun _ v _ => n - (intOf v).toNat)
  case atStart => exact ⟨0, 0, by omega, rfl, rfl, rfl, rfl⟩
  case round =>
    obtain ⟨i, ld, hi, rfl, rfl, hld, rfl⟩ := hrel
    have LD := Lib.hid hld
    clear hld
    have x26 : wr.cell? ⟨w.heap.size, 26, none⟩ = some (.slice a n cp) := B0.out.cell 26 rfl
    by_cases hl : i < n
    · have i1 : (i : Int) < (n : Int) := by omega
      obtain ⟨p, rfl, c0, c1, c2⟩ := (H.out.below B0.out.lo) i hl
      have LB := HLO.out i hl
      have LDB := BN.out i (by omega)
      rw [← LD.out] at LDB
      have v1 : IntKind.i64.wrap (ld + lo i) = ld + lo i := IntWalk.i64_in _ (by omega)
      have KF := Lib.hid (feedsRV shut (bu i) wr)
      obtain ⟨tv, gt⟩ : ∃ tv, (bits BinOp.and IntKind.i64 (feed / 2 ^ i) 1 == 1) = tv := ⟨_, rfl⟩
      obtain ⟨sv, gs⟩ : ∃ sv, decide (0 ≤ s) = sv := ⟨_, rfl⟩
      obtain ⟨fq, gf⟩ : ∃ fq, (fv (BitVec.ofInt 7 shut) (bu i) == s) = fq := ⟨_, rfl⟩
      have SO := Lib.hid (show ok i = (tv && sv && fq) by rw [← HOK.out]; unfold okG tb; rw [gt, gs, gf])
      cases tv
      · have ST := Lib.hid (show ld = loadN ok lo (i + 1) by
          show ld = if ok i then loadN ok lo i + lo i else loadN ok lo i
          rw [if_neg (by rw [SO.out]; simp)]; exact LD.out)
        go_wp2_with fail
        go_roundw
        case rel => exact ⟨i + 1, ld, by omega, by go_num, rfl, ST.out, trivial⟩
        case measure => simp [intOf]; omega
      · cases sv
        · have ST := Lib.hid (show ld = loadN ok lo (i + 1) by
            show ld = if ok i then loadN ok lo i + lo i else loadN ok lo i
            rw [if_neg (by rw [SO.out]; simp)]; exact LD.out)
          go_wp2_with fail
          go_roundw
          case rel => exact ⟨i + 1, ld, by omega, by go_num, rfl, ST.out, trivial⟩
          case measure => simp [intOf]; omega
        · cases fq
          · have ST := Lib.hid (show ld = loadN ok lo (i + 1) by
              show ld = if ok i then loadN ok lo i + lo i else loadN ok lo i
              rw [if_neg (by rw [SO.out]; simp)]; exact LD.out)
            go_wp2_with fail
            refine KF.out.mono ?_
            rintro e w' ⟨rfl, rfl⟩
            go_wp2_with fail
            go_roundw
            case rel => exact ⟨i + 1, ld, by omega, by go_num, rfl, ST.out, trivial⟩
            case measure => simp [intOf]; omega
          · have ST := Lib.hid (show ld + lo i = loadN ok lo (i + 1) by
              show ld + lo i = if ok i then loadN ok lo i + lo i else loadN ok lo i
              rw [if_pos (by rw [SO.out]; simp), ← LD.out])
            go_wp2_with fail
            refine KF.out.mono ?_
            rintro e w' ⟨rfl, rfl⟩
            go_wp2_with fail
            go_roundw
            case rel => exact ⟨i + 1, ld + lo i, by omega, by go_num, rfl, ST.out, trivial⟩
            case measure => simp [intOf]; omega
    · obtain rfl : i = n := by omega
      go_wp2_with fail
      go_returns
      exact ⟨by rw [LD.out]; rfl, B0.out.lo⟩
set_option maxHeartbeats 16000000 in
theorem refChargersC (c : CG) (oc fe : Value) (shut : Int) (u0 u1 : Bool) (f0 f1 l0 h0 l1 h1 : Int) (w : World) :
    Calls Tryd.prog 21 #[.agg (cgA c oc fe), .int .i64 shut, .agg #[.bool u0, .bool u1], .agg #[.int .i64 f0, .int .i64 f1], .agg #[.int .i64 l0, .int .i64 h0, .int .i64 l1, .int .i64 h1]] w fun e w' =>
      e = .returned (.int .i64 (chV (okC (fv (BitVec.ofInt 7 shut) 4) u0 f0 h0 c.Cap) (okC (fv (BitVec.ofInt 7 shut) 5) u1 f1 h1 c.Cap))) ∧ Below w.heap.size w w' := by
  obtain ⟨o0, ho0⟩ : ∃ o, okC (fv (BitVec.ofInt 7 shut) 4) u0 f0 h0 c.Cap = o := ⟨_, rfl⟩
  obtain ⟨o1, ho1⟩ : ∃ o, okC (fv (BitVec.ofInt 7 shut) 5) u1 f1 h1 c.Cap = o := ⟨_, rfl⟩
  rw [ho0, ho1]
  have E0 := Lib.hid ho0
  have E1 := Lib.hid ho1
  clear ho0 ho1
  obtain ⟨f, hf⟩ : ∃ f, chN o0 o1 = f := ⟨_, rfl⟩
  have F0 := Lib.hid (show f 0 = 0 by rw [← hf]; rfl)
  have F1 := Lib.hid (show f 1 = if o0 then orI (f 0) 0 else f 0 by rw [← hf]; rfl)
  have F2 := Lib.hid (show f 2 = if o1 then orI (f 1) 1 else f 1 by rw [← hf]; rfl)
  rw [show chV o0 o1 = f 2 by rw [← hf]; rfl]
  clear hf
  go_enter Tryd.func21, Tryd.ntmps21
  go_upto_region 1 with fail
  have B0 := Lib.hid (Bx4.new w (cgA c oc fe) 31 #[.bool u0, .bool u1] 22 #[.int .i64 f0, .int .i64 f1] 23 #[.int .i64 l0, .int .i64 h0, .int .i64 l1, .int .i64 h1] 26)
  generalize World.alloc (World.alloc (World.alloc (World.alloc w _) _) _) _ = W at *
  go_wp2_with fail
  go_loopw [11, 12, 13] (fun v11 v v13 wr => ∃ i : Nat, i ≤ 2 ∧ v = .int .i64 i ∧ v11 = .int .i64 (f i) ∧ Below W.heap.size W wr) (fun _ v _ _ => 2 - (intOf v).toNat)
  case atStart => exact ⟨0, by omega, rfl, by rw [F0.out], Below.refl _ _⟩
  case round =>
    obtain ⟨i, hi, rfl, rfl, hb⟩ := hrel
    have HB := Lib.hid hb
    have BX := Lib.hid (B0.out.below hb)
    clear hb
    by_cases hl : i < 2
    · rcases (show i = 0 ∨ i = 1 by omega) with rfl | rfl
      · rw [show ((0 : Nat) : Int) = 0 from rfl]
        have KF := Lib.hid (feedsRV shut 4 wr)
        obtain ⟨s, hs⟩ : ∃ s, fv (BitVec.ofInt 7 shut) 4 = s := ⟨_, rfl⟩
        rw [hs] at KF E0
        clear hs
        go_wp2_with fail
        refine KF.out.mono ?_
        rintro e w5 ⟨rfl, rfl⟩
        have su := fun d => below_cell (reach_below wr.heap.size wr d) (show wr.cell? ⟨w.heap.size + 1, 0, none⟩ = some (.bool u0) from BX.out.c1 0 rfl)
        have sf := fun d => below_cell (reach_below wr.heap.size wr d) (show wr.cell? ⟨w.heap.size + 1 + 1, 0, none⟩ = some (.int .i64 f0) from BX.out.c2 0 rfl)
        have sq := fun d => below_cell (reach_below wr.heap.size wr d) (show wr.cell? ⟨w.heap.size + 1 + 1 + 1, 1, none⟩ = some (.int .i64 h0) from BX.out.c3 1 rfl)
        have sc := fun d => below_cell (reach_below wr.heap.size wr d) (show wr.cell? ⟨w.heap.size, 5, none⟩ = some (.int .i64 c.Cap) from BX.out.c0 5 rfl)
        clear KF BX
        obtain ⟨b0, g0⟩ : ∃ x, (s == 0) = x := ⟨_, rfl⟩
        obtain ⟨b3, g3⟩ : ∃ x, (s == 3) = x := ⟨_, rfl⟩
        obtain ⟨bf, gf⟩ : ∃ x, (bits BinOp.and IntKind.i64 f0 10 == 0) = x := ⟨_, rfl⟩
        obtain ⟨bl, gl⟩ : ∃ x, decide (h0 < c.Cap) = x := ⟨_, rfl⟩
        have EO := Lib.hid (show o0 = ((b0 || b3) && (u0 && bf) && bl) by rw [← E0.out]; unfold okC; rw [g0, g3, gf, gl])
        cases b0
        · cases b3
          · have ST := Lib.hid (show f 1 = f 0 by rw [F1.out, show o0 = false by rw [EO.out]; simp]; rfl)
            go_upto_region 6 with fail
            refine wp_region_reach wr.heap.size (by kernel_rfl) (by kernel_rfl) ?_
            repeat (go_big_quiet_step (fail))
            refine wpQuiet_nil ?_
            rintro w' ⟨d, rfl⟩
            have H6 := Lib.hid (HB.out.trans ((reach_below wr.heap.size wr d).mono HB.out.size))
            clear sq sc su sf
            generalize reach wr.heap.size wr d = w6 at *
            go_wp2_with fail
            go_roundw
            case rel => exact ⟨1, by omega, by go_num, by rw [ST.out], H6.out⟩
            case measure => simp [intOf]
          · cases u0
            · have ST := Lib.hid (show f 1 = f 0 by rw [F1.out, show o0 = false by rw [EO.out]; simp]; rfl)
              go_upto_region 6 with fail
              refine wp_region_reach wr.heap.size (by kernel_rfl) (by kernel_rfl) ?_
              repeat (go_big_quiet_step (fail))
              refine wpQuiet_nil ?_
              rintro w' ⟨d, rfl⟩
              have H6 := Lib.hid (HB.out.trans ((reach_below wr.heap.size wr d).mono HB.out.size))
              clear sq sc su sf
              generalize reach wr.heap.size wr d = w6 at *
              go_wp2_with fail
              go_roundw
              case rel => exact ⟨1, by omega, by go_num, by rw [ST.out], H6.out⟩
              case measure => simp [intOf]
            · cases bf
              · have ST := Lib.hid (show f 1 = f 0 by rw [F1.out, show o0 = false by rw [EO.out]; simp]; rfl)
                go_upto_region 6 with fail
                refine wp_region_reach wr.heap.size (by kernel_rfl) (by kernel_rfl) ?_
                repeat (go_big_quiet_step (fail))
                refine wpQuiet_nil ?_
                rintro w' ⟨d, rfl⟩
                have H6 := Lib.hid (HB.out.trans ((reach_below wr.heap.size wr d).mono HB.out.size))
                clear sq sc su sf
                generalize reach wr.heap.size wr d = w6 at *
                go_wp2_with fail
                go_roundw
                case rel => exact ⟨1, by omega, by go_num, by rw [ST.out], H6.out⟩
                case measure => simp [intOf]
              · cases bl
                · have ST := Lib.hid (show f 1 = f 0 by rw [F1.out, show o0 = false by rw [EO.out]; simp]; rfl)
                  go_upto_region 6 with fail
                  refine wp_region_reach wr.heap.size (by kernel_rfl) (by kernel_rfl) ?_
                  repeat (go_big_quiet_step (fail))
                  refine wpQuiet_nil ?_
                  rintro w' ⟨d, rfl⟩
                  have H6 := Lib.hid (HB.out.trans ((reach_below wr.heap.size wr d).mono HB.out.size))
                  clear sq sc su sf
                  generalize reach wr.heap.size wr d = w6 at *
                  go_wp2_with fail
                  go_roundw
                  case rel => exact ⟨1, by omega, by go_num, by rw [ST.out], H6.out⟩
                  case measure => simp [intOf]
                · have ST := Lib.hid (show f 1 = orI (f 0) 0 by rw [F1.out, show o0 = true by rw [EO.out]; simp]; rfl)
                  go_upto_region 6 with fail
                  refine wp_region_reach wr.heap.size (by kernel_rfl) (by kernel_rfl) ?_
                  repeat (go_big_quiet_step (fail))
                  refine wpQuiet_nil ?_
                  rintro w' ⟨d, rfl⟩
                  have H6 := Lib.hid (HB.out.trans ((reach_below wr.heap.size wr d).mono HB.out.size))
                  clear sq sc su sf
                  generalize reach wr.heap.size wr d = w6 at *
                  go_wp2_with fail
                  go_roundw
                  case rel => exact ⟨1, by omega, by go_num, by rw [ST.out, orI0], H6.out⟩
                  case measure => simp [intOf]
        · cases u0
          · have ST := Lib.hid (show f 1 = f 0 by rw [F1.out, show o0 = false by rw [EO.out]; simp]; rfl)
            go_upto_region 6 with fail
            refine wp_region_reach wr.heap.size (by kernel_rfl) (by kernel_rfl) ?_
            repeat (go_big_quiet_step (fail))
            refine wpQuiet_nil ?_
            rintro w' ⟨d, rfl⟩
            have H6 := Lib.hid (HB.out.trans ((reach_below wr.heap.size wr d).mono HB.out.size))
            clear sq sc su sf
            generalize reach wr.heap.size wr d = w6 at *
            go_wp2_with fail
            go_roundw
            case rel => exact ⟨1, by omega, by go_num, by rw [ST.out], H6.out⟩
            case measure => simp [intOf]
          · cases bf
            · have ST := Lib.hid (show f 1 = f 0 by rw [F1.out, show o0 = false by rw [EO.out]; simp]; rfl)
              go_upto_region 6 with fail
              refine wp_region_reach wr.heap.size (by kernel_rfl) (by kernel_rfl) ?_
              repeat (go_big_quiet_step (fail))
              refine wpQuiet_nil ?_
              rintro w' ⟨d, rfl⟩
              have H6 := Lib.hid (HB.out.trans ((reach_below wr.heap.size wr d).mono HB.out.size))
              clear sq sc su sf
              generalize reach wr.heap.size wr d = w6 at *
              go_wp2_with fail
              go_roundw
              case rel => exact ⟨1, by omega, by go_num, by rw [ST.out], H6.out⟩
              case measure => simp [intOf]
            · cases bl
              · have ST := Lib.hid (show f 1 = f 0 by rw [F1.out, show o0 = false by rw [EO.out]; simp]; rfl)
                go_upto_region 6 with fail
                refine wp_region_reach wr.heap.size (by kernel_rfl) (by kernel_rfl) ?_
                repeat (go_big_quiet_step (fail))
                refine wpQuiet_nil ?_
                rintro w' ⟨d, rfl⟩
                have H6 := Lib.hid (HB.out.trans ((reach_below wr.heap.size wr d).mono HB.out.size))
                clear sq sc su sf
                generalize reach wr.heap.size wr d = w6 at *
                go_wp2_with fail
                go_roundw
                case rel => exact ⟨1, by omega, by go_num, by rw [ST.out], H6.out⟩
                case measure => simp [intOf]
              · have ST := Lib.hid (show f 1 = orI (f 0) 0 by rw [F1.out, show o0 = true by rw [EO.out]; simp]; rfl)
                go_upto_region 6 with fail
                refine wp_region_reach wr.heap.size (by kernel_rfl) (by kernel_rfl) ?_
                repeat (go_big_quiet_step (fail))
                refine wpQuiet_nil ?_
                rintro w' ⟨d, rfl⟩
                have H6 := Lib.hid (HB.out.trans ((reach_below wr.heap.size wr d).mono HB.out.size))
                clear sq sc su sf
                generalize reach wr.heap.size wr d = w6 at *
                go_wp2_with fail
                go_roundw
                case rel => exact ⟨1, by omega, by go_num, by rw [ST.out, orI0], H6.out⟩
                case measure => simp [intOf]
      · rw [show ((1 : Nat) : Int) = 1 from rfl]
        have KF := Lib.hid (feedsRV shut 5 wr)
        obtain ⟨s, hs⟩ : ∃ s, fv (BitVec.ofInt 7 shut) 5 = s := ⟨_, rfl⟩
        rw [hs] at KF E1
        clear hs
        go_wp2_with fail
        refine KF.out.mono ?_
        rintro e w5 ⟨rfl, rfl⟩
        have su := fun d => below_cell (reach_below wr.heap.size wr d) (show wr.cell? ⟨w.heap.size + 1, 1, none⟩ = some (.bool u1) from BX.out.c1 1 rfl)
        have sf := fun d => below_cell (reach_below wr.heap.size wr d) (show wr.cell? ⟨w.heap.size + 1 + 1, 1, none⟩ = some (.int .i64 f1) from BX.out.c2 1 rfl)
        have sq := fun d => below_cell (reach_below wr.heap.size wr d) (show wr.cell? ⟨w.heap.size + 1 + 1 + 1, 3, none⟩ = some (.int .i64 h1) from BX.out.c3 3 rfl)
        have sc := fun d => below_cell (reach_below wr.heap.size wr d) (show wr.cell? ⟨w.heap.size, 5, none⟩ = some (.int .i64 c.Cap) from BX.out.c0 5 rfl)
        clear KF BX
        obtain ⟨b0, g0⟩ : ∃ x, (s == 0) = x := ⟨_, rfl⟩
        obtain ⟨b3, g3⟩ : ∃ x, (s == 3) = x := ⟨_, rfl⟩
        obtain ⟨bf, gf⟩ : ∃ x, (bits BinOp.and IntKind.i64 f1 10 == 0) = x := ⟨_, rfl⟩
        obtain ⟨bl, gl⟩ : ∃ x, decide (h1 < c.Cap) = x := ⟨_, rfl⟩
        have EO := Lib.hid (show o1 = ((b0 || b3) && (u1 && bf) && bl) by rw [← E1.out]; unfold okC; rw [g0, g3, gf, gl])
        cases b0
        · cases b3
          · have ST := Lib.hid (show f 2 = f 1 by rw [F2.out, show o1 = false by rw [EO.out]; simp]; rfl)
            go_upto_region 6 with fail
            refine wp_region_reach wr.heap.size (by kernel_rfl) (by kernel_rfl) ?_
            repeat (go_big_quiet_step (fail))
            refine wpQuiet_nil ?_
            rintro w' ⟨d, rfl⟩
            have H6 := Lib.hid (HB.out.trans ((reach_below wr.heap.size wr d).mono HB.out.size))
            clear sq sc su sf
            generalize reach wr.heap.size wr d = w6 at *
            go_wp2_with fail
            go_roundw
            case rel => exact ⟨2, by omega, by go_num, by rw [ST.out], H6.out⟩
            case measure => simp [intOf]
          · cases u1
            · have ST := Lib.hid (show f 2 = f 1 by rw [F2.out, show o1 = false by rw [EO.out]; simp]; rfl)
              go_upto_region 6 with fail
              refine wp_region_reach wr.heap.size (by kernel_rfl) (by kernel_rfl) ?_
              repeat (go_big_quiet_step (fail))
              refine wpQuiet_nil ?_
              rintro w' ⟨d, rfl⟩
              have H6 := Lib.hid (HB.out.trans ((reach_below wr.heap.size wr d).mono HB.out.size))
              clear sq sc su sf
              generalize reach wr.heap.size wr d = w6 at *
              go_wp2_with fail
              go_roundw
              case rel => exact ⟨2, by omega, by go_num, by rw [ST.out], H6.out⟩
              case measure => simp [intOf]
            · cases bf
              · have ST := Lib.hid (show f 2 = f 1 by rw [F2.out, show o1 = false by rw [EO.out]; simp]; rfl)
                go_upto_region 6 with fail
                refine wp_region_reach wr.heap.size (by kernel_rfl) (by kernel_rfl) ?_
                repeat (go_big_quiet_step (fail))
                refine wpQuiet_nil ?_
                rintro w' ⟨d, rfl⟩
                have H6 := Lib.hid (HB.out.trans ((reach_below wr.heap.size wr d).mono HB.out.size))
                clear sq sc su sf
                generalize reach wr.heap.size wr d = w6 at *
                go_wp2_with fail
                go_roundw
                case rel => exact ⟨2, by omega, by go_num, by rw [ST.out], H6.out⟩
                case measure => simp [intOf]
              · cases bl
                · have ST := Lib.hid (show f 2 = f 1 by rw [F2.out, show o1 = false by rw [EO.out]; simp]; rfl)
                  go_upto_region 6 with fail
                  refine wp_region_reach wr.heap.size (by kernel_rfl) (by kernel_rfl) ?_
                  repeat (go_big_quiet_step (fail))
                  refine wpQuiet_nil ?_
                  rintro w' ⟨d, rfl⟩
                  have H6 := Lib.hid (HB.out.trans ((reach_below wr.heap.size wr d).mono HB.out.size))
                  clear sq sc su sf
                  generalize reach wr.heap.size wr d = w6 at *
                  go_wp2_with fail
                  go_roundw
                  case rel => exact ⟨2, by omega, by go_num, by rw [ST.out], H6.out⟩
                  case measure => simp [intOf]
                · have ST := Lib.hid (show f 2 = orI (f 1) 1 by rw [F2.out, show o1 = true by rw [EO.out]; simp]; rfl)
                  go_upto_region 6 with fail
                  refine wp_region_reach wr.heap.size (by kernel_rfl) (by kernel_rfl) ?_
                  repeat (go_big_quiet_step (fail))
                  refine wpQuiet_nil ?_
                  rintro w' ⟨d, rfl⟩
                  have H6 := Lib.hid (HB.out.trans ((reach_below wr.heap.size wr d).mono HB.out.size))
                  clear sq sc su sf
                  generalize reach wr.heap.size wr d = w6 at *
                  go_wp2_with fail
                  go_roundw
                  case rel => exact ⟨2, by omega, by go_num, by rw [ST.out, orI1], H6.out⟩
                  case measure => simp [intOf]
        · cases u1
          · have ST := Lib.hid (show f 2 = f 1 by rw [F2.out, show o1 = false by rw [EO.out]; simp]; rfl)
            go_upto_region 6 with fail
            refine wp_region_reach wr.heap.size (by kernel_rfl) (by kernel_rfl) ?_
            repeat (go_big_quiet_step (fail))
            refine wpQuiet_nil ?_
            rintro w' ⟨d, rfl⟩
            have H6 := Lib.hid (HB.out.trans ((reach_below wr.heap.size wr d).mono HB.out.size))
            clear sq sc su sf
            generalize reach wr.heap.size wr d = w6 at *
            go_wp2_with fail
            go_roundw
            case rel => exact ⟨2, by omega, by go_num, by rw [ST.out], H6.out⟩
            case measure => simp [intOf]
          · cases bf
            · have ST := Lib.hid (show f 2 = f 1 by rw [F2.out, show o1 = false by rw [EO.out]; simp]; rfl)
              go_upto_region 6 with fail
              refine wp_region_reach wr.heap.size (by kernel_rfl) (by kernel_rfl) ?_
              repeat (go_big_quiet_step (fail))
              refine wpQuiet_nil ?_
              rintro w' ⟨d, rfl⟩
              have H6 := Lib.hid (HB.out.trans ((reach_below wr.heap.size wr d).mono HB.out.size))
              clear sq sc su sf
              generalize reach wr.heap.size wr d = w6 at *
              go_wp2_with fail
              go_roundw
              case rel => exact ⟨2, by omega, by go_num, by rw [ST.out], H6.out⟩
              case measure => simp [intOf]
            · cases bl
              · have ST := Lib.hid (show f 2 = f 1 by rw [F2.out, show o1 = false by rw [EO.out]; simp]; rfl)
                go_upto_region 6 with fail
                refine wp_region_reach wr.heap.size (by kernel_rfl) (by kernel_rfl) ?_
                repeat (go_big_quiet_step (fail))
                refine wpQuiet_nil ?_
                rintro w' ⟨d, rfl⟩
                have H6 := Lib.hid (HB.out.trans ((reach_below wr.heap.size wr d).mono HB.out.size))
                clear sq sc su sf
                generalize reach wr.heap.size wr d = w6 at *
                go_wp2_with fail
                go_roundw
                case rel => exact ⟨2, by omega, by go_num, by rw [ST.out], H6.out⟩
                case measure => simp [intOf]
              · have ST := Lib.hid (show f 2 = orI (f 1) 1 by rw [F2.out, show o1 = true by rw [EO.out]; simp]; rfl)
                go_upto_region 6 with fail
                refine wp_region_reach wr.heap.size (by kernel_rfl) (by kernel_rfl) ?_
                repeat (go_big_quiet_step (fail))
                refine wpQuiet_nil ?_
                rintro w' ⟨d, rfl⟩
                have H6 := Lib.hid (HB.out.trans ((reach_below wr.heap.size wr d).mono HB.out.size))
                clear sq sc su sf
                generalize reach wr.heap.size wr d = w6 at *
                go_wp2_with fail
                go_roundw
                case rel => exact ⟨2, by omega, by go_num, by rw [ST.out, orI1], H6.out⟩
                case measure => simp [intOf]
    · obtain rfl : i = 2 := by omega
      go_wp2_with fail
      go_returns
      exact ⟨rfl, BX.out.lo⟩
end Go.Proofs.YtbeemfkndpandaaDoor
