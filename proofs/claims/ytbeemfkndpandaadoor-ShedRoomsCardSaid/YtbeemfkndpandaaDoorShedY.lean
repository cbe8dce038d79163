/- The document's Want: the same feeders as by the order of the ranks. Conditions: six feeders at most. -/
import Derived.Test.YtbeemfkndpandaaDoorShedF
namespace Go.Proofs.YtbeemfkndpandaaDoor
open Go Go.RowKit
set_option linter.unusedVariables false
set_option maxRecDepth 20000
set_option maxHeartbeats 4000000 in
theorem budgetC (c : CG) (oc fe : Value) (s : Nat) (hs : s < 4) (w : World) : Calls Tryd.prog 40 #[.agg (cgA c oc fe), .int .i64 s] w fun e w' => e = .returned (.int .i64 (mostV c s)) ∧ Below w.heap.size w w' := by
  go_enter Tryd.func40, Tryd.ntmps40
  go_upto_region 1 with fail
  have B0 := Lib.hid (Bx.new w (cgA c oc fe) 31)
  generalize World.alloc w _ = W at *
  have x21 : W.cell? ⟨w.heap.size, 21, none⟩ = some (.int .i64 c.GenMax) := B0.out.cell 21 rfl
  have x22 : W.cell? ⟨w.heap.size, 22, none⟩ = some (.int .i64 c.BatMax) := B0.out.cell 22 rfl
  have x23 : W.cell? ⟨w.heap.size, 23, none⟩ = some (.int .i64 c.ExtMax) := B0.out.cell 23 rfl
  rcases (show s = 0 ∨ s = 1 ∨ s = 2 ∨ s = 3 by omega) with rfl | rfl | rfl | rfl
  all_goals
    go_wp2_with fail
    go_returns
    exact ⟨rfl, B0.out.lo⟩

/-- One round over the feeders of rank p. -/
def rSt (ok : Nat → Bool) (lo pr : Nat → Int) (p : Nat) (st : Int × Int) (i : Nat) : Int × Int := if pr i = (p : Int) then stW ok lo st i else st
theorem rSt_yes {ok : Nat → Bool} {lo pr : Nat → Int} {p : Nat} {st : Int × Int} {i : Nat} (h : pr i = (p : Int)) : rSt ok lo pr p st i = stW ok lo st i := if_pos h
theorem rSt_no {ok : Nat → Bool} {lo pr : Nat → Int} {p : Nat} {st : Int × Int} {i : Nat} (h : ¬ pr i = (p : Int)) : rSt ok lo pr p st i = st := if_neg h
def rAll (ok : Nat → Bool) (lo pr : Nat → Int) (n : Nat) (st : Int × Int) : Nat → Int × Int
  | 0 => st
  | p + 1 => (List.range n).foldl (rSt ok lo pr p) (rAll ok lo pr n st p)
def refN (ok : Nat → Nat → Bool) (lo pr : Nat → Int) (mo : Nat → Int) (n : Nat) : Nat → Int
  | 0 => 0
  | s + 1 => (rAll (ok s) lo pr n (mo s, refN ok lo pr mo n s) 101).2
def flatL (pr : Nat → Int) (n : Nat) : Nat → List Nat
  | 0 => []
  | p + 1 => flatL pr n p ++ (List.range n).filter (fun i => decide (pr i = (p : Int)))
theorem foldl_if (ok : Nat → Bool) (lo pr : Nat → Int) (p : Nat) (l : List Nat) : ∀ st, l.foldl (rSt ok lo pr p) st = (l.filter (fun i => decide (pr i = (p : Int)))).foldl (stW ok lo) st := by
  induction l with
  | nil => intro st; rfl
  | cons x l ih =>
    intro st
    by_cases h : pr x = (p : Int)
    · rw [List.filter_cons_of_pos (by simp [h])]
      show l.foldl _ (rSt ok lo pr p st x) = (List.filter _ l).foldl _ (stW ok lo st x)
      rw [ih]
      unfold rSt
      rw [if_pos h]
    · rw [List.filter_cons_of_neg (by simp [h])]
      show l.foldl _ (rSt ok lo pr p st x) = _
      rw [ih]
      unfold rSt
      rw [if_neg h]
theorem rAll_flat (ok : Nat → Bool) (lo pr : Nat → Int) (n : Nat) (st : Int × Int) (p : Nat) : rAll ok lo pr n st p = (flatL pr n p).foldl (stW ok lo) st := by
  induction p with
  | zero => rfl
  | succ p ih =>
    show (List.range n).foldl (rSt ok lo pr p) (rAll ok lo pr n st p) = (flatL pr n p ++ _).foldl _ st
    rw [foldl_if, ih, List.foldl_append]
def prR (r : Int) (i : Nat) : Int := (r + (i : Int) * i) % 4
theorem prioR (k : Int) : prioI k = prR (k / 120 % 4) := by
  funext i
  unfold prioI prR
  generalize (i : Int) * i = s
  omega
theorem flat_ord (r : Int) (h0 : 0 ≤ r) (h3 : r < 4) (n : Nat) (hn : n ≤ 6) : flatL (prR r) n 101 = ordL (prR r) n := by
  rcases (show r = 0 ∨ r = 1 ∨ r = 2 ∨ r = 3 by omega) with rfl | rfl | rfl | rfl
  all_goals
    rcases (show n = 0 ∨ n = 1 ∨ n = 2 ∨ n = 3 ∨ n = 4 ∨ n = 5 ∨ n = 6 by omega) with rfl | rfl | rfl | rfl | rfl | rfl | rfl <;> decide +kernel
theorem ref_want (ok : Nat → Nat → Bool) (lo : Nat → Int) (mo : Nat → Int) (k : Int) (n : Nat) (hn : n ≤ 6) (s : Nat) : refN ok lo (prioI k) mo n s = wantN ok lo mo (ordL (prioI k) n) s := by
  induction s with
  | zero => rfl
  | succ s ih =>
    show (rAll (ok s) lo (prioI k) n (mo s, refN ok lo (prioI k) mo n s) 101).2 = ((ordL (prioI k) n).foldl (stW (ok s) lo) (mo s, wantN ok lo mo (ordL (prioI k) n) s)).2
    rw [rAll_flat, ih, prioR, flat_ord _ (by omega) (by omega) n hn]
theorem range_get (n j : Nat) (h : j < n) : getN (List.range n) j = j := by
  unfold getN
  rw [List.getElem?_eq_getElem (by simpa using h)]
  simp
set_option maxHeartbeats 16000000 in
theorem refWantC (c : CG) (oc : Value) (a : Option Addr) (n cp : Nat) (bu lo pr : Nat → Int) (hn : n ≤ 6) (hlo : ∀ i, i < n → 0 ≤ lo i ∧ lo i ≤ 1073741824) (hm : ∀ s, s < 4 → 0 ≤ mostV c s ∧ mostV c s ≤ 1073741824)
    (shut trips : Int) (few : Bool) (w : World) (h : FedG w a n bu lo pr) :
    Calls Tryd.prog 17 #[.agg (cgA c oc (.slice a n cp)), .int .i64 shut, .int .i64 trips, .bool few] w fun e w' => e = .returned (.int .i64 (refN (okW trips few shut bu pr) lo pr (mostV c) n 4)) ∧ Below w.heap.size w w' := by
  have H := Lib.hid h
  have HLO := Lib.hid hlo
  have HM := Lib.hid hm
  obtain ⟨ok, hok⟩ : ∃ ok, okW trips few shut bu pr = ok := ⟨_, rfl⟩
  rw [hok]
  have HOK := Lib.hid hok
  clear h hlo hm hok
  go_enter Tryd.func17, Tryd.ntmps17
  go_upto_region 1 with fail
  have B0 := Lib.hid (Bx.new w (cgA c oc (.slice a n cp)) 31)
  generalize World.alloc w _ = W at *
  go_wp2_with fail
  go_loopw [9, 10, 11, 12, 13, 14] (fun v9 v10 v11 v12 v13 v14 wr => ∃ (s : Nat) (feed : Int), s ≤ 4 ∧ v10 = .int .i64 s ∧ v9 = .int .i64 feed ∧ feed = refN ok lo pr (mostV c) n s ∧ Below W.heap.size W wr) (fun _ v _ _ _ _ _ => 4 - (intOf v).toNat)
  case atStart => exact ⟨0, 0, by omega, rfl, rfl, rfl, Below.refl _ _⟩
  case round =>
    obtain ⟨s, feed, hs, rfl, rfl, hfe, hb⟩ := hrel
    have FE := Lib.hid hfe
    have HB := Lib.hid hb
    have BX := Lib.hid (B0.out.below hb)
    clear hfe hb
    by_cases hl : s < 4
    · have g1 : decide ((s : Int) < 4) = true := decide_eq_true (by omega)
      have KM := Lib.hid fun w => budgetC c oc (.slice a n cp) s hl w
      go_wp2_with (refine wpList_load_row_g (by kernel_rfl) 31 _ rfl w.heap.size rfl 31 _ (0, 0) _ BX.out.row Tryd.underlying31 rfl (by kernel_rfl) ?_)
      refine (KM.out _).mono ?_
      rintro e w2 ⟨rfl, hb⟩
      have H2 := Lib.hid (HB.out.trans (hb.mono HB.out.size))
      clear hb KM HB BX
      go_wp2_with fail
      go_loopw [9, 11, 12, 13, 14] (fun v9 v11 v12 v13 v14 wr => ∃ (p : Nat) (room fd : Int), p ≤ 101 ∧ v12 = .int .i64 p ∧ v9 = .int .i64 fd ∧ v11 = .int .i64 room ∧ 0 ≤ room ∧ room ≤ 1073741824 ∧ rAll (ok s) lo pr n (mostV c s, feed) p = (room, fd) ∧ Below W.heap.size W wr) (fun _ _ v _ _ _ => 101 - (intOf v).toNat)
      case atStart => exact ⟨0, _, _, by omega, rfl, rfl, rfl, (HM.out s hl).1, (HM.out s hl).2, rfl, H2.out⟩
      case round =>
        obtain ⟨p, room, fd, hp, rfl, rfl, rfl, r0, r1, hst, hb⟩ := hrel
        have PS := Lib.hid hst
        have HB := Lib.hid hb
        clear hst hb
        by_cases hlp : p < 101
        · have gp : decide ((p : Int) ≤ 100) = true := decide_eq_true (by omega)
          go_wp2_with fail
          go_loopw [9, 11, 13, 14] (fun v9 v11 v13 v14 wr => ∃ (j : Nat) (room2 fd2 : Int), j ≤ n ∧ v13 = .int .i64 j ∧ v9 = .int .i64 fd2 ∧ v11 = .int .i64 room2 ∧ 0 ≤ room2 ∧ room2 ≤ 1073741824 ∧ ((List.range n).take j).foldl (rSt (ok s) lo pr p) (room, fd) = (room2, fd2) ∧ Below W.heap.size W wr) (fun _ _ v _ _ => n - (intOf v).toNat)
          case atStart => exact ⟨0, room, fd, by omega, rfl, rfl, rfl, r0, r1, rfl, HB.out⟩
          case round =>
            obtain ⟨i, rm, fd2, hi, rfl, rfl, rfl, m0, m1, hst, hb⟩ := hrel
            have HC := Lib.hid hb
            have BX := Lib.hid (B0.out.below hb)
            clear hb HB
            have x26 : wr.cell? ⟨w.heap.size, 26, none⟩ = some (.slice a n cp) := BX.out.cell 26 rfl
            by_cases hl2 : i < n
            · have i1 : (i : Int) < (n : Int) := by omega
              have NX := foldl_next (rSt (ok s) lo pr p) (room, fd) (List.range n) i (by simpa using hl2)
              rw [hst, range_get n i hl2] at NX
              have NX := Lib.hid NX
              have LB := Lib.hid (HLO.out i hl2)
              clear hst
              obtain ⟨q, rfl, c0, c1, c2⟩ := (H.out.below BX.out.lo) i hl2
              go_upto_region 13 with fail
              have hal := (Below.refl wr.heap.size wr).alloc (Nat.le_refl _) (.cells #[.int .i64 (bu i), .int .i64 (lo i), .int .i64 (pr i)] 50)
              have F0 := Lib.hid (Bx.new wr #[.int .i64 (bu i), .int .i64 (lo i), .int .i64 (pr i)] 50)
              have HB2 := Lib.hid (HC.out.trans (hal.mono HC.out.size))
              clear hal c0 c1 c2 HC BX x26
              generalize World.alloc wr _ = W9 at *
              have z0 : W9.cell? ⟨wr.heap.size, 0, none⟩ = some (.int .i64 (bu i)) := F0.out.cell 0 rfl
              have z1 : W9.cell? ⟨wr.heap.size, 1, none⟩ = some (.int .i64 (lo i)) := F0.out.cell 1 rfl
              have z2 : W9.cell? ⟨wr.heap.size, 2, none⟩ = some (.int .i64 (pr i)) := F0.out.cell 2 rfl
              have KF := Lib.hid (feedsRV shut (bu i) W9)
              obtain ⟨tv, gt⟩ : ∃ tv, (bits BinOp.and IntKind.i64 (trips / 2 ^ i) 1 == 1) = tv := ⟨_, rfl⟩
              by_cases qp : pr i = (p : Int)
              · have gp1 : (pr i != (p : Int)) = false := by simp [qp]
                cases tv
                · cases few
                  · by_cases qf : fv (BitVec.ofInt 7 shut) (bu i) = (s : Int)
                    · have gf : (fv (BitVec.ofInt 7 shut) (bu i) != (s : Int)) = false := by rw [qf]; simp
                      have OKT := Lib.hid (show ok s i = true by rw [← HOK.out]; unfold okW tb; rw [gt, qf]; simp)
                      clear qf
                      by_cases ql : lo i ≤ rm
                      · have gl : decide (rm < lo i) = false := decide_eq_false (by omega)
                        have v2 : IntKind.i64.wrap (rm - lo i) = rm - lo i := IntWalk.i64_in _ (by have := LB.out; omega)
                        have ST := Lib.hid (NX.out.trans ((rSt_yes qp).trans (stW_yes OKT.out ql)))
                        have LB2 := LB.out
                        go_wp2_with fail
                        refine KF.out.mono ?_
                        rintro e w5 ⟨rfl, rfl⟩
                        go_wp2_with fail
                        go_roundw
                        case rel => exact ⟨i + 1, rm - lo i, orI fd2 i, by omega, by go_num, rfl, rfl, by omega, by omega, ST.out, HB2.out⟩
                        case measure => simp [intOf]; omega
                      · have gl : decide (rm < lo i) = true := decide_eq_true (by omega)
                        have ST := Lib.hid (NX.out.trans ((rSt_yes qp).trans (stW_no (.inr ql))))
                        go_wp2_with fail
                        refine KF.out.mono ?_
                        rintro e w5 ⟨rfl, rfl⟩
                        go_wp2_with fail
                        go_roundw
                        case rel => exact ⟨i + 1, rm, fd2, by omega, by go_num, rfl, rfl, m0, m1, ST.out, HB2.out⟩
                        case measure => simp [intOf]; omega
                    · have gf : (fv (BitVec.ofInt 7 shut) (bu i) != (s : Int)) = true := by simp [qf]
                      have gq : (fv (BitVec.ofInt 7 shut) (bu i) == (s : Int)) = false := by simp [qf]
                      have ST := Lib.hid (NX.out.trans ((rSt_yes qp).trans (stW_no (.inl (by rw [← HOK.out]; unfold okW; rw [gq, Bool.and_false])))))
                      clear qf gq
                      go_wp2_with fail
                      refine KF.out.mono ?_
                      rintro e w5 ⟨rfl, rfl⟩
                      go_wp2_with fail
                      go_roundw
                      case rel => exact ⟨i + 1, rm, fd2, by omega, by go_num, rfl, rfl, m0, m1, ST.out, HB2.out⟩
                      case measure => simp [intOf]; omega
                  · by_cases q0 : p = 0
                    · have g0 : ((p : Int) != 0) = false := by simp [q0]
                      have g00 : (pr i != 0) = false := by rw [qp]; exact g0
                      clear q0
                      by_cases qf : fv (BitVec.ofInt 7 shut) (bu i) = (s : Int)
                      · have gf : (fv (BitVec.ofInt 7 shut) (bu i) != (s : Int)) = false := by rw [qf]; simp
                        have OKT := Lib.hid (show ok s i = true by rw [← HOK.out]; unfold okW tb; rw [gt, qf]; simp [g00])
                        clear qf
                        by_cases ql : lo i ≤ rm
                        · have gl : decide (rm < lo i) = false := decide_eq_false (by omega)
                          have v2 : IntKind.i64.wrap (rm - lo i) = rm - lo i := IntWalk.i64_in _ (by have := LB.out; omega)
                          have ST := Lib.hid (NX.out.trans ((rSt_yes qp).trans (stW_yes OKT.out ql)))
                          have LB2 := LB.out
                          go_wp2_with fail
                          refine KF.out.mono ?_
                          rintro e w5 ⟨rfl, rfl⟩
                          go_wp2_with fail
                          go_roundw
                          case rel => exact ⟨i + 1, rm - lo i, orI fd2 i, by omega, by go_num, rfl, rfl, by omega, by omega, ST.out, HB2.out⟩
                          case measure => simp [intOf]; omega
                        · have gl : decide (rm < lo i) = true := decide_eq_true (by omega)
                          have ST := Lib.hid (NX.out.trans ((rSt_yes qp).trans (stW_no (.inr ql))))
                          go_wp2_with fail
                          refine KF.out.mono ?_
                          rintro e w5 ⟨rfl, rfl⟩
                          go_wp2_with fail
                          go_roundw
                          case rel => exact ⟨i + 1, rm, fd2, by omega, by go_num, rfl, rfl, m0, m1, ST.out, HB2.out⟩
                          case measure => simp [intOf]; omega
                      · have gf : (fv (BitVec.ofInt 7 shut) (bu i) != (s : Int)) = true := by simp [qf]
                        have gq : (fv (BitVec.ofInt 7 shut) (bu i) == (s : Int)) = false := by simp [qf]
                        have ST := Lib.hid (NX.out.trans ((rSt_yes qp).trans (stW_no (.inl (by rw [← HOK.out]; unfold okW; rw [gq, Bool.and_false])))))
                        clear qf gq
                        go_wp2_with fail
                        refine KF.out.mono ?_
                        rintro e w5 ⟨rfl, rfl⟩
                        go_wp2_with fail
                        go_roundw
                        case rel => exact ⟨i + 1, rm, fd2, by omega, by go_num, rfl, rfl, m0, m1, ST.out, HB2.out⟩
                        case measure => simp [intOf]; omega
                    · have g0 : ((p : Int) != 0) = true := by simp [q0]
                      have g00 : (pr i != 0) = true := by rw [qp]; exact g0
                      clear q0
                      have ST := Lib.hid (NX.out.trans ((rSt_yes qp).trans (stW_no (.inl (by rw [← HOK.out]; unfold okW; rw [g00]; simp)))))
                      go_wp2_with fail
                      go_roundw
                      case rel => exact ⟨i + 1, rm, fd2, by omega, by go_num, rfl, rfl, m0, m1, ST.out, HB2.out⟩
                      case measure => simp [intOf]; omega
                · have ST := Lib.hid (NX.out.trans ((rSt_yes qp).trans (stW_no (.inl (by rw [← HOK.out]; unfold okW tb; rw [gt]; rfl)))))
                  go_wp2_with fail
                  go_roundw
                  case rel => exact ⟨i + 1, rm, fd2, by omega, by go_num, rfl, rfl, m0, m1, ST.out, HB2.out⟩
                  case measure => simp [intOf]; omega
              · have gp1 : (pr i != (p : Int)) = true := by simp [qp]
                have ST := Lib.hid (NX.out.trans (rSt_no qp))
                go_wp2_with fail
                go_roundw
                case rel => exact ⟨i + 1, rm, fd2, by omega, by go_num, rfl, rfl, m0, m1, ST.out, HB2.out⟩
                case measure => simp [intOf]; omega
            · obtain rfl : i = n := by omega
              have RS := Lib.hid (show rAll (ok s) lo pr i (mostV c s, feed) (p + 1) = (rm, fd2) by
                show (List.range i).foldl (rSt (ok s) lo pr p) (rAll (ok s) lo pr i (mostV c s, feed) p) = _
                rw [PS.out, ← hst, List.take_of_length_le (by simp)])
              clear hst
              go_wp2_with fail
              go_roundw
              case rel => exact ⟨p + 1, rm, fd2, by omega, by go_num, rfl, rfl, m0, m1, RS.out, HC.out⟩
              case measure => simp [intOf]; omega
        · obtain rfl : p = 101 := by omega
          have FX := Lib.hid (show fd = refN ok lo pr (mostV c) n (s + 1) by
            show fd = (rAll (ok s) lo pr n (mostV c s, refN ok lo pr (mostV c) n s) 101).2
            rw [← FE.out, PS.out])
          clear hlp hp
          go_wp2_with fail
          go_roundw
          case rel => exact ⟨s + 1, fd, by omega, by go_num, rfl, FX.out, HB.out⟩
          case measure => simp [intOf]; omega
    · obtain rfl : s = 4 := by omega
      go_wp2_with fail
      go_returns
      exact ⟨by rw [FE.out]; rfl, BX.out.lo⟩
end Go.Proofs.YtbeemfkndpandaaDoor
