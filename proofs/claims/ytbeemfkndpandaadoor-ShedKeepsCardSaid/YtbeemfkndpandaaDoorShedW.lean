/- shed.Want: which feeders are wanted. Conditions: six feeders at most, loads and sources within the chapter's bounds. -/
import Derived.Test.YtbeemfkndpandaaDoorSortB
import Derived.Test.YtbeemfkndpandaaDoorGraphL
namespace Go.Proofs.YtbeemfkndpandaaDoor
open Go Go.RowKit
set_option linter.unusedVariables false
set_option maxRecDepth 20000
def mostV (c : CG) (s : Nat) : Int := if s = 0 then c.GenMax else if s = 3 then c.ExtMax else c.BatMax
set_option maxHeartbeats 4000000 in
theorem mostC (c : CG) (oc fe : Value) (s : Nat) (hs : s < 4) (w : World) : Calls Tryd.prog 39 #[.agg (cgA c oc fe), .int .i64 s] w fun e w' => e = .returned (.int .i64 (mostV c s)) ∧ Below w.heap.size w w' := by
  go_enter Tryd.func39, Tryd.ntmps39
  go_upto_region 1 with fail
  have B0 := Lib.hid (Bx.new w (cgA c oc fe) 31)
  generalize World.alloc w _ = W at *
  have x21 : W.cell? ⟨w.heap.size, 21, none⟩ = some (.int .i64 c.GenMax) := B0.out.cell 21 rfl
  have x22 : W.cell? ⟨w.heap.size, 22, none⟩ = some (.int .i64 c.BatMax) := B0.out.cell 22 rfl
  have x23 : W.cell? ⟨w.heap.size, 23, none⟩ = some (.int .i64 c.ExtMax) := B0.out.cell 23 rfl
  rcases (show s = 0 ∨ s = 1 ∨ s = 2 ∨ s = 3 by omega) with rfl | rfl | rfl | rfl
  all_goals
    go_wp2_with fail
    go_returns
    exact ⟨rfl, B0.out.lo⟩
def tb (x : Int) (i : Nat) : Bool := bits BinOp.and IntKind.i64 (x / 2 ^ i) 1 == 1
def orI (x : Int) (i : Nat) : Int := bits BinOp.or IntKind.i64 x (wrap64 (2 ^ i))
/-- May source s feed the feeder i? -/
def okW (trips : Int) (few : Bool) (shut : Int) (bu pr : Nat → Int) (s i : Nat) : Bool := !tb trips i && !(few && pr i != 0) && (fv (BitVec.ofInt 7 shut) (bu i) == (s : Int))
def stW (ok : Nat → Bool) (lo : Nat → Int) (st : Int × Int) (i : Nat) : Int × Int := if ok i && decide (lo i ≤ st.1) then (st.1 - lo i, orI st.2 i) else st
def wantN (ok : Nat → Nat → Bool) (lo : Nat → Int) (mo : Nat → Int) (L : List Nat) : Nat → Int
  | 0 => 0
  | s + 1 => (L.foldl (stW (ok s) lo) (mo s, wantN ok lo mo L s)).2
theorem foldl_next {α : Type} (f : α → Nat → α) (z : α) (L : List Nat) (j : Nat) (h : j < L.length) : (L.take (j + 1)).foldl f z = f ((L.take j).foldl f z) (getN L j) := by
  rw [List.take_succ_eq_append_getElem h, List.foldl_append]
  unfold getN
  rw [List.getElem?_eq_getElem h]
  rfl
theorem stW_no {ok : Nat → Bool} {lo : Nat → Int} {st : Int × Int} {i : Nat} (h : ok i = false ∨ ¬ lo i ≤ st.1) : stW ok lo st i = st := by
  unfold stW
  rcases h with h | h
  · rw [h]; rfl
  · rw [decide_eq_false h, Bool.and_false]; rfl
theorem stW_yes {ok : Nat → Bool} {lo : Nat → Int} {st : Int × Int} {i : Nat} (h : ok i = true) (h2 : lo i ≤ st.1) : stW ok lo st i = (st.1 - lo i, orI st.2 i) := by
  unfold stW
  rw [h, decide_eq_true h2]; rfl
set_option maxHeartbeats 16000000 in
theorem wantC (c : CG) (oc : Value) (a : Option Addr) (n cp : Nat) (bu lo pr : Nat → Int) (hn : n ≤ 6) (hlo : ∀ i, i < n → 0 ≤ lo i ∧ lo i ≤ 1073741824) (hm : ∀ s, s < 4 → 0 ≤ mostV c s ∧ mostV c s ≤ 1073741824)
    (shut trips : Int) (few : Bool) (w : World) (h : FedG w a n bu lo pr) (hT : Tab w) :
    Calls Tryd.prog 16 #[.agg (cgA c oc (.slice a n cp)), .int .i64 shut, .int .i64 trips, .bool few] w fun e w' => e = .returned (.int .i64 (wantN (okW trips few shut bu pr) lo (mostV c) (ordL pr n) 4)) ∧ Below w.heap.size w w' := by
  have H := Lib.hid h
  have HT := Lib.hid hT
  have HLO := Lib.hid hlo
  have HM := Lib.hid hm
  obtain ⟨ok, hok⟩ : ∃ ok, okW trips few shut bu pr = ok := ⟨_, rfl⟩
  obtain ⟨L, hL⟩ : ∃ L, ordL pr n = L := ⟨_, rfl⟩
  rw [hok, hL]
  have HOK := Lib.hid hok
  have HL := Lib.hid hL
  clear hok hL
  clear h hT hlo hm
  go_enter Tryd.func16, Tryd.ntmps16
  go_upto_region 1 with fail
  have B0 := Lib.hid (Bx.new w (cgA c oc (.slice a n cp)) 31)
  generalize World.alloc w _ = W at *
  have KP := Lib.hid (byPrioC c oc a n cp bu lo pr hn W (H.out.below B0.out.lo))
  rw [HL.out] at KP
  go_wp2_with (refine wpList_load_row_g (by kernel_rfl) 31 _ rfl w.heap.size rfl 31 _ (0, 0) _ B0.out.row Tryd.underlying31 rfl (by kernel_rfl) ?_)
  refine KP.out.mono ?_
  rintro e w1 ⟨G, rfl, hG, hO, hR, hb⟩
  have RG := Lib.hid hR
  have OG := Lib.hid hO
  have B1 := Lib.hid (B0.out.below hb)
  have hG2 : w.heap.size < G := by have := B0.out.size; omega
  clear hR hO hb KP hG B0
  go_wp2_with fail
  go_loopw [9, 11, 12, 14, 15] (fun v9 v11 v12 v14 v15 wr => ∃ (s : Nat) (feed : Int), s ≤ 4 ∧ v11 = .int .i64 s ∧ v9 = .int .i64 feed ∧ feed = wantN ok lo (mostV c) L s ∧ Below w1.heap.size w1 wr) (fun _ v _ _ _ _ => 4 - (intOf v).toNat)
  case atStart => exact ⟨0, 0, by omega, rfl, rfl, rfl, Below.refl _ _⟩
  case round =>
    obtain ⟨s, feed, hs, rfl, rfl, hfe, hb⟩ := hrel
    have FE := Lib.hid hfe
    clear hfe
    have HB := Lib.hid hb
    have BX := Lib.hid (B1.out.below hb)
    clear hb
    by_cases hl : s < 4
    · have g1 : decide ((s : Int) ≤ 3) = true := decide_eq_true (by omega)
      have KM := Lib.hid fun w => mostC c oc (.slice a n cp) s hl w
      go_wp2_with (refine wpList_load_row_g (by kernel_rfl) 31 _ rfl w.heap.size rfl 31 _ (0, 0) _ BX.out.row Tryd.underlying31 rfl (by kernel_rfl) ?_)
      refine (KM.out _).mono ?_
      rintro e w2 ⟨rfl, hb⟩
      have H2 := Lib.hid (HB.out.trans (hb.mono HB.out.size))
      clear hb KM HB BX
      go_wp2_with fail
      go_loopw [9, 12, 14, 15, 27] (fun v9 v12 v14 v15 v wr => ∃ (j : Nat) (room fd : Int), j ≤ n ∧ v = .int .i64 j ∧ v9 = .int .i64 fd ∧ v12 = .int .i64 room ∧ 0 ≤ room ∧ room ≤ 1073741824 ∧ (L.take j).foldl (stW (ok s) lo) (mostV c s, feed) = (room, fd) ∧ Below w1.heap.size w1 wr) (fun _ _ _ _ v _ => n - (intOf v).toNat)
      case atStart => exact ⟨0, _, _, by omega, rfl, rfl, rfl, (HM.out s hl).1, (HM.out s hl).2, rfl, H2.out⟩
      case round =>
        obtain ⟨j, room, fd, hj, rfl, rfl, rfl, r0, r1, hst, hb⟩ := hrel
        have HB := Lib.hid hb
        have BX := Lib.hid (B1.out.below hb)
        have RX := Lib.hid (RG.out.below hb)
        clear hb
        by_cases hl2 : j < n
        · have cj := RX.out.cell j (by rw [OG.out.len]; exact hl2)
          have bj := OG.out.get j hl2
          have NX := foldl_next (stW (ok s) lo) (mostV c s, feed) L j (by rw [OG.out.len]; exact hl2)
          rw [hst] at NX
          clear hst
          generalize getN L j = i at *
          have NX := Lib.hid NX
          have LB := Lib.hid (HLO.out i bj)
          have i1 : (j : Int) < (n : Int) := by omega
          have i2 : (i : Int) < (n : Int) := by omega
          have x26 : wr.cell? ⟨w.heap.size, 26, none⟩ = some (.slice a n cp) := BX.out.cell 26 rfl
          obtain ⟨p, rfl, c0, c1, c2⟩ := (H.out.below BX.out.lo) i bj
          go_upto_region 11 with fail
          have hal := (Below.refl wr.heap.size wr).alloc (Nat.le_refl _) (.cells #[.int .i64 (bu i), .int .i64 (lo i), .int .i64 (pr i)] 50)
          have F0 := Lib.hid (Bx.new wr #[.int .i64 (bu i), .int .i64 (lo i), .int .i64 (pr i)] 50)
          have HB2 := Lib.hid (HB.out.trans (hal.mono HB.out.size))
          clear hal c0 c1 c2 HB BX RX x26 cj
          generalize World.alloc wr _ = W9 at *
          have z0 : W9.cell? ⟨wr.heap.size, 0, none⟩ = some (.int .i64 (bu i)) := F0.out.cell 0 rfl
          have z1 : W9.cell? ⟨wr.heap.size, 1, none⟩ = some (.int .i64 (lo i)) := F0.out.cell 1 rfl
          have z2 : W9.cell? ⟨wr.heap.size, 2, none⟩ = some (.int .i64 (pr i)) := F0.out.cell 2 rfl
          have KF := Lib.hid (feedsV shut (bu i) W9 (HT.out.below (B1.out.below HB2.out).lo))
          obtain ⟨tv, gt⟩ : ∃ tv, (bits BinOp.and IntKind.i64 (trips / 2 ^ i) 1 == 1) = tv := ⟨_, rfl⟩
          cases tv
          · cases few
            · by_cases q : fv (BitVec.ofInt 7 shut) (bu i) = (s : Int)
              · have gf : (fv (BitVec.ofInt 7 shut) (bu i) != (s : Int)) = false := by rw [q]; simp
                have OKT := Lib.hid (show ok s i = true by rw [← HOK.out]; unfold okW tb; rw [gt, q]; simp)
                clear q
                by_cases ql : lo i ≤ room
                · have gl : decide (lo i ≤ room) = true := decide_eq_true ql
                  have v2 : IntKind.i64.wrap (room - lo i) = room - lo i := IntWalk.i64_in _ (by have := LB.out; omega)
                  have ST := Lib.hid (NX.out.trans (stW_yes OKT.out ql))
                  have LB2 := LB.out
                  go_wp2_with fail
                  refine KF.out.mono ?_
                  rintro e w5 ⟨rfl, hb⟩
                  have z1' := below_cell hb z1
                  have HB5 := Lib.hid (HB2.out.trans (hb.mono HB2.out.size))
                  clear hb
                  go_wp2_with fail
                  go_roundw
                  case rel => exact ⟨j + 1, room - lo i, orI fd i, by omega, by go_num, rfl, rfl, by omega, by omega, ST.out, HB5.out⟩
                  case measure => simp [intOf]; omega
                · have gl : decide (lo i ≤ room) = false := decide_eq_false ql
                  have ST := Lib.hid (NX.out.trans (stW_no (.inr ql)))
                  go_wp2_with fail
                  refine KF.out.mono ?_
                  rintro e w5 ⟨rfl, hb⟩
                  have z1' := below_cell hb z1
                  have HB5 := Lib.hid (HB2.out.trans (hb.mono HB2.out.size))
                  clear hb
                  go_wp2_with fail
                  go_roundw
                  case rel => exact ⟨j + 1, room, fd, by omega, by go_num, rfl, rfl, r0, r1, ST.out, HB5.out⟩
                  case measure => simp [intOf]; omega
              · have gf : (fv (BitVec.ofInt 7 shut) (bu i) != (s : Int)) = true := by simp [q]
                have gq : (fv (BitVec.ofInt 7 shut) (bu i) == (s : Int)) = false := by simp [q]
                have ST := Lib.hid (NX.out.trans (stW_no (.inl (by rw [← HOK.out]; unfold okW; rw [gq, Bool.and_false]))))
                clear q gq
                go_wp2_with fail
                refine KF.out.mono ?_
                rintro e w5 ⟨rfl, hb⟩
                have z1' := below_cell hb z1
                have HB5 := Lib.hid (HB2.out.trans (hb.mono HB2.out.size))
                clear hb
                go_wp2_with fail
                go_roundw
                case rel => exact ⟨j + 1, room, fd, by omega, by go_num, rfl, rfl, r0, r1, ST.out, HB5.out⟩
                case measure => simp [intOf]; omega
            · by_cases qp : pr i = 0
              · have gp : (pr i != 0) = false := by simp [qp]
                by_cases q : fv (BitVec.ofInt 7 shut) (bu i) = (s : Int)
                · have gf : (fv (BitVec.ofInt 7 shut) (bu i) != (s : Int)) = false := by rw [q]; simp
                  have OKT := Lib.hid (show ok s i = true by rw [← HOK.out]; unfold okW tb; rw [gt, q]; simp [gp])
                  clear q
                  by_cases ql : lo i ≤ room
                  · have gl : decide (lo i ≤ room) = true := decide_eq_true ql
                    have v2 : IntKind.i64.wrap (room - lo i) = room - lo i := IntWalk.i64_in _ (by have := LB.out; omega)
                    have ST := Lib.hid (NX.out.trans (stW_yes OKT.out ql))
                    have LB2 := LB.out
                    go_wp2_with fail
                    refine KF.out.mono ?_
                    rintro e w5 ⟨rfl, hb⟩
                    have z1' := below_cell hb z1
                    have HB5 := Lib.hid (HB2.out.trans (hb.mono HB2.out.size))
                    clear hb
                    go_wp2_with fail
                    go_roundw
                    case rel => exact ⟨j + 1, room - lo i, orI fd i, by omega, by go_num, rfl, rfl, by omega, by omega, ST.out, HB5.out⟩
                    case measure => simp [intOf]; omega
                  · have gl : decide (lo i ≤ room) = false := decide_eq_false ql
                    have ST := Lib.hid (NX.out.trans (stW_no (.inr ql)))
                    go_wp2_with fail
                    refine KF.out.mono ?_
                    rintro e w5 ⟨rfl, hb⟩
                    have z1' := below_cell hb z1
                    have HB5 := Lib.hid (HB2.out.trans (hb.mono HB2.out.size))
                    clear hb
                    go_wp2_with fail
                    go_roundw
                    case rel => exact ⟨j + 1, room, fd, by omega, by go_num, rfl, rfl, r0, r1, ST.out, HB5.out⟩
                    case measure => simp [intOf]; omega
                · have gf : (fv (BitVec.ofInt 7 shut) (bu i) != (s : Int)) = true := by simp [q]
                  have gq : (fv (BitVec.ofInt 7 shut) (bu i) == (s : Int)) = false := by simp [q]
                  have ST := Lib.hid (NX.out.trans (stW_no (.inl (by rw [← HOK.out]; unfold okW; rw [gq, Bool.and_false]))))
                  clear q gq
                  go_wp2_with fail
                  refine KF.out.mono ?_
                  rintro e w5 ⟨rfl, hb⟩
                  have z1' := below_cell hb z1
                  have HB5 := Lib.hid (HB2.out.trans (hb.mono HB2.out.size))
                  clear hb
                  go_wp2_with fail
                  go_roundw
                  case rel => exact ⟨j + 1, room, fd, by omega, by go_num, rfl, rfl, r0, r1, ST.out, HB5.out⟩
                  case measure => simp [intOf]; omega
              · have gp : (pr i != 0) = true := by simp [qp]
                have ST := Lib.hid (NX.out.trans (stW_no (.inl (by rw [← HOK.out]; unfold okW; rw [gp]; simp))))
                go_wp2_with fail
                go_roundw
                case rel => exact ⟨j + 1, room, fd, by omega, by go_num, rfl, rfl, r0, r1, ST.out, HB2.out⟩
                case measure => simp [intOf]; omega
          · have ST := Lib.hid (NX.out.trans (stW_no (.inl (by rw [← HOK.out]; unfold okW tb; rw [gt]; rfl))))
            go_wp2_with fail
            go_roundw
            case rel => exact ⟨j + 1, room, fd, by omega, by go_num, rfl, rfl, r0, r1, ST.out, HB2.out⟩
            case measure => simp [intOf]; omega
        · obtain rfl : j = n := by omega
          have FX := Lib.hid (show fd = wantN ok lo (mostV c) L (s + 1) by
            rw [List.take_of_length_le (by rw [OG.out.len]; exact Nat.le_refl _)] at hst
            show fd = (L.foldl (stW (ok s) lo) (mostV c s, wantN ok lo (mostV c) L s)).2
            rw [← FE.out, hst])
          clear hst hj hl2 RX BX
          go_wp2_with fail
          go_roundw
          case rel => exact ⟨s + 1, fd, by omega, by go_num, rfl, FX.out, HB.out⟩
          case measure => simp [intOf]; omega
    · obtain rfl : s = 4 := by omega
      go_wp2_with fail
      go_returns
      exact ⟨by rw [FE.out]; rfl, BX.out.lo⟩
end Go.Proofs.YtbeemfkndpandaaDoor
