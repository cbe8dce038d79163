/- What is wanted keeps each source's most, and what is not wanted has no room. Conditions: the table of ends lies as the text lays it. -/
import Derived.Test.YtbeemfkndpandaaDoorRoomL
namespace Go.Proofs.YtbeemfkndpandaaDoor
open Go Go.RowKit
set_option linter.unusedVariables false
set_option maxRecDepth 20000
theorem uqW (tr : Int) (few : Bool) (shut : Int) (bu pr : Nat → Int) : ∀ t s x, okW tr few shut bu pr t x = true → okW tr few shut bu pr s x = true → t = s := by
  intro t s x h1 h2
  unfold okW at h1 h2
  simp only [Bool.and_eq_true, beq_iff_eq] at h1 h2
  have := h1.2.symm.trans h2.2
  omega
theorem fdsF_leW (j : BitVec 7) (k : Nat) : fdsF j k < k ∨ fdsF j k = -1 := by
  induction k with
  | zero => exact .inr rfl
  | succ k ih =>
    have e : fdsF j (k + 1) = if fdsF j k = -1 then (if j = bitOf k then (k : Int) else -1) else fdsF j k := rfl
    rw [e]
    by_cases h : fdsF j k = -1
    · rw [if_pos h]
      by_cases h2 : j = bitOf k
      · rw [if_pos h2]; left; omega
      · rw [if_neg h2]; right; rfl
    · rw [if_neg h]
      rcases ih with h1 | h1
      · left; omega
      · exact absurd h1 h
theorem fv_leW (m : BitVec 7) (b : Int) : fv m b ≤ 3 := by
  unfold fv
  split
  · unfold fds
    split
    · omega
    · rcases fdsF_leW (rch m b.toNat &&& srcs) 4 with h | h <;> omega
  · omega
theorem dear_room {tr : Int} {few : Bool} {sh : Int} {bu pr lo : Nat → Int} {mo : Int} {L : List Nat} {n : Nat} {S : Nat → Bool} {i s : Nat} (hP : L.Perm (List.range n))
    (hS : ∃ A B, L = A ++ i :: B ∧ (∀ x ∈ A, dearB pr i x = true) ∧ (∀ x ∈ i :: B, dearB pr i x = false))
    (hR : ∀ A f B, L = A ++ f :: B → okW tr few sh bu pr s f = true → S f = false → mo - sumQ (fun x => okW tr few sh bu pr s x && S x) lo A < lo f)
    (hW : ∀ j, S j = true → ∃ t, okW tr few sh bu pr t j = true) (hok : okW tr few sh bu pr s i = true) (hi : S i = false) :
    mo < loadN (fun j => S j && (fv (BitVec.ofInt 7 sh) (bu j) == (s : Int)) && dearB pr i j) lo n + lo i := by
  obtain ⟨A, B, e, hA, hB⟩ := hS
  have h1 := hR A i B e hok hi
  rw [← sumQ_range n, ← sumQ_perm hP, e, sumQ_append, sumQ_none (i :: B) (fun x hx => by rw [hB x hx]; simp),
    sumQ_congr (q' := fun x => okW tr few sh bu pr s x && S x) A fun x hx => ?_]
  · omega
  · rw [hA x hx]
    cases eS : S x with
    | false => simp
    | true =>
      obtain ⟨t, ht⟩ := hW x eS
      unfold okW at ht ⊢
      simp only [Bool.and_eq_true] at ht
      rw [ht.1.1, ht.1.2]
      simp
theorem dearB_val (pr : Nat → Int) (i k : Nat) : dearB pr i k = (decide (pr k < pr i) || (pr k == pr i && decide ((k : Int) < (i : Int)))) := by
  unfold dearB
  by_cases h : pr k = pr i
  · simp [h]
  · simp [h]
set_option maxHeartbeats 16000000 in
theorem walkShedRooms (a0 : Int) (a1 : Int) (a2 : Int) (a3 : Int) (a4 : Int) (a5 : Bool) (w : World) (w0 : (Lit.int .i64 a0).wf = true) (w1 : (Lit.int .i64 a1).wf = true) (w2 : (Lit.int .i64 a2).wf = true) (w3 : (Lit.int .i64 a3).wf = true) (w4 : (Lit.int .i64 a4).wf = true) (hT : Tab w) :
    Calls Tryd.prog 5 #[.int .i64 a0, .int .i64 a1, .int .i64 a2, .int .i64 a3, .int .i64 a4, .bool a5] w fun e w' => e = .returned (.bool true) ∧ Below w.heap.size w w' := by
  have HT := Lib.hid hT
  clear w0 w1 w2 w3 w4 hT
  go_enter Tryd.func5, Tryd.ntmps5
  go_wp2_with fail
  refine (first25 w HT.out).mono ?_
  rintro e wa ⟨rfl, hba⟩
  have HA := Lib.hid hba
  clear hba
  go_wp2_with fail
  refine (configF a0 a1 a2 wa).mono ?_
  rintro e w4 ⟨O, fa, fc, rfl, hO, ho, hf, hb⟩
  have L4 := Lib.hid (HA.out.trans (hb.mono HA.out.size))
  have hn : (a1 % 1048576 / 20 % 7).toNat ≤ 6 := by omega
  have F4 := Lib.hid hf.g
  have LB := Lib.hid (loB (a2 % 1048576) (by omega) (a1 % 1048576 / 20 % 7).toNat)
  have MB := Lib.hid (mostCB2 (c := cfgOf (a0 % 1048576) (a1 % 1048576) (a2 % 1048576)))
  unfold cfgV
  rw [cgA_of]
  clear hb ho hf hO
  generalize (a1 % 1048576 / 20 % 7).toNat = n at *
  have OP := Lib.hid (ord_parts (a2 % 1048576) n hn)
  have OPM := Lib.hid (ord_perm (a2 % 1048576) n hn)
  have OSP := Lib.hid (ord_split (a2 % 1048576) n hn)
  have OL := Lib.hid (ord_lt (a2 % 1048576) n hn)
  generalize (cfgOf (a0 % 1048576) (a1 % 1048576) (a2 % 1048576)).cg = c at *
  generalize busI (a2 % 1048576) = bu at *
  generalize loadI (a2 % 1048576) = lo at *
  generalize prioI (a2 % 1048576) = pr at *
  go_wp2_with fail
  refine upon_fresh (by simp) rfl (by kernel_rfl) ?_
  intro W1 b1 s1 h1
  have R8 := Lib.hid (show Rw W1 w4.heap.size c (.slice (some ⟨O, 0, none⟩) 4 4) (.slice fa n fc) from h1)
  have L1 := Lib.hid (L4.out.trans (b1.mono L4.out.size))
  have F1 := Lib.hid (F4.out.below b1)
  have hlt := Lib.hid (show w4.heap.size < W1.heap.size by omega)
  clear h1 b1 s1 F4 L4
  go_wp2_with fail
  refine (numbC a3 128 (by omega) (by omega) W1).mono ?_
  rintro e w' ⟨rfl, rfl⟩
  generalize a3 % 128 = sh at *
  have B8 := Lib.hid (Below.refl W1.heap.size W1)
  have RW := Lib.hid fun (u : World) (hu : Below W1.heap.size W1 u) => R8.out.below hu hlt.out
  have LO := Lib.hid fun (u : World) (hu : Below W1.heap.size W1 u) => L1.out.trans (hu.mono L1.out.size)
  have KW := Lib.hid (show ∀ (shut trips : Int) (few : Bool) (u : World), Below W1.heap.size W1 u → Calls Tryd.prog 16 #[.agg (cgA c (.slice (some ⟨O, 0, none⟩) 4 4) (.slice fa n fc)), .int .i64 shut, .int .i64 trips, .bool few] u fun e w' => e = .returned (.int .i64 (onBV (wantS (okW trips few shut bu pr) lo (mostV c) (ordL pr n) 4) n)) ∧ Below u.heap.size u w' by
    intro shut trips few u hu
    rw [← want_set _ lo (mostV c) (ordL pr n) n hn OL.out 4]
    exact wantC c (.slice (some ⟨O, 0, none⟩) 4 4) fa n fc bu lo pr hn LB.out MB.out shut trips few u (F1.out.below hu) (HT.out.below (L1.out.trans (hu.mono L1.out.size))))
  have RM := Lib.hid fun s (hs : s < 4) => want_room (okW a4 a5 sh bu pr) lo (mostV c) (ordL pr n) (OPM.out.nodup_iff.2 List.nodup_range) (uqW a4 a5 sh bu pr) s hs (MB.out s hs).1
  have WT := Lib.hid fun i (hi : i < n) => tb_set (wantS (okW a4 a5 sh bu pr) lo (mostV c) (ordL pr n) 4) n i hn hi
  have WO := Lib.hid fun j (h : wantS (okW a4 a5 sh bu pr) lo (mostV c) (ordL pr n) 4 j = true) => want_ok _ _ _ _ _ _ h
  have WE := Lib.hid (onBV_lt (wantS (okW a4 a5 sh bu pr) lo (mostV c) (ordL pr n) 4) n hn)
  have KA := Lib.hid (KW.out sh a4 a5)
  generalize wantS (okW a4 a5 sh bu pr) lo (mostV c) (ordL pr n) 4 = S at *
  generalize onBV S n = v at *
  clear KW OL
  go_wp2_with (refine wpList_load_row_g (by kernel_rfl) 31 _ rfl w4.heap.size rfl 31 _ (0, 0) _ R8.out Tryd.underlying31 rfl (by kernel_rfl) ?_)
  refine (KA.out _ B8.out).mono ?_
  rintro e u1 ⟨rfl, hb⟩
  have B1 := Lib.hid (B8.out.trans (hb.mono B8.out.size))
  have Ru1 := Lib.hid (RW.out u1 B1.out)
  clear hb
  have c21 : u1.cell? ⟨w4.heap.size, 21, none⟩ = some (.int .i64 c.GenMax) := Ru1.out.cell 21 rfl
  have c22 : u1.cell? ⟨w4.heap.size, 22, none⟩ = some (.int .i64 c.BatMax) := Ru1.out.cell 22 rfl
  have c23 : u1.cell? ⟨w4.heap.size, 23, none⟩ = some (.int .i64 c.ExtMax) := Ru1.out.cell 23 rfl
  go_wp2_with fail
  have LE := Lib.hid fun (s : Nat) (hs : s < 4) => (show loadN (okF v sh bu s) lo n ≤ mostV c s by
    rw [← sumQ_range n, ← sumQ_perm OPM.out, sumQ_congr (q' := fun x => okW a4 a5 sh bu pr s x && S x) _ fun x hx => ?_]
    · exact (RM.out s hs).1
    · have hx' : x < n := by simpa using OPM.out.mem_iff.1 hx
      unfold okF
      rw [WT.out x hx']
      cases e : S x with
      | false => simp
      | true =>
        obtain ⟨t, ht⟩ := WO.out x e
        unfold okW at ht ⊢
        simp only [Bool.and_eq_true] at ht
        rw [ht.1.1, ht.1.2]
        simp)
  have KL := Lib.hid fun (s : Nat) (hs : s < 4) (u : World) (hu : Below W1.heap.size W1 u) => loadC c (.slice (some ⟨O, 0, none⟩) 4 4) fa n fc bu lo pr hn LB.out v sh s hs u (F1.out.below hu) (HT.out.below (L1.out.trans (hu.mono L1.out.size)))
  have BR := Lib.hid (Bx.new u1 #[.int .i64 c.GenMax, .int .i64 c.BatMax, .int .i64 c.BatMax, .int .i64 c.ExtMax] 2)
  have B2 := Lib.hid (B1.out.trans (((Below.refl u1.heap.size u1).alloc (Nat.le_refl _) (.cells #[.int .i64 c.GenMax, .int .i64 c.BatMax, .int .i64 c.BatMax, .int .i64 c.ExtMax] 2)).mono B1.out.size))
  generalize World.alloc u1 _ = W2 at *
  clear c21 c22 c23
  go_loopw [17] (fun v wr => ∃ s : Nat, s ≤ 4 ∧ v = .int .i64 s ∧ Below W2.heap.size W2 wr) (fun v _ => 4 - (intOf v).toNat)
  case atStart => exact ⟨0, by omega, rfl, Below.refl _ _⟩
  case round =>
    obtain ⟨s, hs, rfl, hb⟩ := hrel
    by_cases hl : s < 4
    · go_upto_region 11 with fail
      have HB := Lib.hid (B2.out.trans (hb.mono B2.out.size))
      have HG := Lib.hid fun (w' : World) (hw : ∃ d, w' = reach wr.heap.size wr d) => (show w'.heap[w4.heap.size]? = some (.cells (cgA c (.slice (some ⟨O, 0, none⟩) 4 4) (.slice fa n fc)) 31 (0, 0)) by obtain ⟨d, rfl⟩ := hw; exact RW.out _ (HB.out.trans ((reach_below _ _ d).mono HB.out.size)))
      have KR := Lib.hid fun (d : World) => KL.out s hl (reach wr.heap.size wr d) (HB.out.trans ((reach_below _ _ d).mono HB.out.size))
      have hB := Nat.le_refl wr.heap.size
      have gl := LE.out s hl
      generalize loadN (okF v sh bu s) lo n = x at *
      have g2 : decide (mostV c s < x) = false := decide_eq_false (by omega)
      have i0 : (0 : Int) ≤ (s : Int) := by omega
      have i1 : (s : Int) < 4 := by omega
      have x0 : wr.cell? ⟨u1.heap.size, s, none⟩ = some (.int .i64 (mostV c s)) := by
        rcases (show s = 0 ∨ s = 1 ∨ s = 2 ∨ s = 3 by omega) with rfl | rfl | rfl | rfl
        · exact (BR.out.below hb).cell 0 rfl
        · exact (BR.out.below hb).cell 1 rfl
        · exact (BR.out.below hb).cell 2 rfl
        · exact (BR.out.below hb).cell 3 rfl
      have s0 := fun d => below_cell (reach_below wr.heap.size wr d) x0
      refine wp_region_reach wr.heap.size (by kernel_rfl) (by kernel_rfl) ?_
      repeat (first | (go_big_quiet_want; refine quiet_load_row 31 _ rfl (w4.heap.size) rfl 31 _ (0, 0) _ HG.out Tryd.underlying31 rfl (by kernel_rfl) ?_; go_big_quiet_on; simp only [Act.put, List.setIfInBounds_toArray, List.set_cons_succ, List.set_cons_zero]) | go_big_quiet_step ((go_at_call 18; with_reducible exact reach_call hB (KR.out _))))
      refine wpQuiet_nil ?_
      rintro w' ⟨d, rfl⟩
      have HD := Lib.hid (hb.trans ((reach_below wr.heap.size wr d).mono hb.size))
      clear x0 s0 HG KR hb HB
      generalize reach wr.heap.size wr d = w9 at *
      go_wp2_with fail
      go_roundw
      case rel => exact ⟨s + 1, by omega, by go_num, HD.out⟩
      case measure => simp [intOf]; omega
    · obtain rfl : s = 4 := by omega
      have HB := Lib.hid hb
      clear hb
      go_wp2_with fail
      have e4 : ((4 : Nat) : Int) = 4 := rfl
      simp only [e4]
      clear e4
      go_loopw [18, 19, 20, 21, 22, 23, 24, 25] (fun v a b c1 d e f g w8 => ∃ i : Nat, i ≤ n ∧ v = .int .i64 i ∧ Below W2.heap.size W2 w8) (fun v _ _ _ _ _ _ _ _ => n - (intOf v).toNat)
      case atStart => exact ⟨0, by omega, rfl, HB.out⟩
      case round =>
        obtain ⟨i, hi, rfl, hb⟩ := hrel
        have H2 := Lib.hid (B2.out.trans (hb.mono B2.out.size))
        rename World => W8
        have c26 : W8.cell? ⟨w4.heap.size, 26, none⟩ = some (.slice fa n fc) := (RW.out W8 H2.out).cell 26 rfl
        by_cases hl : i < n
        · have i1 : (i : Int) < (n : Int) := by omega
          obtain ⟨p, rfl, c0, c1, c2⟩ := (F1.out.below H2.out) i hl
          obtain ⟨x, hx⟩ : ∃ x, fv (BitVec.ofInt 7 sh) (bu i) = x := ⟨_, rfl⟩
          have FX := Lib.hid hx
          obtain ⟨sv, hsv⟩ : ∃ sv, S i = sv := ⟨_, rfl⟩
          have SV := Lib.hid hsv
          have gS : (bits BinOp.and IntKind.i64 (v / 2 ^ i) 1 == 1) = sv := (WT.out i hl).trans hsv
          clear hsv
          go_upto_region 17 with fail
          have hal := (Below.refl W8.heap.size W8).alloc (Nat.le_refl _) (.cells #[.int .i64 (bu i), .int .i64 (lo i), .int .i64 (pr i)] 50)
          have F0 := Lib.hid (Bx.new W8 #[.int .i64 (bu i), .int .i64 (lo i), .int .i64 (pr i)] 50)
          have H3 := Lib.hid (hb.trans (hal.mono hb.size))
          clear hal c0 c1 c2 c26
          generalize World.alloc W8 _ = W9 at *
          have H9 := Lib.hid (B2.out.trans (H3.out.mono B2.out.size))
          have z0 : W9.cell? ⟨W8.heap.size, 0, none⟩ = some (.int .i64 (bu i)) := F0.out.cell 0 rfl
          have KF := feedsV sh (bu i) W9 (HT.out.below (L1.out.trans (H9.out.mono L1.out.size)))
          rw [hx] at KF
          clear hx
          have KF := Lib.hid KF
          go_wp2_with fail
          refine KF.out.mono ?_
          rintro e w5 ⟨rfl, hb5⟩
          have H5 := Lib.hid (H3.out.trans (hb5.mono H3.out.size))
          have F5 := Lib.hid (F0.out.below hb5)
          have z2 : w5.cell? ⟨W8.heap.size, 2, none⟩ = some (.int .i64 (pr i)) := F5.out.cell 2 rfl
          clear hb5 z0 KF
          go_upto_region 19 with fail
          obtain ⟨mv, hmv⟩ : ∃ mv : Bool, (decide (0 ≤ x) && (tz a4 i && (!a5 || (pr i == 0)))) = mv := ⟨_, rfl⟩
          have MV := Lib.hid hmv
          clear hmv gS
          go_cut [22] (fun b wx => b = .bool mv ∧ wx = w5)
          case first =>
            obtain ⟨g, hg⟩ : ∃ g, decide (0 ≤ x) = g := ⟨_, rfl⟩
            obtain ⟨tv, gt⟩ : ∃ tv, (bits BinOp.and IntKind.i64 (a4 / 2 ^ i) 1 == 0) = tv := ⟨_, rfl⟩
            obtain ⟨pv, gp⟩ : ∃ pv, (pr i == 0) = pv := ⟨_, rfl⟩
            have MW := Lib.hid (show (g && (tv && (!a5 || pv))) = mv by rw [← MV.out, hg, gp]; unfold tz; rw [gt])
            cases g
            · go_wp2_with fail
              go_meet
              exact ⟨by rw [← MW.out]; rfl, rfl⟩
            · cases tv
              · go_wp2_with fail
                go_meet
                exact ⟨by rw [← MW.out]; rfl, rfl⟩
              · cases a5
                · go_wp2_with fail
                  go_meet
                  exact ⟨by rw [← MW.out]; rfl, rfl⟩
                · go_wp2_with fail
                  go_meet
                  exact ⟨by rw [← MW.out]; rfl, rfl⟩
          case rest =>
            obtain ⟨rfl, hw⟩ := hcut
            subst hw
            cases sv with
            | true =>
              obtain ⟨t, ht⟩ := WO.out i SV.out
              have mt : mv = true := by
                unfold okW at ht
                rw [tb_tz] at ht
                simp only [Bool.and_eq_true, Bool.not_eq_true', Bool.not_not, beq_iff_eq] at ht
                rw [← MV.out, ht.1.1]
                have e1 := FX.out.symm.trans ht.2
                have e2 := ht.1.2
                rw [show decide (0 ≤ x) = true from decide_eq_true (by omega)]
                cases a5
                · rfl
                · simpa using e2
              subst mt
              clear ht
              go_wp2_with fail
              go_roundw
              case rel => exact ⟨i + 1, by omega, by go_num, H5.out⟩
              case measure => simp [intOf]; omega
            | false =>
              cases mv with
              | false =>
                go_wp2_with fail
                go_roundw
                case rel => exact ⟨i + 1, by omega, by go_num, H5.out⟩
                case measure => simp [intOf]; omega
              | true =>
                have hm := MV.out
                simp only [Bool.and_eq_true, decide_eq_true_eq, Bool.or_eq_true, Bool.not_eq_true', beq_iff_eq] at hm
                have x3 : x ≤ 3 := by rw [← FX.out]; exact fv_leW _ _
                obtain ⟨s, rfl⟩ := Int.eq_ofNat_of_zero_le hm.1
                have hs : s < 4 := by omega
                have DR := Lib.hid (dear_room (mo := mostV c s) OPM.out (OSP.out i hl) (RM.out s hs).2 WO.out (by
                  unfold okW
                  rw [FX.out, tb_tz, hm.2.1]
                  rcases hm.2.2 with h | h
                  · rw [h]; simp
                  · rw [h]; simp) SV.out)
                clear hm x3
                obtain ⟨q, hq⟩ : ∃ q : Nat → Bool, (fun j => S j && (fv (BitVec.ofInt 7 sh) (bu j) == (s : Int)) && dearB pr i j) = q := ⟨_, rfl⟩
                have QQ := Lib.hid (show ∀ j, (S j && ((fv (BitVec.ofInt 7 sh) (bu j) == (s : Int)) && dearB pr i j)) = q j from fun j => by rw [← hq]; exact (Bool.and_assoc _ _ _).symm)
                rw [hq] at DR
                clear hq
                obtain ⟨W5, hW5⟩ : ∃ u, u = wc := ⟨_, rfl⟩
                subst hW5
                go_wp2_with fail
                go_loopw [23, 24, 25] (fun d j f w8 => ∃ (k : Nat) (m : Int), k ≤ n ∧ j = .int .i64 k ∧ d = .int .i64 m ∧ m = loadN q lo k ∧ Below W5.heap.size W5 w8) (fun _ j _ _ => n - (intOf j).toNat)
                case atStart => exact ⟨0, 0, by omega, rfl, rfl, rfl, Below.refl _ _⟩
                case round =>
                  rename World => WJ
                  obtain ⟨k, m, hk, rfl, rfl, hm, hb9⟩ := hrel
                  have HM := Lib.hid hm
                  clear hm
                  have H7 := Lib.hid (H5.out.trans (hb9.mono H5.out.size))
                  have HJ := Lib.hid (B2.out.trans (H7.out.mono B2.out.size))
                  have c26 : WJ.cell? ⟨w4.heap.size, 26, none⟩ = some (.slice (some p) n fc) := (RW.out WJ HJ.out).cell 26 rfl
                  by_cases hlk : k < n
                  · have k1 : (k : Int) < (n : Int) := by omega
                    have lb := LB.out k hlk
                    have mb := loadN_bound (ok := q) n LB.out k (by omega)
                    rw [← HM.out] at mb
                    have v1 : IntKind.i64.wrap (m + lo k) = m + lo k := IntWalk.i64_in _ (by omega)
                    obtain ⟨p', hp, d0, d1, d2⟩ := (F1.out.below HJ.out) k hlk
                    cases hp
                    have gS : (bits BinOp.and IntKind.i64 (v / 2 ^ k) 1 == 1) = S k := WT.out k hlk
                    have QK := QQ.out k
                    obtain ⟨sv, hsv⟩ : ∃ sv, S k = sv := ⟨_, rfl⟩
                    obtain ⟨x, hx⟩ : ∃ x, fv (BitVec.ofInt 7 sh) (bu k) = x := ⟨_, rfl⟩
                    obtain ⟨qv, hqv⟩ : ∃ qv, q k = qv := ⟨_, rfl⟩
                    rw [hsv] at gS
                    rw [hsv, hx, hqv, dearB_val] at QK
                    have QV := Lib.hid hqv
                    have QK := Lib.hid QK
                    clear hsv hqv
                    go_upto_region 28 with fail
                    have hal := (Below.refl WJ.heap.size WJ).alloc (Nat.le_refl _) (.cells #[.int .i64 (bu k), .int .i64 (lo k), .int .i64 (pr k)] 50)
                    have F0 := Lib.hid (Bx.new WJ #[.int .i64 (bu k), .int .i64 (lo k), .int .i64 (pr k)] 50)
                    have H3 := Lib.hid (hb9.trans (hal.mono hb9.size))
                    clear hal d0 d1 d2 c26
                    generalize World.alloc WJ _ = WA at *
                    have HA2 := Lib.hid (H5.out.trans (H3.out.mono H5.out.size))
                    have HA1 := Lib.hid (B2.out.trans (HA2.out.mono B2.out.size))
                    have FI := Lib.hid (F5.out.below H3.out)
                    have y0 : WA.cell? ⟨WJ.heap.size, 0, none⟩ = some (.int .i64 (bu k)) := F0.out.cell 0 rfl
                    have KG := feedsV sh (bu k) WA (HT.out.below (L1.out.trans (HA1.out.mono L1.out.size)))
                    rw [hx] at KG
                    clear hx
                    have KG := Lib.hid KG
                    go_cut [158] (fun b wx => b = .bool qv ∧ Below WA.heap.size WA wx)
                    case first =>
                      cases sv
                      · go_wp2_with fail
                        go_meet
                        exact ⟨by rw [← QK.out]; rfl, Below.refl _ _⟩
                      · go_wp2_with fail
                        refine KG.out.mono ?_
                        rintro e w6 ⟨rfl, hb6⟩
                        have HB6 := Lib.hid hb6
                        have y2 : w6.cell? ⟨WJ.heap.size, 2, none⟩ = some (.int .i64 (pr k)) := (F0.out.below hb6).cell 2 rfl
                        have z2 : w6.cell? ⟨W8.heap.size, 2, none⟩ = some (.int .i64 (pr i)) := (FI.out.below hb6).cell 2 rfl
                        clear hb6 y0
                        obtain ⟨xs, gx⟩ : ∃ xs, (x == (s : Int)) = xs := ⟨_, rfl⟩
                        obtain ⟨g1, hg1⟩ : ∃ g1, decide (pr k < pr i) = g1 := ⟨_, rfl⟩
                        obtain ⟨g2, hg2⟩ : ∃ g2, (pr k == pr i) = g2 := ⟨_, rfl⟩
                        obtain ⟨g3, hg3⟩ : ∃ g3, decide ((k : Int) < (i : Int)) = g3 := ⟨_, rfl⟩
                        have QL := Lib.hid (show (true && (xs && (g1 || (g2 && g3)))) = qv by rw [← QK.out, ← gx, ← hg1, ← hg2, ← hg3])
                        cases xs
                        · go_wp2_with fail
                          go_meet
                          exact ⟨by rw [← QL.out]; rfl, HB6.out⟩
                        · cases g1
                          · cases g2
                            · go_wp2_with fail
                              go_meet
                              exact ⟨by rw [← QL.out]; rfl, HB6.out⟩
                            · go_wp2_with fail
                              go_meet
                              exact ⟨congrArg Value.bool (by rw [← QL.out]; simp [← hg3]), HB6.out⟩
                          · go_wp2_with fail
                            go_meet
                            exact ⟨by rw [← QL.out]; rfl, HB6.out⟩
                    case rest =>
                      obtain ⟨rfl, hbc⟩ := hcut
                      have HC := Lib.hid (H3.out.trans (hbc.mono H3.out.size))
                      have FK := Lib.hid (F0.out.below hbc)
                      clear hbc y0
                      cases qv
                      · have ST := Lib.hid (show m = loadN q lo (k + 1) by
                          show m = if q k then loadN q lo k + lo k else loadN q lo k
                          rw [QV.out, if_neg (by simp)]; exact HM.out)
                        go_wp2_with fail
                        go_roundw
                        case rel => exact ⟨k + 1, m, by omega, by go_num, rfl, ST.out, HC.out⟩
                        case measure => simp [intOf]; omega
                      · have ST := Lib.hid (show m + lo k = loadN q lo (k + 1) by
                          show m + lo k = if q k then loadN q lo k + lo k else loadN q lo k
                          rw [QV.out, if_pos rfl, ← HM.out])
                        have y1 : wc.cell? ⟨WJ.heap.size, 1, none⟩ = some (.int .i64 (lo k)) := FK.out.cell 1 rfl
                        go_wp2_with fail
                        go_roundw
                        case rel => exact ⟨k + 1, m + lo k, by omega, by go_num, rfl, ST.out, HC.out⟩
                        case measure => simp [intOf]; omega
                  · obtain rfl : k = n := by omega
                    have i0 : (0 : Int) ≤ (s : Int) := by omega
                    have i4 : (s : Int) < 4 := by omega
                    have lb := LB.out i hl
                    have mb := loadN_bound (ok := q) k LB.out k (by omega)
                    have dr := DR.out
                    rw [← HM.out] at mb dr
                    have v1 : IntKind.i64.wrap (m + lo i) = m + lo i := IntWalk.i64_in _ (by omega)
                    have g9 : decide (m + lo i ≤ mostV c s) = false := decide_eq_false (by omega)
                    go_upto_region 30 with fail
                    have x0 : WJ.cell? ⟨u1.heap.size, s, none⟩ = some (.int .i64 (mostV c s)) := by
                      rcases (show s = 0 ∨ s = 1 ∨ s = 2 ∨ s = 3 by omega) with rfl | rfl | rfl | rfl
                      · exact (BR.out.below H7.out).cell 0 rfl
                      · exact (BR.out.below H7.out).cell 1 rfl
                      · exact (BR.out.below H7.out).cell 2 rfl
                      · exact (BR.out.below H7.out).cell 3 rfl
                    have s0 := fun d => below_cell (reach_below WJ.heap.size WJ d) x0
                    have s1 := fun d => below_cell (reach_below WJ.heap.size WJ d) (show WJ.cell? ⟨W8.heap.size, 1, none⟩ = some (.int .i64 (lo i)) from (F5.out.below hb9).cell 1 rfl)
                    clear x0 c26 dr mb lb
                    refine wp_region_reach WJ.heap.size (by kernel_rfl) (by kernel_rfl) ?_
                    repeat (go_big_quiet_step (fail))
                    refine wpQuiet_nil ?_
                    rintro w' ⟨d, rfl⟩
                    have HD := Lib.hid (H7.out.trans ((reach_below WJ.heap.size WJ d).mono H7.out.size))
                    clear s0 s1
                    generalize reach WJ.heap.size WJ d = w9 at *
                    go_wp2_with fail
                    go_roundw
                    case rel => exact ⟨i + 1, by omega, by go_num, HD.out⟩
                    case measure => simp [intOf]; omega
        · obtain rfl : i = n := by omega
          have WZ := WE.out
          clear hl hi hb
          go_wp2_with fail
          go_returns
          exact ⟨rfl, LO.out W8 H2.out⟩
end Go.Proofs.YtbeemfkndpandaaDoor
