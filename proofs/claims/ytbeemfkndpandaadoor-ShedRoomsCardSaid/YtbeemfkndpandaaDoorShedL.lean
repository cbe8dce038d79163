/- What the feeders take of a source. Conditions: the table of ends lies as the text lays it. -/
import Derived.Test.YtbeemfkndpandaaDoorShedF
import Derived.Test.YtbeemfkndpandaaDoorNumb
namespace Go.Proofs.YtbeemfkndpandaaDoor
open Go Go.RowKit
set_option linter.unusedVariables false
set_option maxRecDepth 20000
theorem addS (a b : Int) (ha : 0 ≤ a ∧ a ≤ 1099511627776) (hb : 0 ≤ b ∧ b ≤ 1099511627776) (w : World) : Calls Tryd.prog 42 #[.int .i64 a, .int .i64 b] w fun e w' => e = .returned (.int .i64 (a + b)) ∧ w = w' := by
  have v1 : IntKind.i64.wrap (a + b) = a + b := IntWalk.i64_in _ (by omega)
  have g1 : decide (a + b < 0) = false := decide_eq_false (by omega)
  have g2 : decide (a < 0) = false := decide_eq_false (by omega)
  clear ha hb
  go_enter Tryd.func42, Tryd.ntmps42
  by_cases q : 0 < a
  · have g3 : decide (0 < a) = true := decide_eq_true q
    by_cases q2 : 0 < b
    · have g4 : decide (0 < b) = true := decide_eq_true q2
      clear q q2
      go_wp2_with fail
      go_ret
      exact ⟨rfl, rfl⟩
    · have g4 : decide (0 < b) = false := decide_eq_false q2
      clear q q2
      go_wp2_with fail
      go_ret
      exact ⟨rfl, rfl⟩
  · have g3 : decide (0 < a) = false := decide_eq_false q
    clear q
    go_wp2_with fail
    go_ret
    exact ⟨rfl, rfl⟩
def loadN (ok : Nat → Bool) (lo : Nat → Int) : Nat → Int
  | 0 => 0
  | i + 1 => if ok i then loadN ok lo i + lo i else loadN ok lo i
theorem loadN_bound {ok : Nat → Bool} {lo : Nat → Int} (n : Nat) (hlo : ∀ i, i < n → 0 ≤ lo i ∧ lo i ≤ 1073741824) : ∀ i, i ≤ n → 0 ≤ loadN ok lo i ∧ loadN ok lo i ≤ 1073741824 * i := by
  intro i
  induction i with
  | zero => intro _; simp [loadN]
  | succ i ih =>
    intro hi
    have h1 := ih (by omega)
    have h2 := hlo i (by omega)
    unfold loadN
    split <;> omega
/-- What takes of source s. -/
def okF (feed shut : Int) (bu : Nat → Int) (s : Int) (i : Nat) : Bool := tb feed i && (fv (BitVec.ofInt 7 shut) (bu i) == s)
set_option maxHeartbeats 8000000 in
theorem loadC (c : CG) (oc : Value) (a : Option Addr) (n cp : Nat) (bu lo pr : Nat → Int) (hn : n ≤ 6) (hlo : ∀ i, i < n → 0 ≤ lo i ∧ lo i ≤ 1073741824) (feed shut : Int) (s : Nat) (hs : s < 4) (w : World) (h : FedG w a n bu lo pr) (hT : Tab w) :
    Calls Tryd.prog 18 #[.agg (cgA c oc (.slice a n cp)), .int .i64 feed, .int .i64 shut, .int .i64 s] w fun e w' => e = .returned (.int .i64 (loadN (okF feed shut bu s) lo n)) ∧ Below w.heap.size w w' := by
  have H := Lib.hid h
  have HT := Lib.hid hT
  have HLO := Lib.hid hlo
  obtain ⟨ok, hok⟩ : ∃ ok, okF feed shut bu s = ok := ⟨_, rfl⟩
  rw [hok]
  have HOK := Lib.hid hok
  have BN := Lib.hid fun i (hi : i ≤ n) => loadN_bound (ok := ok) n hlo i hi
  clear h hT hlo hok
  have g0 : decide ((s : Int) < 0) = false := decide_eq_false (by omega)
  have g1 : decide (3 < (s : Int)) = false := decide_eq_false (by omega)
  go_enter Tryd.func18, Tryd.ntmps18
  go_upto_region 1 with fail
  have B0 := Lib.hid (Bx.new w (cgA c oc (.slice a n cp)) 31)
  generalize World.alloc w _ = W at *
  have x26 : W.cell? ⟨w.heap.size, 26, none⟩ = some (.slice a n cp) := B0.out.cell 26 rfl
  go_wp2_with fail
  go_loopw [9, 10, 11, 21] (fun v9 v10 v11 v wr => ∃ (i : Nat) (ld : Int), i ≤ n ∧ v = .int .i64 i ∧ v9 = .int .i64 ld ∧ ld = loadN ok lo i ∧ Below W.heap.size W wr) (fun _ _ _ v _ => n - (intOf v).toNat)
  case atStart => exact ⟨0, 0, by omega, rfl, rfl, rfl, Below.refl _ _⟩
  case round =>
    obtain ⟨i, ld, hi, rfl, rfl, hld, hb⟩ := hrel
    have LD := Lib.hid hld
    have HB := Lib.hid hb
    have BX := Lib.hid (B0.out.below hb)
    clear hld hb x26
    by_cases hl : i < n
    · have i1 : (i : Int) < (n : Int) := by omega
      obtain ⟨p, rfl, c0, c1, c2⟩ := (H.out.below BX.out.lo) i hl
      have LB := HLO.out i hl
      have LDB : 0 ≤ ld ∧ ld ≤ 1099511627776 := by rw [LD.out]; have := BN.out i (by omega); omega
      have KA := Lib.hid fun w => addS ld (lo i) LDB (by omega) w
      go_upto_region 7 with fail
      have hal := (Below.refl wr.heap.size wr).alloc (Nat.le_refl _) (.cells #[.int .i64 (bu i), .int .i64 (lo i), .int .i64 (pr i)] 50)
      have F0 := Lib.hid (Bx.new wr #[.int .i64 (bu i), .int .i64 (lo i), .int .i64 (pr i)] 50)
      have HB2 := Lib.hid (HB.out.trans (hal.mono HB.out.size))
      clear hal c0 c1 c2 HB BX
      generalize World.alloc wr _ = W9 at *
      have z0 : W9.cell? ⟨wr.heap.size, 0, none⟩ = some (.int .i64 (bu i)) := F0.out.cell 0 rfl
      have z1 : W9.cell? ⟨wr.heap.size, 1, none⟩ = some (.int .i64 (lo i)) := F0.out.cell 1 rfl
      have KF := Lib.hid (feedsV shut (bu i) W9 (HT.out.below (B0.out.below HB2.out).lo))
      obtain ⟨tv, gt⟩ : ∃ tv, (bits BinOp.and IntKind.i64 (feed / 2 ^ i) 1 == 1) = tv := ⟨_, rfl⟩
      cases tv
      · have ST := Lib.hid (show ld = loadN ok lo (i + 1) by
          show ld = if ok i then loadN ok lo i + lo i else loadN ok lo i
          rw [if_neg (by rw [← HOK.out]; unfold okF tb; rw [gt]; simp)]; exact LD.out)
        go_wp2_with fail
        go_roundw
        case rel => exact ⟨i + 1, ld, by omega, by go_num, rfl, ST.out, HB2.out⟩
        case measure => simp [intOf]; omega
      · obtain ⟨fq, gf⟩ : ∃ fq, (fv (BitVec.ofInt 7 shut) (bu i) == (s : Int)) = fq := ⟨_, rfl⟩
        cases fq
        · have ST := Lib.hid (show ld = loadN ok lo (i + 1) by
            show ld = if ok i then loadN ok lo i + lo i else loadN ok lo i
            rw [if_neg (by rw [← HOK.out]; unfold okF tb; rw [gt, gf]; simp)]; exact LD.out)
          go_wp2_with fail
          refine KF.out.mono ?_
          rintro e w5 ⟨rfl, hb⟩
          have HB5 := Lib.hid (HB2.out.trans (hb.mono HB2.out.size))
          clear hb
          go_wp2_with fail
          go_roundw
          case rel => exact ⟨i + 1, ld, by omega, by go_num, rfl, ST.out, HB5.out⟩
          case measure => simp [intOf]; omega
        · have ST := Lib.hid (show ld + lo i = loadN ok lo (i + 1) by
            show ld + lo i = if ok i then loadN ok lo i + lo i else loadN ok lo i
            rw [if_pos (by rw [← HOK.out]; unfold okF tb; rw [gt, gf]; simp), ← LD.out])
          go_wp2_with fail
          refine KF.out.mono ?_
          rintro e w5 ⟨rfl, hb⟩
          have HB5 := Lib.hid (HB2.out.trans (hb.mono HB2.out.size))
          have z1' := below_cell hb z1
          clear hb
          go_wp2_with fail
          refine (KA.out _).mono ?_
          rintro e w' ⟨rfl, rfl⟩
          go_wp2_with fail
          go_roundw
          case rel => exact ⟨i + 1, ld + lo i, by omega, by go_num, rfl, ST.out, HB5.out⟩
          case measure => simp [intOf]; omega
    · obtain rfl : i = n := by omega
      go_wp2_with fail
      go_returns
      exact ⟨by rw [LD.out]; rfl, BX.out.lo⟩
theorem loadOut (c : CG) (oc fe : Value) (feed shut s : Int) (hs : s < 0 ∨ 3 < s) (w : World) :
    Calls Tryd.prog 18 #[.agg (cgA c oc fe), .int .i64 feed, .int .i64 shut, .int .i64 s] w fun e w' => e = .returned (.int .i64 0) ∧ Below w.heap.size w w' := by
  by_cases q : s < 0
  · have g0 : decide (s < 0) = true := decide_eq_true q
    go_enter Tryd.func18, Tryd.ntmps18
    go_wp2_with fail
    go_returns
    exact ⟨rfl, (Bx.new w (cgA c oc fe) 31).lo⟩
  · have g0 : decide (s < 0) = false := decide_eq_false q
    have g1 : decide (3 < s) = true := decide_eq_true (by omega)
    go_enter Tryd.func18, Tryd.ntmps18
    go_wp2_with fail
    go_returns
    exact ⟨rfl, (Bx.new w (cgA c oc fe) 31).lo⟩
/-- What all sources below s are asked for. -/
def sumN (feed shut : Int) (bu lo : Nat → Int) (n : Nat) : Nat → Int
  | 0 => 0
  | s + 1 => sumN feed shut bu lo n s + loadN (okF feed shut bu s) lo n
theorem loadN_mono {ok ok' : Nat → Bool} {lo : Nat → Int} (n : Nat) (hlo : ∀ i, i < n → 0 ≤ lo i ∧ lo i ≤ 1073741824) (h : ∀ i, i < n → ok i = true → ok' i = true) : loadN ok lo n ≤ loadN ok' lo n := by
  induction n with
  | zero => simp [loadN]
  | succ n ih =>
    have h1 := ih (fun i hi => hlo i (by omega)) (fun i hi => h i (by omega))
    have h2 := hlo n (by omega)
    have h3 := h n (by omega)
    unfold loadN
    cases e : ok n with
    | true => rw [h3 e]; simp; omega
    | false => cases ok' n <;> simp <;> omega
theorem tbAll (i : Nat) (h : i < 6) : tb 65535 i = true := by
  rcases (show i = 0 ∨ i = 1 ∨ i = 2 ∨ i = 3 ∨ i = 4 ∨ i = 5 by omega) with rfl | rfl | rfl | rfl | rfl | rfl <;> decide +kernel
theorem sum_le (feed shut : Int) (bu lo : Nat → Int) (n : Nat) (hlo : ∀ i, i < n → 0 ≤ lo i ∧ lo i ≤ 1073741824) : sumN feed shut bu lo n 4 ≤ loadN (tb feed) lo n := by
  show 0 + loadN (okF feed shut bu (0 : Nat)) lo n + loadN (okF feed shut bu (1 : Nat)) lo n + loadN (okF feed shut bu (2 : Nat)) lo n + loadN (okF feed shut bu (3 : Nat)) lo n ≤ _
  induction n with
  | zero => simp [loadN]
  | succ n ih =>
    have h1 := ih (fun i hi => hlo i (by omega))
    have h2 := hlo n (by omega)
    unfold loadN
    cases e : tb feed n with
    | false =>
      have q : ∀ s : Int, okF feed shut bu s n = false := fun s => by unfold okF; rw [e]; rfl
      simp only [q, if_false, Bool.false_eq_true]
      exact h1
    | true =>
      have q : ∀ s : Int, okF feed shut bu s n = (fv (BitVec.ofInt 7 shut) (bu n) == s) := fun s => by unfold okF; rw [e]; rfl
      simp only [q, if_true]
      generalize fv (BitVec.ofInt 7 shut) (bu n) = f at *
      by_cases f0 : f = 0
      · subst f0; simp at h1 ⊢; omega
      by_cases f1 : f = 1
      · subst f1; simp at h1 ⊢; omega
      by_cases f2 : f = 2
      · subst f2; simp at h1 ⊢; omega
      by_cases f3 : f = 3
      · subst f3; simp at h1 ⊢; omega
      have n0 : (f == ((0 : Nat) : Int)) = false := by simp [f0]
      have n1 : (f == ((1 : Nat) : Int)) = false := by simp [f1]
      have n2 : (f == ((2 : Nat) : Int)) = false := by simp [f2]
      have n3 : (f == ((3 : Nat) : Int)) = false := by simp [f3]
      simp only [n0, n1, n2, n3, Bool.false_eq_true, if_false]
      omega
theorem fv_none (b : Int) : fv (BitVec.ofInt 7 0) b = -1 := by
  unfold fv
  split
  · rename_i h
    rcases (show b = 4 ∨ b = 5 ∨ b = 6 by omega) with rfl | rfl | rfl <;> decide +kernel
  · rfl
theorem load_none (feed : Int) (bu lo : Nat → Int) (n : Nat) : loadN (okF feed 0 bu (0 : Nat)) lo n = 0 := by
  induction n with
  | zero => rfl
  | succ n ih =>
    unfold loadN
    rw [if_neg (by unfold okF; rw [fv_none]; simp), ih]
theorem loB (k : Int) (hk : 0 ≤ k) (n : Nat) : ∀ i, i < n → 0 ≤ loadI k i ∧ loadI k i ≤ 1073741824 := fun i _ => by unfold loadI; omega
set_option maxHeartbeats 16000000 in
theorem walkShedLoads (a0 : Int) (a1 : Int) (a2 : Int) (a3 : Int) (a4 : Int) (w : World) (w0 : (Lit.int .i64 a0).wf = true) (w1 : (Lit.int .i64 a1).wf = true) (w2 : (Lit.int .i64 a2).wf = true) (w3 : (Lit.int .i64 a3).wf = true) (w4 : (Lit.int .i64 a4).wf = true) (hT : Tab w) :
    Calls Tryd.prog 8 #[.int .i64 a0, .int .i64 a1, .int .i64 a2, .int .i64 a3, .int .i64 a4] w fun e w' => e = .returned (.bool true) ∧ Below w.heap.size w w' := by
  have HT := Lib.hid hT
  clear w0 w1 w2 w3 w4 hT
  go_enter Tryd.func8, Tryd.ntmps8
  go_wp2_with fail
  refine (first25 w HT.out).mono ?_
  rintro e wa ⟨rfl, hba⟩
  have HA := Lib.hid hba
  clear hba
  go_wp2_with fail
  refine (configF a0 a1 a2 wa).mono ?_
  rintro e w4 ⟨O, fa, fc, rfl, hO, ho, hf, hb⟩
  have L4 := Lib.hid (HA.out.trans (hb.mono HA.out.size))
  have hn : (a1 % 1048576 / 20 % 7).toNat ≤ 6 := by omega
  have F4 := Lib.hid hf.g
  have LB := Lib.hid (loB (a2 % 1048576) (by omega) (a1 % 1048576 / 20 % 7).toNat)
  unfold cfgV
  rw [cgA_of]
  clear hb ho hf hO
  generalize (a1 % 1048576 / 20 % 7).toNat = n at *
  generalize (cfgOf (a0 % 1048576) (a1 % 1048576) (a2 % 1048576)).cg = c at *
  generalize busI (a2 % 1048576) = bu at *
  generalize loadI (a2 % 1048576) = lo at *
  generalize prioI (a2 % 1048576) = pr at *
  go_wp2_with fail
  refine upon_fresh (by simp) rfl (by kernel_rfl) ?_
  intro W1 b1 s1 h1
  have R8 := Lib.hid (show Rw W1 w4.heap.size c (.slice (some ⟨O, 0, none⟩) 4 4) (.slice fa n fc) from h1)
  have L1 := Lib.hid (L4.out.trans (b1.mono L4.out.size))
  have F1 := Lib.hid (F4.out.below b1)
  have hlt : w4.heap.size < W1.heap.size := by omega
  clear h1 b1 s1 F4 L4
  go_wp2_with fail
  refine (numbC a3 128 (by omega) (by omega) W1).mono ?_
  rintro e w' ⟨rfl, rfl⟩
  generalize a3 % 128 = sh at *
  go_wp2_with fail
  refine (numbC a4 65536 (by omega) (by omega) W1).mono ?_
  rintro e w' ⟨rfl, rfl⟩
  generalize a4 % 65536 = fe at *
  have KL := Lib.hid fun (feed : Int) (shut : Int) (s : Nat) (hs : s < 4) (u : World) (hu : Below W1.heap.size W1 u) => loadC c (.slice (some ⟨O, 0, none⟩) 4 4) fa n fc bu lo pr hn LB.out feed shut s hs u (F1.out.below hu) (HT.out.below (L1.out.trans (hu.mono L1.out.size)))
  have KO := Lib.hid fun (shut s : Int) (hs : s < 0 ∨ 3 < s) (u : World) => loadOut c (.slice (some ⟨O, 0, none⟩) 4 4) (.slice fa n fc) fe shut s hs u
  have RW := Lib.hid fun (u : World) (hu : Below W1.heap.size W1 u) => R8.out.below hu hlt
  have LO := Lib.hid fun (u : World) (hu : Below W1.heap.size W1 u) => L1.out.trans (hu.mono L1.out.size)
  have BN := Lib.hid fun (ok : Nat → Bool) => loadN_bound (ok := ok) n LB.out n (Nat.le_refl _)
  have MO := Lib.hid fun (s : Nat) => loadN_mono (ok := okF fe sh bu s) (ok' := okF 65535 sh bu s) n LB.out (fun i hi h => by
    unfold okF at h ⊢
    rw [tbAll i (by omega), Bool.true_and]
    simp only [Bool.and_eq_true] at h
    exact h.2)
  have SU := Lib.hid (sum_le fe sh bu lo n LB.out)
  have LN := Lib.hid (load_none fe bu lo n)
  clear hlt R8 L1
  go_wp2_with fail
  go_loopw [13, 14, 15] (fun v13 v v15 wr => ∃ (s : Nat) (sm : Int), s ≤ 4 ∧ v = .int .i64 s ∧ v13 = .int .i64 sm ∧ sm = sumN fe sh bu lo n s ∧ (0 ≤ sm ∧ sm ≤ 1073741824 * 6 * s) ∧ Below W1.heap.size W1 wr) (fun _ v _ _ => 4 - (intOf v).toNat)
  case atStart => exact ⟨0, 0, by omega, rfl, rfl, rfl, by omega, Below.refl _ _⟩
  case round =>
    obtain ⟨s, sm, hs, rfl, rfl, hsm, hsb, hb⟩ := hrel
    have SM := Lib.hid hsm
    have HB := Lib.hid hb
    have RX := Lib.hid (RW.out wr hb)
    clear hsm hb
    by_cases hl : s < 4
    · have g1 : decide ((s : Int) < 4) = true := decide_eq_true (by omega)
      have b1 := BN.out (okF fe sh bu s)
      have SMN := Lib.hid (show sm + loadN (okF fe sh bu s) lo n = sumN fe sh bu lo n (s + 1) by rw [SM.out]; rfl)
      have K1 := Lib.hid (KL.out fe sh s hl wr HB.out)
      have mo := MO.out s
      have K2 := Lib.hid fun (u : World) (hu : Below W1.heap.size W1 u) => KL.out 65535 sh s hl u hu
      generalize loadN (okF fe sh bu s) lo n = x at *
      generalize loadN (okF 65535 sh bu s) lo n = y at *
      have g2 : decide (x < 0) = false := decide_eq_false (by omega)
      have g3 : decide (y < x) = false := decide_eq_false (by omega)
      have v1 : IntKind.i64.wrap (sm + x) = sm + x := IntWalk.i64_in _ (by omega)
      go_wp2_with (refine wpList_load_row_g (by kernel_rfl) 31 _ rfl w4.heap.size rfl 31 _ (0, 0) _ RX.out Tryd.underlying31 rfl (by kernel_rfl) ?_)
      refine K1.out.mono ?_
      rintro e w5 ⟨rfl, hb⟩
      have H5 := Lib.hid (HB.out.trans (hb.mono HB.out.size))
      have R5 := Lib.hid (RW.out w5 H5.out)
      clear hb K1
      go_wp2_with (refine wpList_load_row_g (by kernel_rfl) 31 _ rfl w4.heap.size rfl 31 _ (0, 0) _ R5.out Tryd.underlying31 rfl (by kernel_rfl) ?_)
      refine (K2.out _ H5.out).mono ?_
      rintro e w6 ⟨rfl, hb⟩
      have H6 := Lib.hid (H5.out.trans (hb.mono H5.out.size))
      clear hb K2
      go_wp2_with fail
      go_roundw
      case rel => exact ⟨s + 1, sm + x, by omega, by go_num, rfl, SMN.out, by omega, H6.out⟩
      case measure => simp [intOf]; omega
    · obtain rfl : s = 4 := by omega
      have SML := Lib.hid (show sm ≤ loadN (tb fe) lo n by rw [SM.out]; exact SU.out)
      have c26 : wr.cell? ⟨w4.heap.size, 26, none⟩ = some (.slice fa n fc) := RX.out.cell 26 rfl
      clear hl hs
      go_wp2_with fail
      rename World => W8
      go_loopw [16, 17] (fun v16 v w8 => ∃ (i : Nat) (ms : Int), i ≤ n ∧ v = .int .i64 i ∧ v16 = .int .i64 ms ∧ ms = loadN (tb fe) lo i ∧ w8 = W8) (fun _ v _ => n - (intOf v).toNat)
      case atStart => exact ⟨0, 0, by omega, rfl, rfl, rfl, rfl⟩
      case round =>
        obtain ⟨i, ms, hi, rfl, rfl, hms, rfl⟩ := hrel
        have MS := Lib.hid hms
        clear hms
        by_cases hl : i < n
        · have i1 : (i : Int) < (n : Int) := by omega
          obtain ⟨p, rfl, c0, c1, c2⟩ := (F1.out.below HB.out) i hl
          have lb := LB.out i hl
          have mb := loadN_bound (ok := tb fe) n LB.out i (by omega)
          rw [← MS.out] at mb
          have v1 : IntKind.i64.wrap (ms + lo i) = ms + lo i := IntWalk.i64_in _ (by omega)
          obtain ⟨tv, gt⟩ : ∃ tv, (bits BinOp.and IntKind.i64 (fe / 2 ^ i) 1 == 1) = tv := ⟨_, rfl⟩
          cases tv
          · have ST := Lib.hid (show ms = loadN (tb fe) lo (i + 1) by
              show ms = if tb fe i then loadN (tb fe) lo i + lo i else loadN (tb fe) lo i
              rw [if_neg (by unfold tb; rw [gt]; simp)]; exact MS.out)
            go_wp2_with fail
            go_roundw
            case rel => exact ⟨i + 1, ms, by omega, by go_num, rfl, ST.out, trivial⟩
            case measure => simp [intOf]; omega
          · have ST := Lib.hid (show ms + lo i = loadN (tb fe) lo (i + 1) by
              show ms + lo i = if tb fe i then loadN (tb fe) lo i + lo i else loadN (tb fe) lo i
              rw [if_pos (by unfold tb; rw [gt]), ← MS.out])
            go_wp2_with fail
            go_roundw
            case rel => exact ⟨i + 1, ms + lo i, by omega, by go_num, rfl, ST.out, trivial⟩
            case measure => simp [intOf]; omega
        · obtain rfl : i = n := by omega
          have g1 : decide (sm ≤ ms) = true := decide_eq_true (by rw [MS.out]; exact SML.out)
          have K1 := Lib.hid (KL.out fe 0 0 (by omega) wr HB.out)
          rw [LN.out] at K1
          go_wp2_with (refine wpList_load_row_g (by kernel_rfl) 31 _ rfl w4.heap.size rfl 31 _ (0, 0) _ RX.out Tryd.underlying31 rfl (by kernel_rfl) ?_)
          refine K1.out.mono ?_
          rintro e w5 ⟨rfl, hb⟩
          have H5 := Lib.hid (HB.out.trans (hb.mono HB.out.size))
          have R5 := Lib.hid (RW.out w5 H5.out)
          clear hb K1
          go_wp2_with (refine wpList_load_row_g (by kernel_rfl) 31 _ rfl w4.heap.size rfl 31 _ (0, 0) _ R5.out Tryd.underlying31 rfl (by kernel_rfl) ?_)
          refine (KO.out sh (-1) (by omega) w5).mono ?_
          rintro e w6 ⟨rfl, hb⟩
          have H6 := Lib.hid (H5.out.trans (hb.mono H5.out.size))
          have R6 := Lib.hid (RW.out w6 H6.out)
          clear hb
          go_wp2_with (refine wpList_load_row_g (by kernel_rfl) 31 _ rfl w4.heap.size rfl 31 _ (0, 0) _ R6.out Tryd.underlying31 rfl (by kernel_rfl) ?_)
          refine (KO.out sh 4 (by omega) w6).mono ?_
          rintro e w7 ⟨rfl, hb⟩
          have H7 := Lib.hid (H6.out.trans (hb.mono H6.out.size))
          clear hb
          go_wp2_with fail
          go_returns
          exact ⟨rfl, LO.out w7 H7.out⟩
end Go.Proofs.YtbeemfkndpandaaDoor
