/- LocateSmall holds: each call returns true. Conditions: the arguments are a number of 64 bits, a slice of numbers and one of bools. -/
import Derived.Test.YtcphpaacgkfkbaaLoc
import Derived.Test.YtcphpaacgkfkbaaCfg
namespace Go.Proofs.Ytcphpaacgkfkbaa
open Go.RowKit
set_option linter.unusedVariables false
theorem leaks_v (a b c : Int) (x y z : Bool) : (#[.int .i64 a, .bool x, .int .i64 b, .bool y, .int .i64 c, .bool z] : Array Value) = leaksA (fun k => if k = 0 then a else if k = 1 then b else c) (fun k => if k = 0 then x else if k = 1 then y else z) := rfl
theorem loc_mk (B : Nat) (P : Nat → Nat) (s s' : LS) (A : Array Value) (v : Nat → Int) (f : Nat → Bool) (u : Value) (hArr : A = leaksA v f) (hs : s.upto v f 3 = s') (hu : s'.out = u) (hA : LAp B P) (hO : LOk s) (w : World) (h : Loc w B P s) :
    Calls Try.prog 22 #[.pointer (some ⟨B, 0, none⟩), .agg A] w fun e w' => e = .returned u ∧ Loc w' B P s' ∧ OnlyL B P w w' := by
  subst hArr; subst hs; subst hu
  exact locStep B P s v f hA hO w h
theorem newL_ok (c : CF) : LOk (newL c) := fun i hi => ⟨show (0 : Int) ≤ 0 by omega, show (0 : Int) ≤ 1000000 by omega⟩
theorem OnlyL.below {B : Nat} {P : Nat → Nat} {b : Nat} {w w' : World} (h : OnlyL B P w w') (h1 : b ≤ B) (h2 : ∀ i, i < 3 → b ≤ P i) (h5 : b ≤ w.heap.size) : Below b w w' :=
  Only4.below h h1 (h2 0 (by omega)) (h2 1 (by omega)) (h2 2 (by omega)) h5
theorem OnlyL.row {B : Nat} {P : Nat → Nat} {b : Nat} {o : Obj} {w w' : World} (h : OnlyL B P w w') (hc : w.heap[b]? = some o) (h1 : b ≠ B) (h2 : ∀ i, i < 3 → b ≠ P i) : w'.heap[b]? = some o :=
  Only4.row h hc h1 (h2 0 (by omega)) (h2 1 (by omega)) (h2 2 (by omega))
theorem first24 (w : World) : Calls Try.prog 20 #[] w fun e w' => e = .returned (.bool true) ∧ Below w.heap.size w w' := by
  go_enter Try.func20, Try.ntmps20
  go_wp2_with fail
  refine (configC 0 0 0 _).mono ?_
  rintro e w1 ⟨O, fa, fn, fc, rfl, hO, hv, hb1⟩
  have HB1 := Lib.hid hb1
  clear hb1 hv
  simp only [cfgV]
  rw [show (0 : Int) % 1048576 = 0 from rfl]
  go_wp2_with fail
  refine (locNew _ _ _ _).mono ?_
  rintro e w2 ⟨B, P, rfl, hS, hA, hL, hb2⟩
  have HS2 := Lib.hid hS
  have HA := Lib.hid hA
  have HB2 := Lib.hid (HB1.out.trans (hb2.mono HB1.out.size))
  have hsz := HB1.out.size
  have HL := Lib.hid hL
  clear hS hb2 HB1 hA hL
  go_wp2_with fail
  refine (loc_mk B P _ _ _ _ _ (.agg #[.bool true, .bool false, .bool false]) (leaks_v 400000 0 0 true false false) rfl rfl HA.out (newL_ok _) _ HS2.out).mono ?_
  rintro e w3 ⟨rfl, hS3, ho⟩
  have HB3 := Lib.hid (HB2.out.trans (ho.below (b := w.heap.size) (Nat.le_trans hsz HL.out.1) (fun i hi => Nat.le_trans hsz (HL.out.2 i hi)) HB2.out.size))
  obtain ⟨s1, HS3, E1, E2⟩ : ∃ s1, Hid (Loc w3 B P s1) ∧ Hid (s1.out = .agg #[.bool true, .bool false, .bool false]) ∧ Hid (LS.out { s1 with l := updL s1.l 2 true } = .agg #[.bool true, .bool false, .bool true]) := ⟨_, Lib.hid hS3, Lib.hid rfl, Lib.hid rfl⟩
  clear hS3 ho HS2
  have i0 : ∀ w : World, (Instr.index 43 (.agg #[.bool true, .bool false, .bool false]) (.int .i64 0)).run Try.prog w = .ok (.bool true) w := fun w => by kernel_rfl
  have i1 : ∀ w : World, (Instr.index 43 (.agg #[.bool true, .bool false, .bool false]) (.int .i64 1)).run Try.prog w = .ok (.bool false) w := fun w => by kernel_rfl
  have i2 : ∀ w : World, (Instr.index 43 (.agg #[.bool true, .bool false, .bool true]) (.int .i64 2)).run Try.prog w = .ok (.bool true) w := fun w => by kernel_rfl
  have K1 := Lib.hid fun (w : World) h => lockedC B P s1 w h
  rw [E1.out] at K1
  have K2 := Lib.hid fun (w : World) h => lockedC B P { s1 with l := updL s1.l 2 true } w h
  rw [E2.out] at K2
  go_wp2_with fail
  refine (K1.out _ HS3.out).mono ?_
  rintro e w4 ⟨rfl, hb⟩
  have HS4 := Lib.hid (HS3.out.below hb)
  have HB4 := Lib.hid (HB3.out.trans (hb.mono HB3.out.size))
  clear hb HS3
  go_wp2_with fail
  refine (K1.out _ HS4.out).mono ?_
  rintro e w5 ⟨rfl, hb⟩
  have HS5 := Lib.hid (HS4.out.below hb)
  have HB5 := Lib.hid (HB4.out.trans (hb.mono HB4.out.size))
  clear hb HS4
  go_wp2_with fail
  refine (lockC B P _ 2 (by omega) 6 rfl HA.out _ HS5.out).mono ?_
  rintro e w6 ⟨rfl, hl, ho⟩
  have HS6 := Lib.hid hl
  have HB6 := Lib.hid (HB5.out.trans (ho.below (Nat.le_trans hsz HL.out.1) HB5.out.size))
  clear hl ho HS5
  go_wp2_with fail
  refine (K2.out _ HS6.out).mono ?_
  rintro e w7 ⟨rfl, hb⟩
  have HB7 := Lib.hid (HB6.out.trans (hb.mono HB6.out.size))
  clear hb HS6
  go_wp2_with fail
  go_ret
  exact ⟨rfl, HB7.out⟩
/-- A bus whose leaks are never too great. -/
theorem quietL (c : CF) (hb : 1 ≤ c.B ∧ c.B ≤ 3) (x : Int) (q : Bool) (h : q = true → x ≤ 20000) : (newL c).upto (fun k => if k = 0 then x else if k = 1 then x else x) (fun k => if k = 0 then q else if k = 1 then q else q) 3 = newL c := by
  have e1 : ∀ i, (newL c).one i x q = newL c := fun i => by
    unfold LS.one
    cases q
    · rfl
    · rw [if_pos rfl]
      have hd : decide (20000 < x) = false := decide_eq_false (by have := h rfl; omega)
      unfold newL
      simp only [hd]
      congr 1
      · funext j; unfold updK FK.step; split <;> simp
      · funext j; unfold updL FK.step; split <;> simp
  show (((newL c).one 0 x q).one 1 x q).one 2 x q = _
  rw [e1, e1, e1]
set_option maxRecDepth 100000 in
set_option maxHeartbeats 8000000 in
theorem walkLocateSmall (a0 : Int) (a1 : Option Addr) (len1 cap1 : Nat) (z1 : List Int) (a2 : Option Addr) (len2 cap2 : Nat) (z2 : Nat → Bool) (w : World) (w0 : (Lit.int .i64 a0).wf = true) (w1 : CameI .i64 w a1 len1 cap1 z1) (w2 : CameB w a2 len2 cap2 z2) :
    Calls Try.prog 6 #[.int .i64 a0, .slice a1 len1 cap1, .slice a2 len2 cap2] w fun e w' => e = .returned (.bool true) ∧ Below w.heap.size w w' := by
  have C1 := Lib.hid fun i hi => w1.at i hi
  have C2 := Lib.hid fun i hi => w2.at i hi
  have ZB := Lib.hid (show ∀ i, i < len1 → -9223372036854775808 ≤ z1.getD i 0 ∧ z1.getD i 0 ≤ 9223372036854775807 from fun i hi => by
    rcases w1 with ⟨_, rfl, _⟩ | ⟨x, rfl, h1, _, h3, h4, h5⟩
    · omega
    · have hil : i < z1.length := by omega
      have := h5 _ (show z1.getD i 0 ∈ z1 by rw [show z1.getD i 0 = z1[i] by simp [List.getD, hil]]; exact List.getElem_mem _)
      exact bounds_i64 this)
  clear w0 w1 w2
  have hB : 1 ≤ (cfgOf (a0 % 1048576) 0 0).B ∧ (cfgOf (a0 % 1048576) 0 0).B ≤ 3 := by unfold cfgOf; simp only; omega
  have EARLY : len1 ≤ 100 ∧ len1 ≤ len2 ∨ ¬ (len1 ≤ 100 ∧ len1 ≤ len2) := Classical.em _
  rcases EARLY with ⟨hl, hl2⟩ | hl
  · go_enter Try.func6, Try.ntmps6
    go_wp2_with fail
    refine (first24 _).mono ?_
    rintro e w1 ⟨rfl, hb⟩
    have B1 := Lib.hid hb
    clear hb
    go_wp2_with fail
    refine (configC _ 0 0 _).mono ?_
    rintro e w2 ⟨O, fa, fn, fc, rfl, hO, hv, hb1⟩
    have B2 := Lib.hid (B1.out.trans (hb1.mono B1.out.size))
    clear hb1 hv hO
    simp only [cfgV]
    rw [show (0 : Int) % 1048576 = 0 from rfl]
    generalize cfgOf (a0 % 1048576) 0 0 = c at *
    go_wp2_with fail
    refine upon_fresh (by simp) rfl (cfgA_one rfl rfl) ?_
    intro W1 b1 s1 h1
    have HC := Lib.hid h1
    have B3 := Lib.hid (B2.out.trans (b1.mono B2.out.size))
    clear h1 b1 s1
    go_wp2_with (refine wpList_load_row_g rfl 26 _ rfl w2.heap.size rfl 26 _ (0, 0) _ HC.out Try.underlying26 rfl (by kernel_rfl) ?_)
    refine (locNew _ _ _ _).mono ?_
    rintro e w3 ⟨B, P, rfl, hS, hA, hL, hb3⟩
    have H3 := Lib.hid (Cfg.below HC.out hb3 (Array.getElem?_eq_some_iff.1 HC.out).1)
    have HS3 := Lib.hid hS
    have HA := Lib.hid hA
    have B4 := Lib.hid (B3.out.trans (hb3.mono B3.out.size))
    have hC := (Array.getElem?_eq_some_iff.1 HC.out).1
    have hws := B3.out.size
    have NC := Lib.hid (show w2.heap.size ≠ B ∧ ∀ i, i < 3 → w2.heap.size ≠ P i from ⟨by have := hL.1; omega, fun i hi => by have := hL.2 i hi; omega⟩)
    have NW := Lib.hid (show w.heap.size ≤ B ∧ ∀ i, i < 3 → w.heap.size ≤ P i from ⟨by have := hL.1; omega, fun i hi => by have := hL.2 i hi; omega⟩)
    clear hS hA hL hb3 HC B3
    go_wp2_with fail
    go_loopw [10] (fun v wr => ∃ i : Nat, i ≤ len1 ∧ v = .int .i64 i ∧ Loc wr B P (newL c) ∧ Cfg wr w2.heap.size c (.slice (some ⟨O, 0, none⟩) 4 4) (.slice fa fn fc) ∧ Below w.heap.size w wr) (fun v _ => len1 - (intOf v).toNat)
    case atStart => exact ⟨0, by omega, rfl, HS3.out, H3.out, B4.out⟩
    case round =>
      obtain ⟨i, hi, rfl, hs, hc, hb⟩ := hrel
      have FS := Lib.hid hs
      have FC := Lib.hid hc
      have FB := Lib.hid hb
      have hcl := (Array.getElem?_eq_some_iff.1 hc).1
      have hwl := hb.size
      clear hs hc hb HS3 H3 B4
      by_cases hlt : i < len1
      · obtain ⟨x, rfl, hx⟩ := C1.out i hlt
        obtain ⟨y, rfl, hy⟩ := C2.out i (by omega)
        have zb := ZB.out i hlt
        have hx0 := below_cell FB.out hx
        have hy0 := below_cell FB.out hy
        have c8 : wr.cell? ⟨w2.heap.size, 8, none⟩ = some (.int .i64 20000) := cell_of_row wr _ 8 _ _ _ FC.out
        clear hx hy C1 C2
        obtain ⟨z, hz⟩ : ∃ z, z1.getD i 0 = z := ⟨_, rfl⟩
        rw [hz] at zb hx0
        clear hz
        obtain ⟨q, hq⟩ : ∃ q, z2 i = q := ⟨_, rfl⟩
        rw [hq] at hy0
        clear hq
        go_upto_if 45 with fail
        go_cut [11, 45] (fun v _ wx => wr = wx ∧ ∃ y : Int, v = .int .i64 y ∧ 0 ≤ y ∧ y ≤ 9223372036854775807)
        case first =>
          rcases Int.lt_or_le z 0 with hn | hn
          · go_wp2_with fail
            go_meet
            exact ⟨rfl, _, rfl, by omega, by omega⟩
          · go_wp2_with fail
            go_meet
            exact ⟨rfl, _, rfl, by omega, by omega⟩
        case rest =>
        obtain ⟨rfl, y1, rfl, hy1, hy2⟩ := hcut
        go_upto_if 52 with fail
        go_cut [11, 52] (fun v _ wx => wr = wx ∧ ∃ y : Int, v = .int .i64 y ∧ (q = true → y ≤ 20000))
        case first =>
          cases q
          · go_wp2_with fail
            go_meet
            exact ⟨rfl, _, rfl, fun h => by cases h⟩
          · go_wp2_with fail
            go_meet
            exact ⟨rfl, _, rfl, fun h => by omega⟩
        case rest =>

        obtain ⟨rfl, y', rfl, hy'⟩ := hcut
        go_wp2_with fail
        refine (loc_mk B P (newL c) (newL c) _ _ _ (.agg #[.bool false, .bool false, .bool false]) (leaks_v y' y' y' q q q) (quietL c hB y' q hy') rfl HA.out (newL_ok c) _ (FS.out.below ((Below.refl _ _).alloc (Nat.le_refl _) _))).mono ?_
        rintro e w5 ⟨rfl, hS, ho⟩
        have G1 := Lib.hid hS
        have al := (Below.refl wr.heap.size wr).alloc (Nat.le_refl _) (.cells #[.int .i64 y', .bool q] 32)
        have G2 := Lib.hid (show Cfg w5 w2.heap.size c (.slice (some ⟨O, 0, none⟩) 4 4) (.slice fa fn fc) from ho.row (Cfg.below FC.out al hcl) NC.out.1 NC.out.2)
        have G3 := Lib.hid ((FB.out.trans (al.mono FB.out.size)).trans (ho.below NW.out.1 NW.out.2 (by simp; omega)))
        clear hS ho al FS FC FB c8
        go_wp2_with fail
        go_roundw
        case rel =>
          have al := (Below.refl w5.heap.size w5).alloc (Nat.le_refl _) (.cells #[.bool false, .bool false, .bool false] 43)
          exact ⟨i + 1, by omega, by go_num, G1.out.below al, Cfg.below G2.out al (Array.getElem?_eq_some_iff.1 G2.out).1, G3.out.trans (al.mono G3.out.size)⟩
        case measure => simp [intOf]; omega
      · obtain rfl : i = len1 := by omega
        go_wp2_with fail
        refine (numberC 0 1 (by omega) (by omega) _).mono ?_
        rintro e w' ⟨rfl, rfl⟩
        go_wp2_with fail
        go_ret
        exact ⟨rfl, FB.out⟩
  · by_cases h100 : 100 < len1
    · go_enter Try.func6, Try.ntmps6
      go_wp2_with fail
      refine (first24 _).mono ?_
      rintro e w1 ⟨rfl, hb⟩
      have B1 := Lib.hid hb
      clear hb
      go_wp2_with fail
      go_ret
      exact ⟨rfl, B1.out⟩
    · have h2 : len2 < len1 := by omega
      clear hl
      go_enter Try.func6, Try.ntmps6
      go_wp2_with fail
      refine (first24 _).mono ?_
      rintro e w1 ⟨rfl, hb⟩
      have B1 := Lib.hid hb
      clear hb
      go_wp2_with fail
      go_ret
      exact ⟨rfl, B1.out⟩
end Go.Proofs.Ytcphpaacgkfkbaa
