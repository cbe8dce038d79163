/- CrcRows holds: each call returns true. Conditions: the arguments are numbers of their kinds and slices of bytes. -/
import Derived.Test.YtbgjfcnaiahehabCrcC
import Derived.Test.YtbgjfcnaiahehabLex
import Derived.StillTail
import Derived.StillTactics
import Derived.Laws.MakeOwn
namespace Go.Proofs.Ytbgjfcnaiahehab
open Go.RowKit
set_option linter.unusedVariables false
/-- A row of n bytes of the call's own, at block C. -/
def Own (w : World) (C n : Nat) (X : Nat → BitVec 8) : Prop := ∃ arr t, w.heap[C]? = some (.cells arr t (0, 0)) ∧ arr.size = n ∧ ∀ j, j < n → arr[j]? = some (.int .u8 (u8v (X j)))
theorem Own.cell {w : World} {C n : Nat} {X : Nat → BitVec 8} (h : Own w C n X) (j : Nat) (hj : j < n) : w.cell? ⟨C, j, none⟩ = some (.int .u8 (u8v (X j))) ∧ w.frozen? ⟨C, j, none⟩ = false := by
  obtain ⟨arr, t, h1, h2, h3⟩ := h
  exact ⟨by simp [World.cell?, h1, h3 j hj], by simp [World.frozen?, h1]⟩
theorem Own.lt {w : World} {C n : Nat} {X : Nat → BitVec 8} (h : Own w C n X) : C < w.heap.size := by
  obtain ⟨arr, t, h1, _⟩ := h
  exact (Array.getElem?_eq_some_iff.1 h1).1
theorem Own.set {w : World} {C n : Nat} {X : Nat → BitVec 8} (h : Own w C n X) (i : Nat) (hi : i < n) (v : BitVec 8) (Y : Nat → BitVec 8) (hY : ∀ j, j < n → Y j = if j = i then v else X j) :
    Own (w.setCell ⟨C, i, none⟩ (.int .u8 (u8v v))) C n Y := by
  obtain ⟨arr, t, h1, h2, h3⟩ := h
  refine ⟨arr.setIfInBounds i (.int .u8 (u8v v)), t, by simp [World.setCell, Array.getElem?_modify, h1], by simp [h2], fun j hj => ?_⟩
  rw [Array.getElem?_setIfInBounds, hY j hj]
  by_cases hji : i = j
  · subst hji; simp [h2, hi]
  · rw [if_neg hji, if_neg (fun e => hji e.symm)]; exact h3 j hj
theorem Own.drew {w : World} {C n : Nat} {X : Nat → BitVec 8} (h : Own w C n X) : Own w.drew C n X := h
theorem Own.row {w : World} {C n : Nat} {X : Nat → BitVec 8} (h : Own w C n X) : Row8 w (some ⟨C, 0, none⟩) n X := by
  intro i hi
  refine ⟨_, rfl, ?_⟩
  have e : (⟨C, 0, none⟩ : Addr).add i = ⟨C, i, none⟩ := by simp [Addr.add]; exact fun h => h.symm
  rw [e]
  exact (h.cell i hi).1
theorem own_made (w : World) (n : Nat) (e : TypeId) (X : Nat → BitVec 8) (hX : ∀ j, j < n → X j = 0) : Own (w.alloc (.cells (madeCells #[.int .u8 0] n) e)) w.heap.size n X := by
  refine ⟨madeCells #[.int .u8 0] n, e, by show (w.heap.push _)[w.heap.size]? = _; simp, size_madeCells _ _, fun j hj => ?_⟩
  rw [hX j hj]
  simp [madeCells, hj, Nat.mod_one]
  rfl
theorem Row8.take {w : World} {a : Option Addr} {len : Nat} {Z : Nat → BitVec 8} (h : Row8 w a len Z) (k : Nat) (hk : k ≤ len) : Row8 w a k Z := fun i hi => h i (by omega)
set_option maxRecDepth 100000 in
set_option maxHeartbeats 8000000 in
theorem walkCrcRows (a0 : Int) (a1 : Option Addr) (len1 cap1 : Nat) (z1 : List Int) (a2 : Option Addr) (len2 cap2 : Nat) (z2 : List Int) (w : World) (w0 : (Lit.int .u16 a0).wf = true) (w1 : CameI .u8 w a1 len1 cap1 z1) (w2 : CameI .u8 w a2 len2 cap2 z2) :
    Calls Try.prog 4 #[.int .u16 a0, .slice a1 len1 cap1, .slice a2 len2 cap2] w fun e w' => e = .returned (.bool true) ∧ Below w.heap.size w w' := by
  obtain ⟨s, rfl⟩ : ∃ s, a0 = u16v s := ⟨_, (u16_back _ w0).symm⟩
  have HX := Lib.hid (Row8.of_came w1)
  have HY := Lib.hid (Row8.of_came w2)
  generalize (fun i => BitVec.ofInt 8 (z1.getD i 0)) = X at HX
  generalize (fun i => BitVec.ofInt 8 (z2.getD i 0)) = Y at HY
  clear w0
  by_cases h1 : 100 < len1
  · go_enter Try.func4, Try.ntmps4
    go_wp2_with fail
    refine (first5 _).mono ?_
    rintro e w' ⟨rfl, rfl⟩
    go_wp2_with fail
    go_ret
    exact ⟨rfl, Below.refl _ _⟩
  by_cases h2 : len2 < len1
  · go_enter Try.func4, Try.ntmps4
    go_wp2_with fail
    refine (first5 _).mono ?_
    rintro e w' ⟨rfl, rfl⟩
    go_wp2_with fail
    go_ret
    exact ⟨rfl, Below.refl _ _⟩
  have hc2 : len2 ≤ cap2 := by
    rcases w2 with ⟨_, rfl, rfl, _⟩ | ⟨q, _, h, _⟩
    · exact Nat.le_refl _
    · exact h
  have HS := Lib.hid (show a2 = none → len1 = 0 ∧ len2 = 0 ∧ cap2 = 0 by
    intro e
    rcases w2 with ⟨_, rfl, rfl, _⟩ | ⟨q, rfl, h, _⟩
    · exact ⟨by omega, rfl, rfl⟩
    · cases e)
  clear w1 w2
  have ix : (Instr.makeSlice 23 (.int .i64 (len1 : Int)) (.int .i64 (len1 : Int))).run Try.prog w = .ok (.slice (some ⟨w.heap.size, 0, none⟩) len1 len1) (w.alloc (.cells (madeCells #[.int .u8 0] len1) 5)) := by
    obtain ⟨i, hi, hz, hs, hb⟩ : ∃ i, Try.prog.info? 5 = some i ∧ i.zero = some (.int .u8 0) ∧ i.size = 1 ∧ i.bytes = 1 := by
      have hm : (Try.prog.info? 5).map (fun i => (i.zero, i.size, i.bytes)) = some (some (.int .u8 0), 1, 1) := by kernel_rfl
      cases h : Try.prog.info? 5 with
      | none => rw [h] at hm; cases hm
      | some i =>
        rw [h] at hm
        simp only [Option.map_some, Option.some.injEq, Prod.mk.injEq] at hm
        exact ⟨i, rfl, hm.1, hm.2.1, hm.2.2⟩
    have := run_makeSlice (P := Try.prog) (w := w) 23 5 i _ Try.underlying23 hi hz .i64 .i64 (len1 : Int) (len1 : Int) (by omega) (Int.le_refl _) (by rw [hs]; omega) (by rw [hb]; omega) (by omega)
    rw [hs] at this
    simp only [Int.toNat_natCast, Nat.mul_one] at this
    exact this
  have OW := Lib.hid (own_made w len1 5 (fun j => if j < 0 then X j ^^^ Y j else 0) (fun j _ => by simp))
  have TB := Lib.hid ((Below.refl w.heap.size w).alloc (Nat.le_refl _) (.cells (madeCells #[.int .u8 0] len1) 5))
  go_enter Try.func4, Try.ntmps4
  go_wp2_with fail
  refine (first5 _).mono ?_
  rintro e w' ⟨rfl, rfl⟩
  go_wp2_with fail
  clear ix
  generalize w.alloc (.cells (madeCells #[.int .u8 0] len1) 5) = W0 at OW TB ⊢
  obtain ⟨C, hC⟩ : ∃ C, w.heap.size = C := ⟨_, rfl⟩
  rw [hC] at OW ⊢
  have HC := Lib.hid hC
  clear hC
  go_loopw [8, 10] (fun v c wr => ∃ i : Nat, i ≤ len1 ∧ c = .int .i64 i ∧ v = .int .u16 (u16v (crcN s X i)) ∧ Own wr C len1 (fun j => if j < i then X j ^^^ Y j else 0) ∧ Below w.heap.size w wr) (fun _ c _ => len1 - (intOf c).toNat)
  case atStart => exact ⟨0, by omega, rfl, rfl, OW.out, TB.out⟩
  case round =>
    obtain ⟨i, hi, rfl, rfl, ho, hb⟩ := hrel
    clear OW TB
    have O := Lib.hid ho
    have T := Lib.hid hb
    clear ho hb
    by_cases hlt : i < len1
    · obtain ⟨p, rfl, c1⟩ := HX.out i hlt
      obtain ⟨q, rfl, c2⟩ := HY.out i (by omega)
      have c1' := below_cell T.out c1
      have HR : Hid (crcB (crcN s X i) (X i) = (crcN s X i <<< 8) ^^^ rowB (hi8 (crcN s X i) ^^^ X i)) := Lib.hid (crc_row (crcN s X i) (X i))
      have HN := Lib.hid (show crcN s X (i + 1) = crcB (crcN s X i) (X i) from rfl)
      obtain ⟨t, ht⟩ : ∃ t, t = crcN s X i := ⟨_, rfl⟩
      rw [← ht] at HR HN ⊢
      clear ht
      have e1 := u16_sh8 t
      have e2 := u16_hi t
      have e3 := u8_xor (hi8 t) (X i)
      have e4 := u16_xor (t <<< 8) (rowB (hi8 t ^^^ X i))
      have e6 := u8_xor (X i) (Y i)
      have D1 := Lib.hid (below_cell T.out.drew c1)
      have D2 := Lib.hid (below_cell T.out.drew c2)
      have d3 := (O.out.drew.cell i hlt).1
      have d4 := (O.out.drew.cell i hlt).2
      have O2 := Lib.hid (O.out.drew.set i hlt (X i ^^^ Y i) (fun j => if j < i + 1 then X j ^^^ Y j else 0) (fun j hj => by
        by_cases h : j = i
        · subst h; simp
        · rw [if_neg h]
          by_cases h' : j < i
          · rw [if_pos h', if_pos (by omega)]
          · rw [if_neg h', if_neg (by omega)]))
      have T2 := Lib.hid (T.out.drew.setCell (p := ⟨C, i, none⟩) (by rw [HC.out]; exact Nat.le_refl _) (.int .u8 (u8v (X i ^^^ Y i))))
      clear c1 c2
      go_wp2_with fail
      refine (rowC (hi8 t ^^^ X i) _).mono ?_
      rintro e w' ⟨rfl, rfl⟩
      have d1 := D1.out
      have d2 := D2.out
      have hq : (i : Int) < (len2 : Int) := by omega
      clear c1'
      go_wp2_with fail
      refine wp_region_still_tail 12 (by kernel_rfl) (by kernel_rfl) ?_
      change wpStill _ _ (World.drew _) (fun a' => wpList _ _ _ _ a' (World.drew _)) _ _
      simp only [List.take_succ_cons, List.take_zero, List.drop_succ_cons, List.drop_zero]
      repeat still_step
      refine wpStill_nil ?_
      go_wp2_with fail
      go_roundw
      case rel => exact ⟨i + 1, by omega, by go_num, by rw [HN.out, HR.out], O2.out, T2.out⟩
      case measure => simp [intOf]; omega
    · obtain rfl : i = len1 := by omega
      have hB : wr.heap.size ≤ wr.heap.size := Nat.le_refl _
      have RX := Lib.hid fun d => (HX.out.below T.out).below (reach_below wr.heap.size wr d)
      have RY := Lib.hid fun d => ((HY.out.take i (by omega)).below T.out).below (reach_below wr.heap.size wr d)
      have RO := Lib.hid fun d => O.out.row.below (reach_below wr.heap.size wr d)
      have K1 := Lib.hid fun d => moreC s a1 i cap1 X (by omega) _ (RX.out d)
      have K2 : Hid (∀ d, Calls Try.prog 11 #[.int .u16 0, .slice (some ⟨C, 0, none⟩) i i] (reach wr.heap.size wr d) fun e w' => e = .returned (.int .u16 (u16v (crcN z16 (fun j => if j < i then X j ^^^ Y j else 0) i))) ∧ reach wr.heap.size wr d = w') := Lib.hid fun d => moreC z16 _ i i _ (by omega) _ (RO.out d)
      have K3 : Hid (∀ d, Calls Try.prog 11 #[.int .u16 0, .slice a1 i cap1] (reach wr.heap.size wr d) fun e w' => e = .returned (.int .u16 (u16v (crcN z16 X i))) ∧ reach wr.heap.size wr d = w') := Lib.hid fun d => moreC z16 _ i cap1 _ (by omega) _ (RX.out d)
      have K4 : Hid (∀ d, Calls Try.prog 11 #[.int .u16 0, .slice a2 i cap2] (reach wr.heap.size wr d) fun e w' => e = .returned (.int .u16 (u16v (crcN z16 Y i))) ∧ reach wr.heap.size wr d = w') := Lib.hid fun d => moreC z16 _ i cap2 _ (by omega) _ (RY.out d)
      have K5 : Hid (∀ d, Calls Try.prog 13 #[.int .u8 0] (reach wr.heap.size wr d) fun e w' => e = .returned (.int .u16 0) ∧ reach wr.heap.size wr d = w') := Lib.hid fun d => by
        have := rowC 0 (reach wr.heap.size wr d)
        rwa [show u16v (rowB 0) = 0 by decide] at this
      have q1 : (u16v (crcN s X i) == u16v (crcN s X i)) = true := by simp
      have q2 := u16_xor (crcN z16 X i) (crcN z16 Y i)
      have q3 : (u16v (crcN z16 (fun j => if j < i then X j ^^^ Y j else 0) i) == u16v (crcN z16 X i ^^^ crcN z16 Y i)) = true := by
        rw [crcN_congr z16 (fun j => if j < i then X j ^^^ Y j else 0) (fun j => X j ^^^ Y j) i (fun j hj => if_pos hj)]
        have := crcN_xor z16 z16 X Y i
        rw [show z16 ^^^ z16 = z16 from rfl] at this
        rw [this]; simp
      generalize crcN z16 (fun j => if j < i then X j ^^^ Y j else 0) i = g1 at *
      generalize crcN z16 X i = g2 at *
      generalize crcN z16 Y i = g3 at *
      generalize crcN s X i = g4 at *
      clear RX RY RO
      cases a2 with
      | none =>
        obtain ⟨z0, z1', z2'⟩ := HS.out rfl
        subst z0 z1' z2'
        go_wp2_with fail
        refine wp_region_light wr.heap.size (by kernel_rfl) (by kernel_rfl) (by kernel_rfl) ?_
        repeat (go_big_quiet_step ((first | (go_at_call 11; with_reducible exact reach_call0 (K1.out _)) | (go_at_call 11; with_reducible exact reach_call0 (K2.out _)) | (go_at_call 11; with_reducible exact reach_call0 (K3.out _)) | (go_at_call 11; with_reducible exact reach_call0 (K4.out _)) | (go_at_call 13; with_reducible exact reach_call0 (K5.out _)))))
        refine wpQuiet_nil ?_
        rintro w' ⟨d, rfl⟩
        go_wp2
        go_ret
        exact ⟨rfl, T.out.trans ((reach_below _ _ d).mono T.out.size)⟩
      | some q =>
        have hq : (i : Int) ≤ (len2 : Int) := by omega
        have hq2 : (i : Int) ≤ (cap2 : Int) := by omega
        go_wp2_with fail
        refine wp_region_light wr.heap.size (by kernel_rfl) (by kernel_rfl) (by kernel_rfl) ?_
        repeat (go_big_quiet_step ((first | (go_at_call 11; with_reducible exact reach_call0 (K1.out _)) | (go_at_call 11; with_reducible exact reach_call0 (K2.out _)) | (go_at_call 11; with_reducible exact reach_call0 (K3.out _)) | (go_at_call 11; with_reducible exact reach_call0 (K4.out _)) | (go_at_call 13; with_reducible exact reach_call0 (K5.out _)))))
        refine wpQuiet_nil ?_
        rintro w' ⟨d, rfl⟩
        go_wp2
        go_ret
        exact ⟨rfl, T.out.trans ((reach_below _ _ d).mono T.out.size)⟩
end Go.Proofs.Ytbgjfcnaiahehab
