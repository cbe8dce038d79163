/- DebounceRows holds: so many alike in a row, and the filter is as they are; one fewer, and it is as it was. Conditions: the arguments are numbers of 64 bits and a bool. -/
import Derived.Test.YtlmeelkoanijoaaRows
import Derived.WalkKit
import Derived.ProofKit
import Derived.Handy
import Derived.OpenShut
import Derived.Lib.Hide

import Derived.Below
import Derived.Deep.QuietTactic
import Derived.BigQuiet
import Derived.WalkSmall
namespace Go.Proofs.Ytlmeelkoanijoaa
open Go.RowKit
theorem ret_n {a b : Int} (h : a = b) : Ending.returned (.int .i64 a) = .returned (.int .i64 b) := by rw [h]
theorem ret_b {a b : Bool} (h : a = b) : Ending.returned (.bool a) = .returned (.bool b) := by rw [h]
/-- A filter at block B. -/
def Fl (w : World) (B : Nat) (n c : Int) (s : Bool) : Prop :=
  w.heap[B]? = some (.cells #[.int .i64 n, .int .i64 c, .bool s] 32 (0, 0))
theorem Fl.cells {w : World} {B : Nat} {n c : Int} {s : Bool} (h : Fl w B n c s) :
    w.cell? ⟨B, 0, none⟩ = some (.int .i64 n) ∧ w.cell? ⟨B, 1, none⟩ = some (.int .i64 c) ∧ w.cell? ⟨B, 2, none⟩ = some (.bool s) ∧ w.frozen? ⟨B, 1, none⟩ = false ∧ w.frozen? ⟨B, 2, none⟩ = false ∧ B < w.heap.size := by
  unfold Fl at h
  have hlt := (Array.getElem?_eq_some_iff.1 h).1
  refine ⟨?_, ?_, ?_, ?_, ?_, hlt⟩ <;> simp [World.cell?, World.frozen?, h]
theorem Fl.count {w : World} {B : Nat} {n c : Int} {s : Bool} (h : Fl w B n c s) (d : Int) : Fl (w.setCell ⟨B, 1, none⟩ (.int .i64 d)) B n d s := by
  unfold Fl at *
  simp [World.setCell, Array.getElem?_modify, h]
theorem Fl.state {w : World} {B : Nat} {n c : Int} {s : Bool} (h : Fl w B n c s) (t : Bool) : Fl (w.setCell ⟨B, 2, none⟩ (.bool t)) B n c t := by
  unfold Fl at *
  simp [World.setCell, Array.getElem?_modify, h]
theorem bset (B o : Nat) (w : World) (v : Value) : Below B w (w.setCell ⟨B, o, none⟩ v) := (Below.refl B w).setCell (p := ⟨B, o, none⟩) (Nat.le_refl B) v
theorem Fl.drewN {w : World} {B : Nat} {n c : Int} {s : Bool} (h : Fl w B n c s) (k : Nat) : Fl (w.drewN k) B n c s := h
theorem Fl.drew {w : World} {B : Nat} {n c : Int} {s : Bool} (h : Fl w B n c s) : Fl w.drew B n c s := h
theorem stateC (B : Nat) (n c : Int) (s : Bool) (w : World) (h : Fl w B n c s) :
    Calls Try.prog 11 #[.pointer (some ⟨B, 0, none⟩)] w fun e w' => e = .returned (.bool s) ∧ w = w' := by
  obtain ⟨h0, h1, h2, h3, h4, h5⟩ := h.cells
  clear h
  go_enter Try.func11, Try.ntmps11
  go_wp2
  go_ret
  exact ⟨rfl, rfl⟩
theorem forceC (B : Nat) (n c : Int) (s t : Bool) (w : World) (h : Fl w B n c s) :
    Calls Try.prog 9 #[.pointer (some ⟨B, 0, none⟩), .bool t] w fun e w' => e = .returned (.tuple #[]) ∧ Fl w' B n 0 t ∧ Below B w w' := by
  have H := Lib.hid h
  obtain ⟨h0, h1, h2, h3, h4, h5⟩ := h.cells
  clear h
  go_enter Try.func9, Try.ntmps9
  go_wp2
  go_end0
  exact ⟨rfl, (H.out.state t).count 0, (bset _ _ _ _).trans (bset _ _ _ _)⟩
theorem newC (n : Int) (w : World) (h1 : 1 ≤ n) (h2 : n ≤ 1000) :
    Calls Try.prog 8 #[.int .i64 n] w fun e w' => e = .returned (.pointer (some ⟨w.heap.size, 0, none⟩)) ∧ Fl w' w.heap.size n 0 false ∧ Below w.heap.size w w' := by
  go_enter Try.func8, Try.ntmps8
  go_wp2
  all_goals
    go_ret
    refine ⟨rfl, ?_, (Below.refl _ _).alloc (Nat.le_refl _) _⟩
    unfold Fl
    show (w.heap.push _)[w.heap.size]? = _
    simp
theorem stepSame (B : Nat) (n c : Int) (s : Bool) (w : World) (h : Fl w B n c s) :
    Calls Try.prog 10 #[.pointer (some ⟨B, 0, none⟩), .bool s] w fun e w' => e = .returned (.bool s) ∧ Fl w' B n 0 s ∧ Below B w w' := by
  have H := Lib.hid h
  obtain ⟨h0, h1, h2, h3, h4, h5⟩ := h.cells
  clear h
  have e : (s == s) = true := by simp
  go_enter Try.func10, Try.ntmps10
  go_wp2
  go_ret
  exact ⟨rfl, H.out.count 0, bset _ _ _ _⟩
theorem stepMore (B : Nat) (n c : Int) (s i : Bool) (hs : (i == s) = false) (hc : 0 ≤ c) (hn : c + 1 < n) (hn2 : n ≤ 1000) (w : World) (h : Fl w B n c s) :
    Calls Try.prog 10 #[.pointer (some ⟨B, 0, none⟩), .bool i] w fun e w' => e = .returned (.bool s) ∧ Fl w' B n (c + 1) s ∧ Below B w w' := by
  have H := Lib.hid h
  obtain ⟨h0, h1, h2, h3, h4, h5⟩ := h.cells
  clear h
  go_enter Try.func10, Try.ntmps10
  go_wp2
  go_quiet (fail)
  go_wp2
  go_ret
  exact ⟨rfl, H.out.count (c + 1), below_drewN (bset _ _ _ _) _⟩
theorem stepFlip (B : Nat) (n c : Int) (s i : Bool) (hs : (i == s) = false) (hc : 0 ≤ c) (hn : n ≤ c + 1) (hc2 : c ≤ 1000) (w : World) (h : Fl w B n c s) :
    Calls Try.prog 10 #[.pointer (some ⟨B, 0, none⟩), .bool i] w fun e w' => e = .returned (.bool i) ∧ Fl w' B n 0 i ∧ Below B w w' := by
  have H := Lib.hid h
  obtain ⟨h0, h1, h2, h3, h4, h5⟩ := h.cells
  clear h
  go_enter Try.func10, Try.ntmps10
  go_wp2
  go_quiet (fail)
  go_wp2_with fail
  refine (forceC B n (c + 1) s i _ ((H.out.count (c + 1)).drewN _)).mono ?_
  rintro e w1 ⟨rfl, H1, hb⟩
  have h6 := H1.cells.2.2.1
  have HH := Lib.hid H1
  clear H1
  go_wp2
  go_ret
  exact ⟨rfl, HH.out, (below_drewN (bset _ _ _ _) _).trans hb⟩
theorem numberB (n b : Int) (hb : 1 ≤ b) (hb2 : b ≤ 1000000) (w : World) :
    Calls Try.prog 7 #[.int .i64 n, .int .i64 b] w fun e w' => e = .returned (.int .i64 (n % b)) ∧ w = w' := by
  have t1 : -b < n.tmod b := by
    have := Int.tmod_lt_of_pos (-n) (show (0 : Int) < b by omega)
    rw [Int.neg_tmod] at this; omega
  have t2 : n.tmod b < b := Int.tmod_lt_of_pos n (by omega)
  have e0 : ((b : Int) == 0) = false := by rw [beq_eq_false_iff_ne]; omega
  go_enter Try.func7, Try.ntmps7
  go_wp2
  all_goals
    go_ret
    refine ⟨ret_n ?_, rfl⟩
    have q1 := Int.mul_tdiv_add_tmod n b
    first
      | (have k := Int.emod_emod_of_dvd n (Int.dvd_refl b)
         have : n % b = (n.tmod b + b) % b := by
           rw [Int.add_emod_right]
           conv => lhs; rw [← q1]
           rw [Int.add_comm, Int.add_mul_emod_self_left]
         rw [this, Int.emod_eq_of_lt (by omega) (by omega)])
      | (have : n % b = (n.tmod b) % b := by
           conv => lhs; rw [← q1]
           rw [Int.add_comm, Int.add_mul_emod_self_left]
         rw [this, Int.emod_eq_of_lt (by omega) (by omega)])
theorem first13 (w : World) : Calls Try.prog 6 #[] w fun e w' => e = .returned (.bool true) ∧ Below w.heap.size w w' := by
  go_enter Try.func6, Try.ntmps6
  go_wp2_with fail
  refine (newC 1 _ (by omega) (by omega)).mono ?_
  rintro e w1 ⟨rfl, H1, hb⟩
  have F1 := Lib.hid H1
  have B1 := Lib.hid hb
  clear H1 hb
  go_wp2_with fail
  refine (stepFlip _ 1 0 false true rfl (by omega) (by omega) (by omega) _ F1.out).mono ?_
  rintro e w2 ⟨rfl, H2, hb⟩
  have F2 := Lib.hid H2
  have B2 := Lib.hid hb
  clear H2 hb
  go_wp2_with fail
  refine (stateC _ 1 0 true _ F2.out).mono ?_
  rintro e w3 ⟨rfl, rfl⟩
  go_wp2
  go_ret
  exact ⟨rfl, B1.out.trans B2.out⟩
/-- Behind k cycles of the first row. -/
def Rows1 (t : Bool) (n B : Nat) (w : World) (k : Nat) (wr : World) : Prop :=
  Below w.heap.size w wr ∧ w.heap.size ≤ B ∧ Fl wr B ((n : Int) + 1) (if k < n + 1 then (k : Int) else 0) (if k < n + 1 then !t else t)
/-- Behind k cycles of the second row. -/
def Rows2 (t : Bool) (n m B : Nat) (w : World) (k : Nat) (wr : World) : Prop :=
  Below w.heap.size w wr ∧ w.heap.size ≤ B ∧ ∃ (c : Int) (s : Bool), Fl wr B ((n : Int) + 1) c s ∧ 0 ≤ c ∧ c ≤ n ∧ (m < n + 1 → s = !t ∧ c = k)
def SomeB (Q : World → Prop) (e : Ending) (w' : World) : Prop := ∃ v : Bool, e = .returned (.bool v) ∧ Q w'
theorem stepRow (t : Bool) (n B : Nat) (hn : n < 50) (w : World) (k : Nat) (wr : World) (h : Rows1 t n B w k wr) :
    Calls Try.prog 10 #[.pointer (some ⟨B, 0, none⟩), .bool t] wr (SomeB (Rows1 t n B w (k + 1))) := by
  obtain ⟨hb, hB, hf⟩ := h
  by_cases h1 : k < n
  · rw [if_pos (by omega), if_pos (by omega)] at hf
    refine (stepMore B _ _ _ t (by cases t <;> rfl) (by omega) (by omega) (by omega) wr hf).mono ?_
    rintro e w' ⟨rfl, hf', hb'⟩
    refine ⟨_, rfl, hb.trans (hb'.mono hB), hB, ?_⟩
    rw [if_pos (by omega), if_pos (by omega)]
    exact hf'
  by_cases h2 : k = n
  · subst h2
    rw [if_pos (by omega), if_pos (by omega)] at hf
    refine (stepFlip B _ _ _ t (by cases t <;> rfl) (by omega) (by omega) (by omega) wr hf).mono ?_
    rintro e w' ⟨rfl, hf', hb'⟩
    refine ⟨_, rfl, hb.trans (hb'.mono hB), hB, ?_⟩
    rw [if_neg (by omega), if_neg (by omega)]
    exact hf'
  · rw [if_neg (by omega), if_neg (by omega)] at hf
    refine (stepSame B _ _ t wr hf).mono ?_
    rintro e w' ⟨rfl, hf', hb'⟩
    refine ⟨_, rfl, hb.trans (hb'.mono hB), hB, ?_⟩
    rw [if_neg (by omega), if_neg (by omega)]
    exact hf'
theorem stepBack (t : Bool) (n m B : Nat) (hn : n < 50) (w : World) (wr : World) (h : Rows1 t n B w m wr) :
    Calls Try.prog 10 #[.pointer (some ⟨B, 0, none⟩), .bool (!t)] wr (SomeB (Rows2 t n m B w 0)) := by
  obtain ⟨hb, hB, hf⟩ := h
  by_cases h1 : m < n + 1
  · rw [if_pos h1, if_pos h1] at hf
    refine (stepSame B _ _ (!t) wr hf).mono ?_
    rintro e w' ⟨rfl, hf', hb'⟩
    exact ⟨_, rfl, hb.trans (hb'.mono hB), hB, 0, !t, hf', by omega, by omega, fun _ => ⟨rfl, rfl⟩⟩
  · rw [if_neg h1, if_neg h1] at hf
    by_cases h2 : n = 0
    · refine (stepFlip B _ _ _ (!t) (by cases t <;> rfl) (by omega) (by omega) (by omega) wr hf).mono ?_
      rintro e w' ⟨rfl, hf', hb'⟩
      exact ⟨_, rfl, hb.trans (hb'.mono hB), hB, 0, !t, hf', by omega, by omega, fun h => absurd h h1⟩
    · refine (stepMore B _ _ _ (!t) (by cases t <;> rfl) (by omega) (by omega) (by omega) wr hf).mono ?_
      rintro e w' ⟨rfl, hf', hb'⟩
      exact ⟨_, rfl, hb.trans (hb'.mono hB), hB, 0 + 1, t, hf', by omega, by omega, fun h => absurd h h1⟩
theorem stepTwo (t : Bool) (n m B : Nat) (hn : n < 50) (w : World) (k : Nat) (hk : k < n) (wr : World) (h : Rows2 t n m B w k wr) :
    Calls Try.prog 10 #[.pointer (some ⟨B, 0, none⟩), .bool t] wr (SomeB (Rows2 t n m B w (k + 1))) := by
  obtain ⟨hb, hB, c, s, hf, c0, c1, hm⟩ := h
  by_cases h1 : (t == s) = true
  · have e : t = s := by simpa using h1
    subst e
    refine (stepSame B _ _ t wr hf).mono ?_
    rintro e w' ⟨rfl, hf', hb'⟩
    refine ⟨_, rfl, hb.trans (hb'.mono hB), hB, 0, t, hf', by omega, by omega, fun h => ?_⟩
    have := (hm h).1
    cases t <;> cases this
  · have h1' : (t == s) = false := by simpa using h1
    by_cases h2 : c + 1 < (n : Int) + 1
    · refine (stepMore B _ _ _ t h1' c0 h2 (by omega) wr hf).mono ?_
      rintro e w' ⟨rfl, hf', hb'⟩
      exact ⟨_, rfl, hb.trans (hb'.mono hB), hB, c + 1, s, hf', by omega, by omega, fun h => ⟨(hm h).1, by have := (hm h).2; omega⟩⟩
    · refine (stepFlip B _ _ _ t h1' c0 (by omega) (by omega) wr hf).mono ?_
      rintro e w' ⟨rfl, hf', hb'⟩
      refine ⟨_, rfl, hb.trans (hb'.mono hB), hB, 0, t, hf', by omega, by omega, fun h => ?_⟩
      have := (hm h).2; omega
set_option maxRecDepth 100000 in
set_option maxHeartbeats 2000000 in
theorem rowsW (t : Bool) (a b : Int) (w : World) :
    Calls Try.prog 3 #[.int .i64 a, .int .i64 b, .bool t] w fun e w' => e = .returned (.bool true) ∧ Below w.heap.size w w' := by
  have hn1 := Int.emod_nonneg a (show (50 : Int) ≠ 0 by omega)
  have hn2 := Int.emod_lt_of_pos a (show (0 : Int) < 50 by omega)
  have hm1 := Int.emod_nonneg b (show (60 : Int) ≠ 0 by omega)
  have hm2 := Int.emod_lt_of_pos b (show (0 : Int) < 60 by omega)
  have N0 := Lib.hid fun (w : World) => numberB a 50 (by omega) (by omega) w
  have N1 := Lib.hid fun (w : World) => numberB b 60 (by omega) (by omega) w
  generalize a % 50 = n0 at *
  generalize b % 60 = m0 at *
  obtain ⟨n, rfl⟩ := Int.eq_ofNat_of_zero_le hn1
  obtain ⟨m, rfl⟩ := Int.eq_ofNat_of_zero_le hm1
  clear hn1 hm1
  go_enter Try.func3, Try.ntmps3
  go_wp2_with fail
  refine (first13 _).mono ?_
  rintro e w0 ⟨rfl, hb0⟩
  have T0 := Lib.hid hb0
  clear hb0
  go_wp2_with fail
  refine (N0.out _).mono ?_; rintro e w' ⟨rfl, rfl⟩; go_wp2_with fail
  refine (N1.out _).mono ?_; rintro e w' ⟨rfl, rfl⟩; go_wp2_with fail
  refine (newC ((n : Int) + 1) _ (by omega) (by omega)).mono ?_
  rintro e w1 ⟨rfl, H1, hb⟩
  have F1 := Lib.hid H1
  have T1 := Lib.hid (T0.out.trans (hb.mono T0.out.size))
  have SB := Lib.hid T0.out.size
  clear H1 hb T0
  generalize w0.heap.size = B at *
  go_wp2_with fail
  refine (forceC B _ _ _ (!t) _ F1.out).mono ?_
  rintro e w2 ⟨rfl, H2, hb⟩
  have R0 : Hid (Rows1 t n B w 0 w2) := Lib.hid ⟨T1.out.trans (hb.mono SB.out), SB.out, by rw [if_pos (by omega), if_pos (by omega)]; exact H2⟩
  clear H2 hb T1 F1 SB
  go_wp2_with fail
  go_loopw [9] (fun i wr => ∃ k : Nat, k ≤ m ∧ i = .int .i64 k ∧ Rows1 t n B w k wr) (fun i _ => m - (intOf i).toNat)
  case atStart => exact ⟨0, by omega, rfl, R0.out⟩
  case round =>
    obtain ⟨k, hk, rfl, hr⟩ := hrel
    have HR := Lib.hid hr
    clear hr R0
    by_cases hlt : k < m
    · go_wp2_with fail
      refine (stepRow t n B (by omega) w k _ HR.out).mono ?_
      rintro e w3 ⟨v, rfl, hr'⟩
      have HR' := Lib.hid hr'
      clear hr' HR
      go_wp2
      go_roundw
      case rel => exact ⟨k + 1, by omega, by go_num, HR'.out⟩
      case measure => simp [intOf]; omega
    · obtain rfl : k = m := by omega
      clear hlt hk
      by_cases hm : k < n + 1
      · have hf := HR.out.2.2
        rw [if_pos hm, if_pos hm] at hf
        have HF := Lib.hid hf
        clear hf
        go_wp2_with fail
        refine (stateC B _ _ _ _ HF.out).mono ?_
        rintro e w3 ⟨rfl, rfl⟩
        clear HF
        go_wp2_with fail
        refine (stepBack t n k B (by omega) w _ HR.out).mono ?_
        rintro e w4 ⟨v, rfl, hr'⟩
        have HQ := Lib.hid hr'
        clear hr' HR
        go_wp2_with fail
        go_loopw [11] (fun i wr => ∃ j : Nat, j ≤ n ∧ i = .int .i64 j ∧ Rows2 t n k B w j wr) (fun i _ => n - (intOf i).toNat)
        case atStart => exact ⟨0, by omega, rfl, HQ.out⟩
        case round =>
          obtain ⟨j, hj, rfl, hr⟩ := hrel
          have HS := Lib.hid hr
          clear hr HQ
          by_cases hlt : j < n
          · go_wp2_with fail
            refine (stepTwo t n k B (by omega) w j hlt _ HS.out).mono ?_
            rintro e w5 ⟨v', rfl, hr'⟩
            have HS' := Lib.hid hr'
            clear hr' HS
            go_wp2
            go_roundw
            case rel => exact ⟨j + 1, by omega, by go_num, HS'.out⟩
            case measure => simp [intOf]; omega
          · obtain rfl : j = n := by omega
            clear hlt hj
            obtain ⟨hb, _, c, s, hf, _, _, hs⟩ := HS.out
            have hs1 := (hs hm).1
            clear hs HS
            subst hs1
            have HF := Lib.hid hf
            have HB := Lib.hid hb
            clear hf hb
            cases t
            · go_wp2_with fail
              refine (stateC B _ _ _ _ HF.out).mono ?_
              rintro e w6 ⟨rfl, rfl⟩
              go_wp2
              go_ret
              exact ⟨ret_b (by simp; omega), HB.out⟩
            · go_wp2_with fail
              refine (stateC B _ _ _ _ HF.out).mono ?_
              rintro e w6 ⟨rfl, rfl⟩
              go_wp2
              go_ret
              exact ⟨ret_b (by simp; omega), HB.out⟩
      · have hf := HR.out.2.2
        rw [if_neg hm, if_neg hm] at hf
        have HF := Lib.hid hf
        clear hf
        go_wp2_with fail
        refine (stateC B _ _ _ _ HF.out).mono ?_
        rintro e w3 ⟨rfl, rfl⟩
        clear HF
        go_wp2_with fail
        refine (stepBack t n k B (by omega) w _ HR.out).mono ?_
        rintro e w4 ⟨v, rfl, hr'⟩
        have HQ := Lib.hid hr'
        clear hr' HR
        go_wp2_with fail
        go_loopw [11] (fun i wr => ∃ j : Nat, j ≤ n ∧ i = .int .i64 j ∧ Rows2 t n k B w j wr) (fun i _ => n - (intOf i).toNat)
        case atStart => exact ⟨0, by omega, rfl, HQ.out⟩
        case round =>
          obtain ⟨j, hj, rfl, hr⟩ := hrel
          have HS := Lib.hid hr
          clear hr HQ
          by_cases hlt : j < n
          · go_wp2_with fail
            refine (stepTwo t n k B (by omega) w j hlt _ HS.out).mono ?_
            rintro e w5 ⟨v', rfl, hr'⟩
            have HS' := Lib.hid hr'
            clear hr' HS
            go_wp2
            go_roundw
            case rel => exact ⟨j + 1, by omega, by go_num, HS'.out⟩
            case measure => simp [intOf]; omega
          · obtain rfl : j = n := by omega
            clear hlt hj
            have HB := Lib.hid HS.out.1
            clear HS
            cases t <;> go_wp2
            all_goals (go_ret; exact ⟨rfl, HB.out⟩)
theorem walkDebounceRows (a b : Int) (t : Bool) (_w0 : (Lit.int .i64 a).wf = true) (_w1 : (Lit.int .i64 b).wf = true) (w : World) :
    Calls Try.prog 3 #[.int .i64 a, .int .i64 b, .bool t] w fun e w' => e = .returned (.bool true) ∧ Below w.heap.size w w' := rowsW t a b w
end Go.Proofs.Ytlmeelkoanijoaa
