/- A table that rises, of numbers: what it is. Conditions: the numbers came in. -/
import Derived.Test.YtppomdpppidbaaaDoorTabL
import Derived.Test.YtppomdpppidbaaaDoorNumb
import Derived.Maps.AppendAt
import Derived.Deep.AppendLies
import Derived.Laws.Tables
import Derived.OwnWalk
import Derived.Laws.OwnMore
namespace Go.Proofs.YtppomdpppidbaaaDoor
open Go.RowKit
set_option linter.unusedVariables false
def mkX (zs : List Int) (f : Int) : Nat → Int
  | 0 => f.tmod 1000000
  | i + 1 => mkX zs f i + 1 + (zs.getD (2 * i) 0) % 5000
def mkY (zs : List Int) (f : Int) : Nat → Int
  | 0 => f.tmod 777
  | i + 1 => mkY zs f i + (zs.getD (2 * i + 1) 0) % 5000
def ptsL (zs : List Int) (f : Int) : Nat → List Value
  | 0 => []
  | i + 1 => ptsL zs f i ++ [.int .i64 (mkX zs f i), .int .i64 (mkY zs f i)]
theorem tmod_m (a : Int) (b : Int) (hb : 0 < b) : -b < a.tmod b ∧ a.tmod b < b := by
  have h1 := Int.tmod_lt_of_pos a hb
  have h2 := Int.tmod_lt_of_pos (-a) hb
  rw [Int.neg_tmod] at h2
  omega
theorem mk_step (zs : List Int) (f : Int) (i : Nat) : mkX zs f i < mkX zs f (i + 1) ∧ mkX zs f (i + 1) ≤ mkX zs f i + 5000 ∧ mkY zs f i ≤ mkY zs f (i + 1) ∧ mkY zs f (i + 1) ≤ mkY zs f i + 4999 := by
  have a1 := Int.emod_nonneg (zs.getD (2 * i) 0) (show (5000 : Int) ≠ 0 by omega)
  have a2 := Int.emod_lt_of_pos (zs.getD (2 * i) 0) (show (0 : Int) < 5000 by omega)
  have b1 := Int.emod_nonneg (zs.getD (2 * i + 1) 0) (show (5000 : Int) ≠ 0 by omega)
  have b2 := Int.emod_lt_of_pos (zs.getD (2 * i + 1) 0) (show (0 : Int) < 5000 by omega)
  simp only [mkX, mkY]
  omega
theorem mk_bound (zs : List Int) (f : Int) : ∀ (i : Nat), -1000000 < mkX zs f i ∧ mkX zs f i < 1000000 + 5000 * i ∧ -777 < mkY zs f i ∧ mkY zs f i < 777 + 5000 * i
  | 0 => by
    have a := tmod_m f 1000000 (by omega)
    have b := tmod_m f 777 (by omega)
    simp only [mkX, mkY]
    omega
  | i + 1 => by
    have h := mk_bound zs f i
    have s := mk_step zs f i
    omega
theorem mk_ok (zs : List Int) (f : Int) {n : Nat} (h1 : 2 ≤ n) (h2 : n ≤ 64) : TabOk n (mkX zs f) (mkY zs f) := by
  refine ⟨h1, h2, fun i h => ?_, fun i h => ?_, fun i h => ?_, fun i h => ?_⟩
  · have := mk_bound zs f i; omega
  · have := mk_bound zs f i; omega
  · exact (mk_step zs f i).1
  · exact (mk_step zs f i).2.2.1
theorem ptsL_len (zs : List Int) (f : Int) : ∀ (n : Nat), (ptsL zs f n).length = 2 * n
  | 0 => rfl
  | n + 1 => by simp [ptsL, ptsL_len zs f n]; omega
theorem ptsL_at (zs : List Int) (f : Int) : ∀ (n i : Nat), i < n → (ptsL zs f n)[2 * i]? = some (.int .i64 (mkX zs f i)) ∧ (ptsL zs f n)[2 * i + 1]? = some (.int .i64 (mkY zs f i))
  | 0, i, h => by omega
  | n + 1, i, h => by
    have hl := ptsL_len zs f n
    by_cases hi : i = n
    · subst hi
      unfold ptsL
      rw [List.getElem?_append_right (by omega), List.getElem?_append_right (by omega), hl]
      simp
    · have := ptsL_at zs f n i (by omega)
      unfold ptsL
      rw [List.getElem?_append_left (by omega), List.getElem?_append_left (by omega)]
      exact this
theorem pts_of_owns {w : World} {base n g cap : Nat} {t : TypeId} {zs : List Int} {f : Int} (h : w.ownsRow base t 2 (.slice (some ⟨g, 0, none⟩) n cap) n (ptsL zs f n)) : Pts w ⟨g, 0, none⟩ n (mkX zs f) (mkY zs f) := by
  obtain ⟨hl, ⟨h0, _⟩ | ⟨g', cap', cur, hv, hb, hh, h1, h2, h3, h4⟩⟩ := h
  · cases h0
  · cases hv
    intro i hi
    obtain ⟨e0, e1⟩ := ptsL_at zs f n i hi
    rw [← h4] at e0 e1
    rw [List.getElem?_take_of_lt (by omega)] at e0 e1
    have ea : (⟨g, 0, none⟩ : Addr).add (i * 2) = ⟨g, i * 2, none⟩ := by simp [Addr.add]; omega
    rw [ea]
    refine ⟨?_, ?_⟩
    · simp only [World.cell?, hh]
      rw [show i * 2 = 2 * i by omega]
      simpa using e0
    · simp only [World.cell?, hh]
      rw [show i * 2 + 1 = 2 * i + 1 by omega]
      simpa using e1
theorem pointI : (Tryd.prog.info? 24).map (fun i => (i.zero, i.size, i.bytes)) = some (some (.agg #[.int .i64 0, .int .i64 0]), 2, 16) := by kernel_rfl
set_option maxHeartbeats 4000000 in
theorem madeC (a : Option Addr) (len cap : Nat) (zs : List Int) (f : Int) (hf : -9223372036854775808 ≤ f ∧ f ≤ 9223372036854775807) (w : World) (hz : CameI .i64 w a len cap zs) :
    Calls Tryd.prog 11 #[.slice a len cap, .int .i64 f] w fun e w' => ∃ va n vc, e = .returned (.slice va n vc) ∧ n = min (len / 2) 64 ∧ w'.ownsRow w.heap.size 24 2 (.slice va n vc) n (ptsL zs f n) ∧ Below w.heap.size w w' := by
  obtain ⟨i0, hi0, hz0, hz1, hz2⟩ := info_parts pointI
  have hlen : len ≤ maxLen := by rcases hz with ⟨_, rfl, _⟩ | ⟨x, _, h1, h2, _⟩ <;> omega
  have HZ := Lib.hid hz
  clear hz
  have KN := Lib.hid fun (n : Int) (w : World) => numbC n 5000 (by omega) (by omega) w
  unfold maxLen at hlen
  have t6 := tmod_m f 1000000 (by omega)
  have t7 := tmod_m f 777 (by omega)
  obtain ⟨hf1, hf2⟩ := hf
  go_enter Tryd.func11, Tryd.ntmps11
  go_wp2_with fail
  go_loopw [5, 6, 7, 8] (fun s u v i wr => ∃ (k : Nat) (va : Option Addr) (vc : Nat), k ≤ 64 ∧ 2 * k ≤ len ∧ s = .slice va k vc ∧ u = .int .i64 (mkX zs f k) ∧ v = .int .i64 (mkY zs f k) ∧ i = .int .i64 ((2 * k : Nat) : Int) ∧ wr.ownsRow w.heap.size 24 2 (.slice va k vc) k (ptsL zs f k) ∧ Below w.heap.size w wr) (fun s u v i _ => 64 - (intOf i).toNat / 2)
  case atStart => exact ⟨0, none, 0, by omega, by omega, rfl, rfl, rfl, rfl, ⟨rfl, .inl ⟨rfl, rfl⟩⟩, Below.refl _ _⟩
  case round =>
    obtain ⟨k, va, vc, k1, k2, rfl, rfl, rfl, rfl, hown, hb⟩ := hrel
    have FW := Lib.hid hown
    have FB := Lib.hid hb
    clear hown hb
    have mb := mk_bound zs f k
    have ms := mk_step zs f k
    have ex : mkX zs f (k + 1) = mkX zs f k + 1 + (zs.getD (2 * k) 0) % 5000 := rfl
    have ey : mkY zs f (k + 1) = mkY zs f k + (zs.getD (2 * k + 1) 0) % 5000 := rfl
    have el : ptsL zs f (k + 1) = ptsL zs f k ++ [.int .i64 (mkX zs f k), .int .i64 (mkY zs f k)] := rfl
    have EL := Lib.hid el
    have EX := Lib.hid ex
    have EY := Lib.hid ey
    by_cases hl : 2 * k + 1 < len ∧ k < 64
    · obtain ⟨h1, h2⟩ := hl
      obtain ⟨x, rfl, c0⟩ := HZ.out.at (2 * k) (by omega)
      obtain ⟨x', hx', c1⟩ := HZ.out.at (2 * k + 1) (by omega)
      cases hx'
      have g1 : decide (((2 * k : Nat) : Int) + 1 < (len : Int)) = true := decide_eq_true (by omega)
      have g2 : decide ((k : Int) < 64) = true := decide_eq_true (by omega)
      have EA := Lib.hid (show x.add (2 * k + 1) = ⟨x.block, x.off + (2 * k + 1), none⟩ by unfold Addr.add; split <;> simp_all)
      have C0 := Lib.hid c0
      have C1 := Lib.hid c1
      clear c0 c1 el
      have bs := FB.out.size
      rw [ex, ey] at ms
      clear ex ey
      generalize mkX zs f k = X at *
      generalize mkY zs f k = Y at *
      generalize zs.getD (2 * k) 0 = n0 at *
      generalize zs.getD (2 * k + 1) 0 = n1 at *
      go_wp2_with (first
        | (at_builtin
           refine wpList_append_lies _ rfl _ _ 25 rfl w.heap.size 24 i0 (.agg #[.int .i64 0, .int .i64 0]) 2 16 Tryd.underlying25 hi0 hz0 hz1 hz2 rfl (by decide) (.slice va k vc) k (ptsL zs f k) rfl (FW.out.alloc _) ⟨wr.heap.size, 0, none⟩ 1 1 [.int .i64 X, .int .i64 Y] rfl ?hl (World.news_of_block (heap_alloc_new _ _)) ?h1 (by decide) (by unfold maxLen; omega) (by omega) (by simp; omega) _ rfl ?_
           case hl => rfl
           case h1 => simp [Value.oneCell']
           intro g vc3 w3 hown' hgrow hat hlt
           have G4 := Lib.hid hown'
           have G5 := Lib.hid ((FB.out.alloc FB.out.size _).grown hgrow (by simp; omega) (fun q hq => FW.out.lt q hq |>.1))
           have c0 := below_cell G5.out C0.out
           have c1 := below_cell G5.out C1.out
           rw [EA.out] at c1
           clear hown' hgrow hat))
      refine (KN.out n0 _).mono ?_
      rintro e w4 ⟨rfl, rfl⟩
      go_wp2_with fail
      refine (KN.out n1 _).mono ?_
      rintro e w4 ⟨rfl, rfl⟩
      go_wp2_with fail
      go_roundw
      case rel => exact ⟨k + 1, some ⟨g, 0, none⟩, vc3, by omega, by omega, rfl, by rw [EX.out], by rw [EY.out], by go_num, by rw [EL.out]; exact G4.out, G5.out⟩
      case measure => simp [intOf]; omega
    · have e2 : k = min (len / 2) 64 := by omega
      by_cases h1 : 2 * k + 1 < len
      · have g1 : decide (((2 * k : Nat) : Int) + 1 < (len : Int)) = true := decide_eq_true (by omega)
        have g2 : decide ((k : Int) < 64) = false := decide_eq_false (by omega)
        have E2 := Lib.hid e2
        clear ms ex ey el e2
        go_wp2_with fail
        go_returns
        exact ⟨va, k, vc, rfl, E2.out, FW.out, FB.out⟩
      · have g1 : decide (((2 * k : Nat) : Int) + 1 < (len : Int)) = false := decide_eq_false (by omega)
        have E2 := Lib.hid e2
        clear ms ex ey el e2
        go_wp2_with fail
        go_returns
        exact ⟨va, k, vc, rfl, E2.out, FW.out, FB.out⟩
end Go.Proofs.YtppomdpppidbaaaDoor
