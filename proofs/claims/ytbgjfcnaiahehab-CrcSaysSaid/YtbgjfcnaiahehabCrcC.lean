/- What the sums' functions answer, by plain definitions. Conditions: a stream's bytes lie where its slice points. -/
import Derived.Test.YtbgjfcnaiahehabCrcD
import Derived.Test.YtbgjfcnaiahehabCame
namespace Go.Proofs.Ytbgjfcnaiahehab
open Go.RowKit
theorem ret_u {a b : Int} (h : a = b) : Ending.returned (.int .u16 a) = .returned (.int .u16 b) := by rw [h]
theorem ret_fn {a b : Int} (h : a = b) : Ending.returned (.int .i64 a) = .returned (.int .i64 b) := by rw [h]
theorem numberB (n b : Int) (hb : 1 ≤ b) (hb2 : b ≤ 1000000) (w : World) :
    Calls Try.prog 8 #[.int .i64 n, .int .i64 b] w fun e w' => e = .returned (.int .i64 (n % b)) ∧ w = w' := by
  have t1 : -b < n.tmod b := by
    have := Int.tmod_lt_of_pos (-n) (show (0 : Int) < b by omega)
    rw [Int.neg_tmod] at this; omega
  have t2 : n.tmod b < b := Int.tmod_lt_of_pos n (by omega)
  have e0 : ((b : Int) == 0) = false := by rw [beq_eq_false_iff_ne]; omega
  go_enter Try.func8, Try.ntmps8
  go_wp2
  all_goals
    go_ret
    refine ⟨ret_fn ?_, rfl⟩
    have q1 := Int.mul_tdiv_add_tmod n b
    first
      | (have : n % b = (n.tmod b + b) % b := by
           rw [Int.add_emod_right]
           conv => lhs; rw [← q1]
           rw [Int.add_comm, Int.add_mul_emod_self_left]
         rw [this, Int.emod_eq_of_lt (by omega) (by omega)])
      | (have : n % b = (n.tmod b) % b := by
           conv => lhs; rw [← q1]
           rw [Int.add_comm, Int.add_mul_emod_self_left]
         rw [this, Int.emod_eq_of_lt (by omega) (by omega)])
theorem rnd_yes (t : BitVec 16) (h : top t = true) : rnd t = (t <<< 1) ^^^ turn := by unfold rnd; rw [h]; rfl
theorem rnd_no (t : BitVec 16) (h : top t = false) : rnd t = t <<< 1 := by unfold rnd; rw [h]; rfl
set_option maxRecDepth 100000 in
set_option maxHeartbeats 4000000 in
theorem oneC (s : BitVec 16) (x : BitVec 8) (w : World) :
    Calls Try.prog 14 #[.int .u16 (u16v s), .int .u8 (u8v x)] w fun e w' => e = .returned (.int .u16 (u16v (crcB s x))) ∧ w = w' := by
  have e1 := u8_up x
  have e2 := u16_xor s (up8 x)
  go_enter Try.func14, Try.ntmps14
  go_wp2_with fail
  clear e1 e2
  go_loopw [0, 11] (fun v c wr => ∃ k : Nat, k ≤ 8 ∧ c = .int .i64 k ∧ v = .int .u16 (u16v (rnds k (s ^^^ up8 x))) ∧ w = wr) (fun _ c _ => 8 - (intOf c).toNat)
  case atStart => exact ⟨0, by omega, rfl, rfl, rfl⟩
  case round =>
    obtain ⟨k, hk, rfl, rfl, rfl⟩ := hrel
    by_cases h8 : k = 8
    · subst h8
      go_wp2_with fail
      go_ret
      exact ⟨rfl, rfl⟩
    · have HR := Lib.hid (show rnds (k + 1) (s ^^^ up8 x) = rnd (rnds k (s ^^^ up8 x)) from rfl)
      obtain ⟨t, ht⟩ : ∃ t, t = rnds k (s ^^^ up8 x) := ⟨_, rfl⟩
      rw [← ht] at HR ⊢
      clear ht
      have e3 := u16_top t
      have e4 := u16_dbl t
      have e5 := u16_turn (t <<< 1)
      cases hb : top t
      · rw [hb] at e3
        have HE := Lib.hid (HR.out.trans (rnd_no t hb))
        clear hb
        go_wp2_with fail
        go_roundw
        case rel => exact ⟨k + 1, by omega, by go_num, by rw [HE.out], trivial⟩
        case measure => simp [intOf]; omega
      · rw [hb] at e3
        have HE := Lib.hid (HR.out.trans (rnd_yes t hb))
        clear hb
        go_wp2_with fail
        go_roundw
        case rel => exact ⟨k + 1, by omega, by go_num, by rw [HE.out], trivial⟩
        case measure => simp [intOf]; omega
/-- What a byte alone makes of nothing. -/
def rowB (x : BitVec 8) : BitVec 16 := crcB 0 x
def z16 : BitVec 16 := 0
theorem rowC (x : BitVec 8) (w : World) :
    Calls Try.prog 13 #[.int .u8 (u8v x)] w fun e w' => e = .returned (.int .u16 (u16v (rowB x))) ∧ w = w' := by
  go_enter Try.func13, Try.ntmps13
  go_wp2_with fail
  refine (oneC 0 x _).mono ?_
  rintro e w' ⟨rfl, rfl⟩
  go_wp2_with fail
  go_ret
  exact ⟨rfl, rfl⟩
/-- Bytes lie where a slice points. -/
def Row8 (w : World) (a : Option Addr) (len : Nat) (Z : Nat → BitVec 8) : Prop := ∀ i, i < len → ∃ x, a = some x ∧ w.cell? (x.add i) = some (.int .u8 (u8v (Z i)))
theorem Row8.below {w w' : World} {a : Option Addr} {len : Nat} {Z : Nat → BitVec 8} (h : Row8 w a len Z) (hb : Below w.heap.size w w') : Row8 w' a len Z := by
  intro i hi
  obtain ⟨x, ha, hc⟩ := h i hi
  exact ⟨x, ha, below_cell hb hc⟩
theorem Row8.of_came {w : World} {a : Option Addr} {len cap : Nat} {zs : List Int} (h : CameI .u8 w a len cap zs) : Row8 w a len fun i => BitVec.ofInt 8 (zs.getD i 0) := by
  intro i hi
  rcases h with ⟨_, rfl, _⟩ | ⟨x, rfl, h1, _, h3, h4, h5⟩
  · omega
  · refine ⟨x, rfl, ?_⟩
    rw [u8_back _ (by
      have hl : i < zs.length := by omega
      rw [List.getD_eq_getElem?_getD, List.getElem?_eq_getElem hl]
      exact h5 _ (List.getElem_mem hl))]
    exact h4 i (by omega)
set_option maxRecDepth 100000 in
set_option maxHeartbeats 4000000 in
theorem moreC (s : BitVec 16) (a : Option Addr) (len cap : Nat) (Z : Nat → BitVec 8) (hl : len ≤ 100000) (w : World) (h : Row8 w a len Z) :
    Calls Try.prog 11 #[.int .u16 (u16v s), .slice a len cap] w fun e w' => e = .returned (.int .u16 (u16v (crcN s Z len))) ∧ w = w' := by
  have HZ := Lib.hid h
  clear h
  go_enter Try.func11, Try.ntmps11
  go_wp2_with fail
  go_loopw [0, 9] (fun v c wr => ∃ k : Nat, k ≤ len ∧ c = .int .i64 k ∧ v = .int .u16 (u16v (crcN s Z k)) ∧ w = wr) (fun _ c _ => len - (intOf c).toNat)
  case atStart => exact ⟨0, by omega, rfl, rfl, rfl⟩
  case round =>
    obtain ⟨k, hk, rfl, rfl, rfl⟩ := hrel
    by_cases hlt : k < len
    · obtain ⟨x, rfl, c⟩ := HZ.out k hlt
      go_wp2_with fail
      refine (oneC _ (Z k) _).mono ?_
      rintro e w' ⟨rfl, rfl⟩
      go_wp2_with fail
      go_roundw
      case rel => exact ⟨k + 1, by omega, by go_num, rfl, trivial⟩
      case measure => simp [intOf]; omega
    · obtain rfl : k = len := by omega
      go_wp2_with fail
      go_ret
      exact ⟨rfl, rfl⟩
theorem sumC (a : Option Addr) (len cap : Nat) (Z : Nat → BitVec 8) (hl : len ≤ 100000) (w : World) (h : Row8 w a len Z) :
    Calls Try.prog 9 #[.slice a len cap] w fun e w' => e = .returned (.int .u16 (u16v (crcN 65535 Z len))) ∧ w = w' := by
  have HZ := Lib.hid h
  clear h
  go_enter Try.func9, Try.ntmps9
  go_wp2_with fail
  refine (moreC 65535 a len cap Z hl _ HZ.out).mono ?_
  rintro e w' ⟨rfl, rfl⟩
  go_wp2_with fail
  go_ret
  exact ⟨rfl, rfl⟩
set_option maxRecDepth 100000 in
set_option maxHeartbeats 4000000 in
theorem moreR (s : BitVec 16) (a : Option Addr) (len cap : Nat) (Z : Nat → BitVec 8) (hl : len ≤ 100000) (w : World) (h : Row8 w a len Z) :
    Calls Try.prog 12 #[.int .u16 (u16v s), .slice a len cap] w fun e w' => e = .returned (.int .u16 (u16v (crcN s Z len))) ∧ w = w' := by
  have HZ := Lib.hid h
  clear h
  go_enter Try.func12, Try.ntmps12
  go_wp2_with fail
  go_loopw [0, 5] (fun v c wr => ∃ k : Nat, k ≤ len ∧ c = .int .i64 k ∧ v = .int .u16 (u16v (crcN s Z k)) ∧ w = wr) (fun _ c _ => len - (intOf c).toNat)
  case atStart => exact ⟨0, by omega, rfl, rfl, rfl⟩
  case round =>
    obtain ⟨i, hi, rfl, rfl, rfl⟩ := hrel
    by_cases hlt : i < len
    · obtain ⟨x, rfl, c⟩ := HZ.out i hlt
      have e1 := u8_up (Z i)
      have e2 := u16_xor (crcN s Z i) (up8 (Z i))
      go_wp2_with fail
      clear e1 e2
      go_loopw [0, 6] (fun v c wr => ∃ k : Nat, k ≤ 8 ∧ c = .int .i64 k ∧ v = .int .u16 (u16v (rnds k (crcN s Z i ^^^ up8 (Z i)))) ∧ w = wr) (fun _ c _ => 8 - (intOf c).toNat)
      case atStart => exact ⟨0, by omega, rfl, rfl, rfl⟩
      case round =>
        obtain ⟨k, hk, rfl, rfl, rfl⟩ := hrel
        by_cases h8 : k = 8
        · subst h8
          go_wp2_with fail
          go_roundw
          case rel => exact ⟨i + 1, by omega, by go_num, rfl, trivial⟩
          case measure => simp [intOf]; omega
        · have HR := Lib.hid (show rnds (k + 1) (crcN s Z i ^^^ up8 (Z i)) = rnd (rnds k (crcN s Z i ^^^ up8 (Z i))) from rfl)
          obtain ⟨t, ht⟩ : ∃ t, t = rnds k (crcN s Z i ^^^ up8 (Z i)) := ⟨_, rfl⟩
          rw [← ht] at HR ⊢
          clear ht
          have e3 := u16_top t
          have e4 := u16_dbl t
          have e5 := u16_turn (t <<< 1)
          cases hb : top t
          · rw [hb] at e3
            have HE := Lib.hid (HR.out.trans (rnd_no t hb))
            clear hb
            go_wp2_with fail
            go_roundw
            case rel => exact ⟨k + 1, by omega, by go_num, by rw [HE.out], trivial⟩
            case measure => simp [intOf]; omega
          · rw [hb] at e3
            have HE := Lib.hid (HR.out.trans (rnd_yes t hb))
            clear hb
            go_wp2_with fail
            go_roundw
            case rel => exact ⟨k + 1, by omega, by go_num, by rw [HE.out], trivial⟩
            case measure => simp [intOf]; omega
    · obtain rfl : i = len := by omega
      go_wp2_with fail
      go_ret
      exact ⟨rfl, rfl⟩
theorem sumR (a : Option Addr) (len cap : Nat) (Z : Nat → BitVec 8) (hl : len ≤ 100000) (w : World) (h : Row8 w a len Z) :
    Calls Try.prog 10 #[.slice a len cap] w fun e w' => e = .returned (.int .u16 (u16v (crcN 65535 Z len))) ∧ w = w' := by
  have HZ := Lib.hid h
  clear h
  go_enter Try.func10, Try.ntmps10
  go_wp2_with fail
  refine (moreR 65535 a len cap Z hl _ HZ.out).mono ?_
  rintro e w' ⟨rfl, rfl⟩
  go_wp2_with fail
  go_ret
  exact ⟨rfl, rfl⟩
theorem first5 (w : World) : Calls Try.prog 7 #[] w fun e w' => e = .returned (.bool true) ∧ w = w' := by
  go_enter Try.func7, Try.ntmps7
  go_wp2_with fail
  refine (sumC none 0 0 (fun _ => 0) (by omega) _ (fun i hi => by omega)).mono ?_
  rintro e w' ⟨he, rfl⟩
  rw [show u16v (crcN 65535 (fun _ => 0) 0) = 65535 from rfl] at he
  subst he
  go_wp2_with fail
  refine (rowC 1 _).mono ?_
  rintro e w' ⟨he, rfl⟩
  rw [show u16v (rowB 1) = 4129 by decide] at he
  subst he
  go_wp2_with fail
  go_ret
  exact ⟨rfl, rfl⟩
end Go.Proofs.Ytbgjfcnaiahehab
