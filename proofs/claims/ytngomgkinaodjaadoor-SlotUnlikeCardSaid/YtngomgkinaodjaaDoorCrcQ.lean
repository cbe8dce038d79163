/- What the sums' functions answer, by plain definitions. Conditions: a stream's bytes lie where its slice points. -/
import Derived.Test.YtngomgkinaodjaaDoorCrcD
import Derived.Test.YtngomgkinaodjaaDoorCame
namespace Go.Proofs.YtngomgkinaodjaaDoor
open Go.RowKit
theorem ret_u {a b : Int} (h : a = b) : Ending.returned (.int .u16 a) = .returned (.int .u16 b) := by rw [h]
theorem ret_fn {a b : Int} (h : a = b) : Ending.returned (.int .i64 a) = .returned (.int .i64 b) := by rw [h]
theorem rnd_yes (t : BitVec 16) (h : top t = true) : rnd t = (t <<< 1) ^^^ turn := by unfold rnd; rw [h]; rfl
theorem rnd_no (t : BitVec 16) (h : top t = false) : rnd t = t <<< 1 := by unfold rnd; rw [h]; rfl
set_option maxRecDepth 100000 in
set_option maxHeartbeats 4000000 in
theorem oneC (s : BitVec 16) (x : BitVec 8) (w : World) :
    Calls Tryd.prog 50 #[.int .u16 (u16v s), .int .u8 (u8v x)] w fun e w' => e = .returned (.int .u16 (u16v (crcB s x))) ∧ w = w' := by
  have e1 := u8_up x
  have e2 := u16_xor s (up8 x)
  go_enter Tryd.func50, Tryd.ntmps50
  go_wp2_with fail
  clear e1 e2
  go_loopw [0, 11] (fun v c wr => ∃ k : Nat, k ≤ 8 ∧ c = .int .i64 k ∧ v = .int .u16 (u16v (rnds k (s ^^^ up8 x))) ∧ w = wr) (fun _ c _ => 8 - (intOf c).toNat)
  case atStart => exact ⟨0, by omega, rfl, rfl, rfl⟩
  case round =>
    obtain ⟨k, hk, rfl, rfl, rfl⟩ := hrel
    by_cases h8 : k = 8
    · subst h8
      go_wp2_with fail
      go_ret
      exact ⟨rfl, rfl⟩
    · have HR := Lib.hid (show rnds (k + 1) (s ^^^ up8 x) = rnd (rnds k (s ^^^ up8 x)) from rfl)
      obtain ⟨t, ht⟩ : ∃ t, t = rnds k (s ^^^ up8 x) := ⟨_, rfl⟩
      rw [← ht] at HR ⊢
      clear ht
      have e3 := u16_top t
      have e4 := u16_dbl t
      have e5 := u16_turn (t <<< 1)
      cases hb : top t
      · rw [hb] at e3
        have HE := Lib.hid (HR.out.trans (rnd_no t hb))
        clear hb
        go_wp2_with fail
        go_roundw
        case rel => exact ⟨k + 1, by omega, by go_num, by rw [HE.out], trivial⟩
        case measure => simp [intOf]; omega
      · rw [hb] at e3
        have HE := Lib.hid (HR.out.trans (rnd_yes t hb))
        clear hb
        go_wp2_with fail
        go_roundw
        case rel => exact ⟨k + 1, by omega, by go_num, by rw [HE.out], trivial⟩
        case measure => simp [intOf]; omega
def Row8 (w : World) (a : Option Addr) (len : Nat) (Z : Nat → BitVec 8) : Prop := ∀ i, i < len → ∃ x, a = some x ∧ w.cell? (x.add i) = some (.int .u8 (u8v (Z i)))
theorem Row8.below {w w' : World} {a : Option Addr} {len : Nat} {Z : Nat → BitVec 8} (h : Row8 w a len Z) (hb : Below w.heap.size w w') : Row8 w' a len Z := by
  intro i hi
  obtain ⟨x, ha, hc⟩ := h i hi
  exact ⟨x, ha, below_cell hb hc⟩
set_option maxHeartbeats 4000000 in
theorem moreC (s : BitVec 16) (a : Option Addr) (len cap : Nat) (Z : Nat → BitVec 8) (hl : len ≤ 100000) (w : World) (h : Row8 w a len Z) :
    Calls Tryd.prog 45 #[.int .u16 (u16v s), .slice a len cap] w fun e w' => e = .returned (.int .u16 (u16v (crcN s Z len))) ∧ w = w' := by
  have HZ := Lib.hid h
  clear h
  go_enter Tryd.func45, Tryd.ntmps45
  go_wp2_with fail
  go_loopw [0, 9] (fun v c wr => ∃ k : Nat, k ≤ len ∧ c = .int .i64 k ∧ v = .int .u16 (u16v (crcN s Z k)) ∧ w = wr) (fun _ c _ => len - (intOf c).toNat)
  case atStart => exact ⟨0, by omega, rfl, rfl, rfl⟩
  case round =>
    obtain ⟨k, hk, rfl, rfl, rfl⟩ := hrel
    by_cases hlt : k < len
    · obtain ⟨x, rfl, c⟩ := HZ.out k hlt
      go_wp2_with fail
      refine (oneC _ (Z k) _).mono ?_
      rintro e w' ⟨rfl, rfl⟩
      go_wp2_with fail
      go_roundw
      case rel => exact ⟨k + 1, by omega, by go_num, rfl, trivial⟩
      case measure => simp [intOf]; omega
    · obtain rfl : k = len := by omega
      go_wp2_with fail
      go_ret
      exact ⟨rfl, rfl⟩
theorem sumC (a : Option Addr) (len cap : Nat) (Z : Nat → BitVec 8) (hl : len ≤ 100000) (w : World) (h : Row8 w a len Z) :
    Calls Tryd.prog 33 #[.slice a len cap] w fun e w' => e = .returned (.int .u16 (u16v (crcN 65535 Z len))) ∧ w = w' := by
  have HZ := Lib.hid h
  clear h
  go_enter Tryd.func33, Tryd.ntmps33
  go_wp2_with fail
  refine (moreC 65535 a len cap Z hl _ HZ.out).mono ?_
  rintro e w' ⟨rfl, rfl⟩
  go_wp2_with fail
  go_ret
  exact ⟨rfl, rfl⟩
end Go.Proofs.YtngomgkinaodjaaDoor
