/- CrcSays holds: each call returns true. Conditions: the arguments are numbers of their kinds and a slice of bytes. -/
import Derived.Test.YtbgjfcnaiahehabCrcC
import Derived.StillTail
import Derived.StillTactics
import Derived.Deep.RegionHeld3
import Derived.Test.YtbgjfcnaiahehabCrcE
namespace Go.Proofs.Ytbgjfcnaiahehab
open Go.RowKit
set_option linter.unusedVariables false
theorem Row8.drop {w : World} {p : Addr} {len : Nat} {Z : Nat → BitVec 8} (h : Row8 w (some p) len Z) (k : Nat) : Row8 w (some (p.add k)) (len - k) fun i => Z (k + i) := by
  intro i hi
  obtain ⟨x, hx, hc⟩ := h (k + i) (by omega)
  cases hx
  exact ⟨_, rfl, by rw [Addr.add_add]; exact hc⟩
theorem Row8.drop2 {w : World} {p : Addr} {len : Nat} {Z : Nat → BitVec 8} (h : Row8 w (some p) len Z) (k cap : Nat) (hl : len ≤ cap) : Row8 w (if cap = k then some p else some (p.add k)) (len - k) fun i => Z (k + i) := by
  split
  · intro i hi
    omega
  · exact h.drop k
set_option maxRecDepth 100000 in
set_option maxHeartbeats 8000000 in
theorem walkCrcSays (a0 : Int) (a1 : Option Addr) (len1 cap1 : Nat) (z1 : List Int) (a2 : Int) (a3 : Int) (w : World) (w0 : (Lit.int .u16 a0).wf = true) (w1 : CameI .u8 w a1 len1 cap1 z1) (_w2 : (Lit.int .i64 a2).wf = true) (w3 : (Lit.int .u8 a3).wf = true) :
    Calls Try.prog 3 #[.int .u16 a0, .slice a1 len1 cap1, .int .i64 a2, .int .u8 a3] w fun e w' => e = .returned (.bool true) ∧ Below w.heap.size w w' := by
  obtain ⟨s, rfl⟩ : ∃ s, a0 = u16v s := ⟨_, (u16_back _ w0).symm⟩
  obtain ⟨x, rfl⟩ : ∃ x, a3 = u8v x := ⟨_, (u8_back _ w3).symm⟩
  have HR := Lib.hid (Row8.of_came w1)
  generalize (fun i => BitVec.ofInt 8 (z1.getD i 0)) = Z at HR
  clear w0 w3 _w2
  by_cases h3 : 300 < len1
  · go_enter Try.func3, Try.ntmps3
    go_wp2_with fail
    refine (first5 _).mono ?_
    rintro e w' ⟨rfl, rfl⟩
    go_wp2_with fail
    go_ret
    exact ⟨rfl, Below.refl _ _⟩
  have hk1 := Int.emod_nonneg a2 (show (len1 : Int) + 1 ≠ 0 by omega)
  have hk2 := Int.emod_lt_of_pos a2 (show (0 : Int) < (len1 : Int) + 1 by omega)
  have N0 := Lib.hid fun (w : World) => numberB a2 ((len1 : Int) + 1) (by omega) (by omega) w
  generalize a2 % ((len1 : Int) + 1) = k0 at *
  obtain ⟨k, rfl⟩ := Int.eq_ofNat_of_zero_le hk1
  have hk : k ≤ len1 := by omega
  clear hk1 hk2
  have K1 := Lib.hid fun (w : World) h => sumC a1 len1 cap1 Z (by omega) w h
  have K2 := Lib.hid fun (w : World) h => sumR a1 len1 cap1 Z (by omega) w h
  have K3 := Lib.hid fun (w : World) h => moreC s a1 len1 cap1 Z (by omega) w h
  have K4 := Lib.hid fun (w : World) h => moreR s a1 len1 cap1 Z (by omega) w h
  have q1 : (u16v (crcN 65535 Z len1) == u16v (crcN 65535 Z len1)) = true := by simp
  have q2 : (u16v (crcN s Z len1) == u16v (crcN s Z len1)) = true := by simp
  have q3 : (u16v (rowB x) == u16v (rowB x)) = true := by simp
  have KR := Lib.hid fun (w : World) => rowC x w
  have KL0 : ∀ (w : World) (B : Nat) (h : Row8 w (some ⟨B, 0, none⟩) 1 fun _ => x), Calls Try.prog 12 #[.int .u16 0, .slice (some ⟨B, 0, none⟩) 1 1] w fun e w' => e = .returned (.int .u16 (u16v (rowB x))) ∧ w = w' :=
    fun w B h => moreR z16 (some ⟨B, 0, none⟩) 1 1 (fun _ => x) (by omega) w h
  have KL := Lib.hid KL0
  clear KL0
  rcases w1 with ⟨rfl, rfl, rfl, _⟩ | ⟨p, rfl, hl, hm, _⟩
  · obtain rfl : k = 0 := by omega
    have KB0 : ∀ (w : World), Row8 w none 0 Z → Calls Try.prog 11 #[.int .u16 (u16v (crcN s Z 0)), .slice none 0 0] w fun e w' => e = .returned (.int .u16 (u16v (crcN s Z 0))) ∧ w = w' := fun w h => moreC (crcN s Z 0) none 0 0 Z (by omega) w h
    have KB := Lib.hid KB0
    clear KB0
    have no8 : ∀ w : World, Row8 w none 0 Z := fun w i hi => by omega
    go_enter Try.func3, Try.ntmps3
    go_wp2_with fail
    refine (first5 _).mono ?_
    rintro e w' ⟨rfl, rfl⟩
    go_wp2_with fail
    refine (N0.out _).mono ?_
    rintro e w' ⟨rfl, rfl⟩
    go_wp2_with fail
    go_region_held3 (fun w' => Below w.heap.size w w') (first | assumption | exact (Below.refl _ _).drew | exact Below.alloc (by assumption) (Below.size (by assumption)) _)
      (first
        | ((with_reducible refine (K1.out _ ?_).mono ?_); exact no8 _; rintro e w' ⟨rfl, rfl⟩; dsimp only)
        | ((with_reducible refine (K2.out _ ?_).mono ?_); exact no8 _; rintro e w' ⟨rfl, rfl⟩; dsimp only)
        | ((with_reducible refine (K3.out _ ?_).mono ?_); exact no8 _; rintro e w' ⟨rfl, rfl⟩; dsimp only)
        | ((with_reducible refine (K4.out _ ?_).mono ?_); exact no8 _; rintro e w' ⟨rfl, rfl⟩; dsimp only)
        | ((with_reducible refine (KB.out _ ?_).mono ?_); exact no8 _; rintro e w' ⟨rfl, rfl⟩; dsimp only)
        | ((with_reducible refine (KR.out _).mono ?_); rintro e w' ⟨rfl, rfl⟩; dsimp only)
        | ((with_reducible refine (KL.out _ _ ?_).mono ?_); exact row_at _ _ _ 1 (fun _ => x) (fun j hj => by obtain rfl : j = 0 := by omega
                                                                                                              rfl) _ rfl; rintro e w' ⟨rfl, rfl⟩; dsimp only))
    all_goals go_wp2_with fail
    all_goals go_ret
    all_goals exact ⟨rfl, by assumption⟩
  · have KA := Lib.hid fun (w : World) h => moreC s (some p) k cap1 Z (by omega) w h
    have KB := Lib.hid fun (w : World) h => moreC (crcN s Z k) (if cap1 = k then some p else some (p.add k)) (len1 - k) (cap1 - k) (fun i => Z (k + i)) (by omega) w h
    rw [crcN_add, show k + (len1 - k) = len1 by omega] at KB
    have hq : (k : Int) ≤ (len1 : Int) := by omega
    have hq2 : (k : Int) ≤ (cap1 : Int) := by omega
    go_enter Try.func3, Try.ntmps3
    go_wp2_with fail
    refine (first5 _).mono ?_
    rintro e w' ⟨rfl, rfl⟩
    go_wp2_with fail
    refine (N0.out _).mono ?_
    rintro e w' ⟨rfl, rfl⟩
    go_wp2_with fail
    go_region_held3 (fun w' => Below w.heap.size w w') (first | assumption | exact (Below.refl _ _).drew | exact Below.alloc (by assumption) (Below.size (by assumption)) _)
      (first
        | ((with_reducible refine (K1.out _ ?_).mono ?_); exact HR.out.below (by assumption); rintro e w' ⟨rfl, rfl⟩; dsimp only)
        | ((with_reducible refine (K2.out _ ?_).mono ?_); exact HR.out.below (by assumption); rintro e w' ⟨rfl, rfl⟩; dsimp only)
        | ((with_reducible refine (K3.out _ ?_).mono ?_); exact HR.out.below (by assumption); rintro e w' ⟨rfl, rfl⟩; dsimp only)
        | ((with_reducible refine (K4.out _ ?_).mono ?_); exact HR.out.below (by assumption); rintro e w' ⟨rfl, rfl⟩; dsimp only)
        | ((with_reducible refine (KA.out _ ?_).mono ?_); exact (HR.out.below (by assumption)).take k hk; rintro e w' ⟨rfl, rfl⟩; dsimp only)
        | ((with_reducible refine (KB.out _ ?_).mono ?_); exact (HR.out.below (by assumption)).drop2 k cap1 hl; rintro e w' ⟨rfl, rfl⟩; dsimp only)
        | ((with_reducible refine (KR.out _).mono ?_); rintro e w' ⟨rfl, rfl⟩; dsimp only)
        | ((with_reducible refine (KL.out _ _ ?_).mono ?_); exact row_at _ _ _ 1 (fun _ => x) (fun j hj => by obtain rfl : j = 0 := by omega
                                                                                                              rfl) _ rfl; rintro e w' ⟨rfl, rfl⟩; dsimp only))
    all_goals go_wp2_with fail
    all_goals go_ret
    all_goals exact ⟨rfl, by assumption⟩
end Go.Proofs.Ytbgjfcnaiahehab
