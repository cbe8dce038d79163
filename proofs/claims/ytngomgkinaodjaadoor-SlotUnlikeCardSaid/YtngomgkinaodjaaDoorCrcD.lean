/- Sums of bytes, as plain definitions over sixteen bits, and what holds of them. No condition. -/
import Derived.Test.YtngomgkinaodjaaDoorRows
import Derived.WalkKit
import Derived.ProofKit
import Derived.Handy
import Derived.OpenShut
import Derived.Lib.Hide
import Derived.Below
import Derived.Deep.QuietTactic
import Derived.BigQuiet
import Derived.WalkSmall
import Derived.Laws.BitsAllLaws
namespace Go.Proofs.YtngomgkinaodjaaDoor
open Go.RowKit
def u16v (x : BitVec 16) : Int := (x.toNat : Int)
def u8v (x : BitVec 8) : Int := (x.toNat : Int)
def turn : BitVec 16 := 0x1021
def top (s : BitVec 16) : Bool := s.getLsbD 15
def rnd (s : BitVec 16) : BitVec 16 := if top s then (s <<< 1) ^^^ turn else s <<< 1
def rnds : Nat → BitVec 16 → BitVec 16
  | 0, s => s
  | k + 1, s => rnd (rnds k s)
/-- A byte ahead of a sum's upper half. -/
def up8 (x : BitVec 8) : BitVec 16 := x.setWidth 16 <<< 8
def crcB (s : BitVec 16) (x : BitVec 8) : BitVec 16 := rnds 8 (s ^^^ up8 x)
def crcN (s : BitVec 16) (Z : Nat → BitVec 8) : Nat → BitVec 16
  | 0 => s
  | n + 1 => crcB (crcN s Z n) (Z n)
theorem rnd_eq (s : BitVec 16) : rnd s = (s <<< 1) ^^^ (if top s then turn else 0) := by
  unfold rnd; split <;> simp
theorem rnd_xor (a b : BitVec 16) : rnd (a ^^^ b) = rnd a ^^^ rnd b := by
  rw [rnd_eq, rnd_eq, rnd_eq, BitVec.shiftLeft_xor_distrib]
  have h : top (a ^^^ b) = (top a ^^ top b) := by unfold top; simp
  rw [h]
  generalize a <<< 1 = x
  generalize b <<< 1 = y
  have z : ∀ v : BitVec 16, v ^^^ 0 = v := fun v => by simp
  cases top a <;> cases top b
  · simp
  · simp [BitVec.xor_assoc]
  · simp only [if_true, Bool.false_eq_true, if_false, Bool.xor_false]
    rw [z, BitVec.xor_assoc, BitVec.xor_assoc, BitVec.xor_comm turn y]
  · simp only [if_true, Bool.xor_self, Bool.false_eq_true, if_false]
    rw [BitVec.xor_assoc x turn, BitVec.xor_comm turn (y ^^^ turn), BitVec.xor_assoc y turn, BitVec.xor_self, BitVec.xor_zero, z]
theorem rnds_xor (k : Nat) (a b : BitVec 16) : rnds k (a ^^^ b) = rnds k a ^^^ rnds k b := by
  induction k with
  | zero => rfl
  | succ k ih => show rnd (rnds k (a ^^^ b)) = _; rw [ih, rnd_xor]; rfl
theorem up8_xor (x y : BitVec 8) : up8 (x ^^^ y) = up8 x ^^^ up8 y := by
  unfold up8
  rw [BitVec.setWidth_xor, BitVec.shiftLeft_xor_distrib]
theorem xor4 (a b c d : BitVec 16) : a ^^^ b ^^^ (c ^^^ d) = a ^^^ c ^^^ (b ^^^ d) := by
  rw [BitVec.xor_assoc, BitVec.xor_assoc, ← BitVec.xor_assoc b, ← BitVec.xor_assoc c, BitVec.xor_comm b c]
theorem crcB_xor (s t : BitVec 16) (x y : BitVec 8) : crcB (s ^^^ t) (x ^^^ y) = crcB s x ^^^ crcB t y := by
  unfold crcB
  rw [up8_xor, xor4, rnds_xor]
theorem crcN_xor (s t : BitVec 16) (X Y : Nat → BitVec 8) (n : Nat) : crcN (s ^^^ t) (fun i => X i ^^^ Y i) n = crcN s X n ^^^ crcN t Y n := by
  induction n with
  | zero => rfl
  | succ n ih => show crcB (crcN _ _ n) (X n ^^^ Y n) = _; rw [ih, crcB_xor]; rfl
theorem crcN_add (s : BitVec 16) (Z : Nat → BitVec 8) (k n : Nat) : crcN (crcN s Z k) (fun i => Z (k + i)) n = crcN s Z (k + n) := by
  induction n with
  | zero => rfl
  | succ n ih => show crcB (crcN _ _ n) (Z (k + n)) = _; rw [ih]; rfl
theorem crcN_congr (s : BitVec 16) (X Y : Nat → BitVec 8) (n : Nat) (h : ∀ i, i < n → X i = Y i) : crcN s X n = crcN s Y n := by
  induction n with
  | zero => rfl
  | succ n ih => show crcB (crcN s X n) (X n) = crcB (crcN s Y n) (Y n); rw [ih (fun i hi => h i (by omega)), h n (by omega)]
/-- The upper half of a sum. -/
def hi8 (s : BitVec 16) : BitVec 8 := (s >>> 8).setWidth 8
def lo8 (s : BitVec 16) : BitVec 8 := s.setWidth 8
theorem low_rounds : ∀ x : Fin 256, rnds 8 ((BitVec.ofFin x : BitVec 8).setWidth 16) = (BitVec.ofFin x : BitVec 8).setWidth 16 <<< 8 := by decide +kernel
theorem halves (s : BitVec 16) : s = up8 (hi8 s) ^^^ (lo8 s).setWidth 16 := by
  unfold up8 hi8 lo8
  ext i hi
  simp only [BitVec.getElem_xor, BitVec.getElem_shiftLeft, BitVec.getElem_setWidth, BitVec.getLsbD_setWidth, BitVec.getLsbD_ushiftRight]
  by_cases h : i < 8
  · simp [h]; rw [BitVec.getLsbD_eq_getElem]
  · simp [h, hi, show i - 8 < 8 by omega, show 8 + (i - 8) = i by omega]
    try rw [BitVec.getLsbD_eq_getElem]
theorem u16_xor (x y : BitVec 16) : bits .xor .u16 (u16v x) (u16v y) = u16v (x ^^^ y) := by
  show IntKind.u16.wrap ((BitVec.ofInt 16 (u16v x) ^^^ BitVec.ofInt 16 (u16v y)).toNat : Int) = _
  rw [IntKind.wrap_u16]
  unfold u16v
  rw [BitVec.ofInt_natCast, BitVec.ofInt_natCast, BitVec.ofNat_toNat, BitVec.ofNat_toNat, BitVec.setWidth_eq, BitVec.setWidth_eq]
  have := (x ^^^ y).isLt
  omega
theorem u16_and (x y : BitVec 16) : bits .and .u16 (u16v x) (u16v y) = u16v (x &&& y) := by
  show IntKind.u16.wrap ((BitVec.ofInt 16 (u16v x) &&& BitVec.ofInt 16 (u16v y)).toNat : Int) = _
  rw [IntKind.wrap_u16]
  unfold u16v
  rw [BitVec.ofInt_natCast, BitVec.ofInt_natCast, BitVec.ofNat_toNat, BitVec.ofNat_toNat, BitVec.setWidth_eq, BitVec.setWidth_eq]
  have := (x &&& y).isLt
  omega
theorem u16_dbl (x : BitVec 16) : IntKind.u16.wrap (u16v x * 2) = u16v (x <<< 1) := by
  rw [IntKind.wrap_u16]
  unfold u16v
  rw [BitVec.toNat_shiftLeft, Nat.shiftLeft_eq]
  omega
theorem u8_up (x : BitVec 8) : IntKind.u16.wrap (IntKind.u16.wrap (u8v x) * 256) = u16v (up8 x) := by
  rw [IntKind.wrap_u16, IntKind.wrap_u16]
  unfold u16v u8v up8
  rw [BitVec.toNat_shiftLeft, Nat.shiftLeft_eq, BitVec.toNat_setWidth]
  have := x.isLt
  omega
theorem u16_turn (x : BitVec 16) : bits .xor .u16 (u16v x) 4129 = u16v (x ^^^ turn) := u16_xor x turn
theorem u16_ne (x y : BitVec 16) : (u16v x == u16v y) = decide (x = y) := by
  by_cases h : x = y
  · subst h; simp
  · rw [decide_eq_false h, beq_eq_false_iff_ne]
    intro e
    unfold u16v at e
    exact h (BitVec.eq_of_toNat_eq (by omega))
theorem u16_top (x : BitVec 16) : (bits .and .u16 (u16v x) 32768 != 0) = top x := by
  have h := u16_and x (BitVec.twoPow 16 15)
  rw [show u16v (BitVec.twoPow 16 15) = 32768 by decide] at h
  rw [h, BitVec.and_twoPow]
  unfold top
  cases x.getLsbD 15
  · rfl
  · rfl
theorem u8_back (z : Int) (h : (Lit.int .u8 z).wf = true) : u8v (BitVec.ofInt 8 z) = z := by
  simp only [Lit.wf, IntKind.min, IntKind.max, IntKind.signed, IntKind.bits, Bool.and_eq_true] at h
  unfold u8v
  rw [BitVec.toNat_ofInt]
  simp at h
  omega
theorem u16_back (z : Int) (h : (Lit.int .u16 z).wf = true) : u16v (BitVec.ofInt 16 z) = z := by
  simp only [Lit.wf, IntKind.min, IntKind.max, IntKind.signed, IntKind.bits, Bool.and_eq_true] at h
  unfold u16v
  rw [BitVec.toNat_ofInt]
  simp at h
  omega
theorem crc_row (t : BitVec 16) (z : BitVec 8) : crcB t z = (t <<< 8) ^^^ crcB 0 (hi8 t ^^^ z) := by
  have hlo : rnds 8 ((lo8 t).setWidth 16) = (lo8 t).setWidth 16 <<< 8 := low_rounds (lo8 t).toFin
  have h1 : t ^^^ up8 z = up8 (hi8 t ^^^ z) ^^^ (lo8 t).setWidth 16 := by
    rw [up8_xor, BitVec.xor_assoc, BitVec.xor_comm (up8 z), ← BitVec.xor_assoc]
    rw [← halves t]
  have h2 : t <<< 8 = (lo8 t).setWidth 16 <<< 8 := by
    unfold lo8
    ext i hi
    simp only [BitVec.getElem_shiftLeft, BitVec.getElem_setWidth, BitVec.getLsbD_setWidth]
    by_cases h : i < 8
    · simp [h]
    · simp [h, show i - 8 < 8 by omega]
      exact (BitVec.getLsbD_eq_getElem _).symm
  have h3 : (0 : BitVec 16) ^^^ up8 (hi8 t ^^^ z) = up8 (hi8 t ^^^ z) := by simp
  unfold crcB
  rw [h1, rnds_xor, hlo, h2, h3, BitVec.xor_comm]
theorem u16_hi (t : BitVec 16) : IntKind.u8.wrap (u16v t / 256) = u8v (hi8 t) := by
  rw [IntKind.wrap_u8]
  unfold u16v u8v hi8
  rw [BitVec.toNat_setWidth, BitVec.toNat_ushiftRight, Nat.shiftRight_eq_div_pow]
  omega
theorem u16_lo (t : BitVec 16) : IntKind.u8.wrap (u16v t) = u8v (lo8 t) := by
  rw [IntKind.wrap_u8]
  unfold u16v u8v lo8
  rw [BitVec.toNat_setWidth]
  omega
theorem u16_sh8 (t : BitVec 16) : IntKind.u16.wrap (u16v t * 256) = u16v (t <<< 8) := by
  rw [IntKind.wrap_u16]
  unfold u16v
  rw [BitVec.toNat_shiftLeft, Nat.shiftLeft_eq]
  omega
theorem u8_xor (x y : BitVec 8) : bits .xor .u8 (u8v x) (u8v y) = u8v (x ^^^ y) := by
  show IntKind.u8.wrap ((BitVec.ofInt 8 (u8v x) ^^^ BitVec.ofInt 8 (u8v y)).toNat : Int) = _
  rw [IntKind.wrap_u8]
  unfold u8v
  rw [BitVec.ofInt_natCast, BitVec.ofInt_natCast, BitVec.ofNat_toNat, BitVec.ofNat_toNat, BitVec.setWidth_eq, BitVec.setWidth_eq]
  have := (x ^^^ y).isLt
  omega
end Go.Proofs.YtngomgkinaodjaaDoor
