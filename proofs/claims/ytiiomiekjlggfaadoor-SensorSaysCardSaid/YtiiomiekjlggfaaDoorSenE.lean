/- A sample as a frame, a frame as a sample, of anything; the document's, too. Conditions: the seven errors lie apart. -/
import Derived.Test.YtiiomiekjlggfaaDoorSenD
namespace Go.Proofs.YtiiomiekjlggfaaDoor
open Go Go.RowKit
set_option linter.unusedVariables false
set_option maxRecDepth 20000
theorem or_u32 (k : Nat) (a b : Int) (ha : 0 ≤ a) (hb : 0 ≤ b) (hb2 : b < 2 ^ k) (hk : a * 2 ^ k + b < 4294967296) : bits .or .u32 (a * 2 ^ k) b = a * 2 ^ k + b := by
  show IntKind.u32.wrap ((BitVec.ofInt 32 (a * 2 ^ k) ||| BitVec.ofInt 32 b).toNat : Int) = _
  obtain ⟨a, rfl⟩ := Int.eq_ofNat_of_zero_le ha
  obtain ⟨b, rfl⟩ := Int.eq_ofNat_of_zero_le hb
  have e : ((a : Int) * 2 ^ k) = ((a * 2 ^ k : Nat) : Int) := by push_cast; rfl
  have hk2 : a * 2 ^ k + b < 4294967296 := by
    have : ((a * 2 ^ k + b : Nat) : Int) < 4294967296 := by push_cast; exact hk
    omega
  have hb3 : b < 2 ^ k := by
    have : ((b : Nat) : Int) < ((2 ^ k : Nat) : Int) := by push_cast; exact hb2
    omega
  have key : a * 2 ^ k ||| b = a * 2 ^ k + b := by
    have := Nat.shiftLeft_add_eq_or_of_lt (i := k) (b := b) hb3 a
    rw [Nat.shiftLeft_eq] at this
    exact this.symm
  rw [e, BitVec.ofInt_natCast, BitVec.ofInt_natCast, BitVec.toNat_or, BitVec.toNat_ofNat, BitVec.toNat_ofNat, Nat.mod_eq_of_lt (by omega), Nat.mod_eq_of_lt (by omega), key, IntKind.wrap_u32]
  omega
def sI (g : Bool) (ch : Int) : Int := if g = true then ch else 0
def sS (g : Bool) (s : Int) : Int := if g = true then s else 0
def sN (g : Bool) : Nat := if g = true then 4 else 0
def sF (v : Int) (i : Nat) : Int := if i = 0 then by0 v else if i = 1 then by1 v else if i = 2 then by2 v else by3 v
theorem byt4 {w : World} {B : Nat} {v : Int} {t : TypeId} (h : w.heap[B]? = some (.cells #[.int .u8 (by0 v), .int .u8 (by1 v), .int .u8 (by2 v), .int .u8 (by3 v)] t (0, 0))) : Byt w (some ⟨B, 0, none⟩) 4 (sF v) := by
  intro i hi
  refine ⟨_, rfl, ?_⟩
  rcases (show i = 0 ∨ i = 1 ∨ i = 2 ∨ i = 3 by omega) with rfl | rfl | rfl | rfl
  · exact (cell_of_row w B 0 _ _ _ h).trans rfl
  · exact (cell_of_row w B 1 _ _ _ h).trans rfl
  · exact (cell_of_row w B 2 _ _ _ h).trans rfl
  · exact (cell_of_row w B 3 _ _ _ h).trans rfl
theorem senPutAny {E : Nat → Addr} (ch s v : Int) (g : Bool) (hg : withinB ch v = g) (w : World) (he : Ers E w) :
    Calls Tryd.prog 35 #[.int .i64 ch, .int .u8 s, .int .i64 v] w fun r w' => ∃ x, r = .returned (.tuple #[.agg #[.int .u8 (sI g ch), .int .u8 (sS g s), .slice x (sN g) (sN g)], errOf E (pC g)]) ∧ Byt w' x (sN g) (sF v) ∧ Below w.heap.size w w' := by
  cases g
  · exact (senPutBad ch s v hg w he).mono fun r w' ⟨h1, h2⟩ => ⟨none, by rw [h1]; rfl, fun i hi => by simp [sN] at hi, h2⟩
  · exact (senPut (E := E) ch s v hg w).mono fun r w' ⟨B, h1, h2, _, h3⟩ => ⟨some ⟨B, 0, none⟩, by rw [h1]; rfl, byt4 h2, h3⟩
set_option maxHeartbeats 8000000 in
theorem senPutR (ch s v : Int) (g : Bool) (hg : withinB ch v = g) (w : World) :
    Calls Tryd.prog 36 #[.int .i64 ch, .int .u8 s, .int .i64 v] w fun r w' => ∃ x, r = .returned (.tuple #[.agg #[.int .u8 (sI g ch), .int .u8 (sS g s), .slice x (sN g) (sN g)], .int .i64 (pC g)]) ∧ Byt w' x (sN g) (sF v) ∧ Below w.heap.size w w' := by
  have hw : g = true → (1 ≤ ch ∧ ch < 48) ∧ -500000 ≤ v ∧ v ≤ 500000 := fun h => within_of ch v (hg.trans h)
  have HW := Lib.hid hw
  have K := Lib.hid fun (w : World) => rangeR ch w
  unfold withinB at hg
  clear hw
  generalize rangeI ch = R at *
  obtain ⟨lo, hh, is⟩ := R
  dsimp only at hg K
  have KH := Lib.hid fun (w : World) => hasRef lo hh v w
  generalize hc : (decide (lo ≤ v) && decide (v ≤ hh)) = c at *
  clear hc
  go_enter Tryd.func36, Tryd.ntmps36
  go_wp2_with fail
  have B0 := Lib.hid (Bx.new w #[.int .u8 0, .int .u8 0, .slice none 0 0] 24)
  generalize World.alloc w _ = W at *
  refine (K.out _).mono ?_
  rintro e w1 ⟨rfl, hb⟩
  have hal := (Below.refl w1.heap.size w1).alloc (Nat.le_refl _) (.cells #[.int .i64 lo, .int .i64 hh] 65)
  have B1 := Lib.hid (B0.out.below (hb.trans (hal.mono hb.size)))
  have S1 := Lib.hid (Bx.new w1 #[.int .i64 lo, .int .i64 hh] 65)
  clear hb hal B0
  go_upto_region 2 with fail
  generalize World.alloc w1 _ = w2 at *
  have s0 : w2.cell? ⟨w1.heap.size, 0, none⟩ = some (.int .i64 lo) := S1.out.cell 0 rfl
  have s1 : w2.cell? ⟨w1.heap.size, 1, none⟩ = some (.int .i64 hh) := S1.out.cell 1 rfl
  cases is
  · have hg0 : g = false := by rw [← hg]; rfl
    subst hg0
    clear hg HW
    have x0 : w2.cell? ⟨w.heap.size, 0, none⟩ = some (.int .u8 0) := B1.out.cell 0 rfl
    have x1 : w2.cell? ⟨w.heap.size, 1, none⟩ = some (.int .u8 0) := B1.out.cell 1 rfl
    have x2 : w2.cell? ⟨w.heap.size, 2, none⟩ = some (.slice none 0 0) := B1.out.cell 2 rfl
    have xf := B1.out.froz
    go_wp2_with fail
    have B6 := Lib.hid (((B1.out.set 0 (.int .u8 0)).set 1 (.int .u8 0)).set 2 (.slice none 0 0))
    clear x0 x1 x2 xf
    generalize World.setCell _ _ _ = W3 at *
    have q0 : W3.cell? ⟨w.heap.size, 0, none⟩ = some (.int .u8 0) := B6.out.cell 0 rfl
    have q1 : W3.cell? ⟨w.heap.size, 1, none⟩ = some (.int .u8 0) := B6.out.cell 1 rfl
    have q2 : W3.cell? ⟨w.heap.size, 2, none⟩ = some (.slice none 0 0) := B6.out.cell 2 rfl
    refine bodyPost_ret (v := .tuple #[.agg #[.int .u8 0, .int .u8 0, .slice none 0 0], .int .i64 101]) (by simp [results, Tryd.results36, go_sem, q0, q1, q2]) rfl ⟨none, rfl, fun i hi => by simp [sN] at hi, B6.out.lo⟩
  · have hg1 : g = c := by rw [← hg]; simp
    subst hg1
    clear hg
    go_wp2_with fail
    refine (KH.out _).mono ?_
    rintro e w3 ⟨rfl, hb⟩
    have B3 := Lib.hid (B1.out.below hb)
    clear hb B1 S1 s0 s1
    cases g
    · clear HW
      have x0 : w3.cell? ⟨w.heap.size, 0, none⟩ = some (.int .u8 0) := B3.out.cell 0 rfl
      have x1 : w3.cell? ⟨w.heap.size, 1, none⟩ = some (.int .u8 0) := B3.out.cell 1 rfl
      have x2 : w3.cell? ⟨w.heap.size, 2, none⟩ = some (.slice none 0 0) := B3.out.cell 2 rfl
      have xf := B3.out.froz
      go_wp2_with fail
      have B6 := Lib.hid (((B3.out.set 0 (.int .u8 0)).set 1 (.int .u8 0)).set 2 (.slice none 0 0))
      clear x0 x1 x2 xf
      generalize World.setCell _ _ _ = W3 at *
      have q0 : W3.cell? ⟨w.heap.size, 0, none⟩ = some (.int .u8 0) := B6.out.cell 0 rfl
      have q1 : W3.cell? ⟨w.heap.size, 1, none⟩ = some (.int .u8 0) := B6.out.cell 1 rfl
      have q2 : W3.cell? ⟨w.heap.size, 2, none⟩ = some (.slice none 0 0) := B6.out.cell 2 rfl
      refine bodyPost_ret (v := .tuple #[.agg #[.int .u8 0, .int .u8 0, .slice none 0 0], .int .i64 101]) (by simp [results, Tryd.results36, go_sem, q0, q1, q2]) rfl ⟨none, rfl, fun i hi => by simp [sN] at hi, B6.out.lo⟩
    · obtain ⟨hc, hv⟩ := HW.out rfl
      have v0 : IntKind.u8.wrap ch = ch := by rw [IntKind.wrap_u8]; omega
      have v1 : IntKind.i32.wrap v = v := by rw [IntKind.wrap_i32]; omega
      have v2 : IntKind.u32.wrap v = v % 4294967296 := by rw [IntKind.wrap_u32]
      clear HW
      have A1 := Lib.hid fun o => B3.out.below ((Below.refl w3.heap.size w3).alloc (Nat.le_refl _) o)
      have hsz := B3.out.size
      have x0 : w3.cell? ⟨w.heap.size, 0, none⟩ = some (.int .u8 0) := B3.out.cell 0 rfl
      have x1 : w3.cell? ⟨w.heap.size, 1, none⟩ = some (.int .u8 0) := B3.out.cell 1 rfl
      have x2 : w3.cell? ⟨w.heap.size, 2, none⟩ = some (.slice none 0 0) := B3.out.cell 2 rfl
      have xf := B3.out.froz
      go_wp2_with fail
      have B6 := Lib.hid (((B3.out.set 0 (.int .u8 ch)).set 1 (.int .u8 s)).set 2 (.slice (some ⟨w3.heap.size, 0, none⟩) 4 4))
      have hs2 : (((w3.setCell ⟨w.heap.size, 0, none⟩ (.int .u8 ch)).setCell ⟨w.heap.size, 1, none⟩ (.int .u8 s)).setCell ⟨w.heap.size, 2, none⟩ (.slice (some ⟨w3.heap.size, 0, none⟩) 4 4)).heap.size = w3.heap.size := by simp
      clear x0 x1 x2 xf A1
      generalize World.setCell (World.setCell (World.setCell w3 _ _) _ _) _ _ = W3 at *
      have R3 := Lib.hid (show (W3.alloc (.cells #[.int .u8 (v % 4294967296 / 16777216), .int .u8 (v % 4294967296 / 65536 % 256), .int .u8 (v % 4294967296 / 256 % 256), .int .u8 (v % 256)] 5)).heap[w3.heap.size]? = some (.cells #[.int .u8 (v % 4294967296 / 16777216), .int .u8 (v % 4294967296 / 65536 % 256), .int .u8 (v % 4294967296 / 256 % 256), .int .u8 (v % 256)] 5 (0, 0)) by rw [← hs2]; exact heap_alloc_new _ _)
      have B7 := Lib.hid (B6.out.below ((Below.refl _ _).alloc (Nat.le_refl _) (.cells #[.int .u8 (v % 4294967296 / 16777216), .int .u8 (v % 4294967296 / 65536 % 256), .int .u8 (v % 4294967296 / 256 % 256), .int .u8 (v % 256)] 5)))
      clear B6
      generalize World.alloc W3 _ = W4 at *
      have q0 : W4.cell? ⟨w.heap.size, 0, none⟩ = some (.int .u8 ch) := B7.out.cell 0 rfl
      have q1 : W4.cell? ⟨w.heap.size, 1, none⟩ = some (.int .u8 s) := B7.out.cell 1 rfl
      have q2 : W4.cell? ⟨w.heap.size, 2, none⟩ = some (.slice (some ⟨w3.heap.size, 0, none⟩) 4 4) := B7.out.cell 2 rfl
      refine bodyPost_ret (v := .tuple #[.agg #[.int .u8 ch, .int .u8 s, .slice (some ⟨w3.heap.size, 0, none⟩) 4 4], .int .i64 0]) (by simp [results, Tryd.results36, go_sem, q0, q1, q2]) rfl ⟨some ⟨w3.heap.size, 0, none⟩, rfl, byt4 R3.out, B7.out.lo⟩
end Go.Proofs.YtiiomiekjlggfaaDoor
