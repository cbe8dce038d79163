/- A list of bytes copied. Conditions: no more than 100000. -/
import Derived.Test.YtngomgkinaodjaaDoorByt
import Derived.Maps.AppendAt
import Derived.Deep.AppendLies
import Derived.Laws.Tables
import Derived.OwnWalk
import Derived.Laws.OwnMore
namespace Go.Proofs.YtngomgkinaodjaaDoor
open Go Go.RowKit
set_option linter.unusedVariables false
set_option maxRecDepth 20000
theorem infoB : ∃ i, Tryd.prog.info? 5 = some i ∧ i.zero = some (.int .u8 0) ∧ i.size = 1 ∧ i.bytes = 1 := by
  have hm : (Tryd.prog.info? 5).map (fun i => (i.zero, i.size, i.bytes)) = some (some (.int .u8 0), 1, 1) := by kernel_rfl
  cases h : Tryd.prog.info? 5 with
  | none => rw [h] at hm; cases hm
  | some i =>
    rw [h] at hm
    simp only [Option.map_some, Option.some.injEq, Prod.mk.injEq] at hm
    exact ⟨i, rfl, hm.1, hm.2.1, hm.2.2⟩
def bytL (f : Nat → Int) (n : Nat) : List Value := (List.range n).map fun i => .int .u8 (f i)
theorem bytL_succ (f : Nat → Int) (k : Nat) : bytL f (k + 1) = bytL f k ++ [.int .u8 (f k)] := by unfold bytL; simp [List.range_succ]
set_option maxHeartbeats 8000000 in
theorem bytesC {a : Option Addr} {n ca : Nat} {f : Nat → Int} (hn : n ≤ 100000) (w : World) (ha : Byt w a n f) :
    Calls Tryd.prog 22 #[.slice a n ca] w fun e w' => ∃ va vc, e = .returned (.slice va n vc) ∧ w'.ownsRow w.heap.size 5 1 (.slice va n vc) n (bytL f n) ∧ Below w.heap.size w w' := by
  obtain ⟨i0, hi0, hz0, hz1, hz2⟩ := infoB
  have HA := Lib.hid ha
  clear ha
  have mk := run_makeSlice (P := Tryd.prog) (w := w) 22 5 i0 _ Tryd.underlying22 hi0 hz0 .i64 .i64 (0 : Int) (n : Int) (by omega) (by omega) (by rw [hz1]; omega) (by rw [hz2]; omega) (by omega)
  rw [hz1] at mk
  simp only [Int.toNat_natCast, Nat.mul_one, Int.toNat_zero] at mk
  go_enter Tryd.func22, Tryd.ntmps22
  go_wp2_with fail
  have hmx : (1000000 : Nat) ≤ maxLen := by decide
  have W0 := Lib.hid (World.ownsRow_made (base := w.heap.size) (size := 1) (e := 5) w (madeCells #[.int .u8 0] n) n (Nat.le_refl _) (by omega) (by simp [madeCells]))
  have L0 := Lib.hid ((Below.refl w.heap.size w).alloc (Nat.le_refl _) (.cells (madeCells #[.int .u8 0] n) 5))
  clear mk
  generalize World.alloc w _ = wz at *
  go_loopw [3, 4] (fun s v wr => ∃ (k : Nat) (va : Option Addr) (vc : Nat), k ≤ n ∧ v = .int .i64 k ∧ s = .slice va k vc ∧ wr.ownsRow w.heap.size 5 1 (.slice va k vc) k (bytL f k) ∧ Below w.heap.size w wr) (fun _ v _ => n - (intOf v).toNat)
  case atStart => exact ⟨0, _, n, by omega, rfl, rfl, W0.out, L0.out⟩
  case round =>
    obtain ⟨k, va, vc, hk, rfl, rfl, hown, hb⟩ := hrel
    have FW := Lib.hid hown
    have FB := Lib.hid hb
    clear hown hb W0 L0
    by_cases hl : k < n
    · have i1 : (k : Int) < (n : Int) := by omega
      obtain ⟨x, rfl, c0⟩ := HA.out k hl
      have EL := Lib.hid (bytL_succ f k)
      replace c0 := below_cell FB.out c0
      generalize f k = fk at *
      go_wp2_with (first
        | (at_builtin
           refine wpList_append_lies _ rfl _ _ 22 rfl w.heap.size 5 i0 (.int .u8 0) 1 1 Tryd.underlying22 hi0 hz0 hz1 hz2 rfl (by decide) (.slice va k vc) k (bytL f k) rfl (FW.out.alloc _) ⟨wr.heap.size, 0, none⟩ 1 1 [.int .u8 fk] rfl ?hl (World.news_of_block (heap_alloc_new _ _)) ?h1 (by decide) (by omega) (by omega) (by have := FB.out.size; simp; omega) _ rfl ?_
           case hl => rfl
           case h1 => simp [Value.oneCell']
           intro g vc3 w3 hown' hgrow hat hlt
           have G4 := Lib.hid hown'
           have G5 := Lib.hid ((FB.out.alloc FB.out.size _).grown hgrow (by have := FB.out.size; simp; omega) (fun q hq => FW.out.lt q hq |>.1))
           clear hown' hgrow hat))
      go_roundw
      case rel => exact ⟨k + 1, some ⟨g, 0, none⟩, vc3, by omega, by go_num, rfl, by rw [EL.out]; exact G4.out, G5.out⟩
      case measure => simp [intOf]; omega
    · obtain rfl : k = n := by omega
      go_wp2_with fail
      go_returns
      exact ⟨va, vc, rfl, FW.out, FB.out⟩
end Go.Proofs.YtngomgkinaodjaaDoor
