/- shed.Keeper's Step. Conditions: six feeders at most. -/
import Derived.Test.YtbeemfkndpandaaDoorShedK
namespace Go.Proofs.YtbeemfkndpandaaDoor
open Go Go.RowKit
set_option linter.unusedVariables false
set_option maxRecDepth 20000
def tz (x : Int) (i : Nat) : Bool := bits BinOp.and IntKind.i64 (x / 2 ^ i) 1 == 0
def stpK (want : Int) (need : Nat) (L : List Nat) : Nat → List Nat
  | 0 => L
  | i + 1 => (stpK want need L i).set i (if tz want i then 0 else min (getN (stpK want need L i) i + 1) need)
set_option maxHeartbeats 8000000 in
theorem stepC (K V need n : Nat) (L : List Nat) (want : Int) (hn : n ≤ 6) (hd : need ≤ 100000) (hx : ∀ x ∈ L, x ≤ 100000) (B : Nat) (hV : B ≤ V) (hK : B ≤ K) (w : World) (h : Kpr w K V need n L) :
    Calls Tryd.prog 23 #[.pointer (some ⟨K, 0, none⟩), .int .i64 want] w fun e w' => ∃ L', L' = stpK want need L n ∧ e = .returned (.int .i64 (onV need L' n)) ∧ Kpr w' K V need n L' ∧ Below B w w' := by
  have H := Lib.hid h
  have k1 := h.k1
  have HX := Lib.hid hx
  clear h hx
  obtain ⟨f, hf⟩ : ∃ f, stpK want need L = f := ⟨_, rfl⟩
  have HF := Lib.hid hf
  rw [hf]
  clear hf
  go_enter Tryd.func23, Tryd.ntmps23
  go_wp2_with fail
  go_loopw [5, 11] (fun v5 v wr => ∃ (i : Nat) (L2 : List Nat), i ≤ n ∧ v = .int .i64 i ∧ L2 = f i ∧ (∀ x ∈ L2, x ≤ 100000) ∧ Kpr wr K V need n L2 ∧ Below B w wr) (fun _ v _ => n - (intOf v).toNat)
  case atStart => exact ⟨0, L, by omega, rfl, by rw [← HF.out]; rfl, HX.out, H.out, Below.refl _ _⟩
  case round =>
    obtain ⟨i, L2, hi, rfl, hL, hx, hk, hb⟩ := hrel
    have EL := Lib.hid hL
    have XL := Lib.hid hx
    have HK := Lib.hid hk
    have HB := Lib.hid hb
    clear hL hx hk hb k1
    by_cases hl : i < n
    · have k1 := HK.out.k1
      have k0 := HK.out.k0
      have ci := HK.out.cnt.cell i (by rw [HK.out.len]; exact hl)
      have fi := HK.out.cnt.froz i
      have i1 : (i : Int) < (n : Int) := by omega
      have xi : getN L2 i ≤ 100000 := by
        unfold getN
        rw [List.getElem?_eq_getElem (by rw [HK.out.len]; exact hl)]
        exact XL.out _ (List.getElem_mem _)
      have FS := Lib.hid (show f (i + 1) = L2.set i (if tz want i then 0 else min (getN L2 i + 1) need) by rw [EL.out, ← HF.out]; rfl)
      clear EL
      obtain ⟨x, hx⟩ : ∃ x, getN L2 i = x := ⟨_, rfl⟩
      rw [hx] at ci xi FS
      clear hx
      obtain ⟨tv, gt⟩ : ∃ tv, (bits BinOp.and IntKind.i64 (want / 2 ^ i) 1 == 0) = tv := ⟨_, rfl⟩
      cases tv
      · have FS2 := Lib.hid (show L2.set i (min (x + 1) need) = f (i + 1) by rw [FS.out]; unfold tz; rw [gt]; rfl)
        have XS := Lib.hid (show ∀ y ∈ L2.set i (min (x + 1) need), y ≤ 100000 from fun y hy => by
          rcases List.mem_or_eq_of_mem_set hy with h | rfl
          · exact XL.out y h
          · omega)
        have KS := Lib.hid fun (u : World) (hu : Kpr u K V need n L2) => hu.set i (min (x + 1) need)
        have v1 : IntKind.i64.wrap ((x : Int) + 1) = (x : Int) + 1 := IntWalk.i64_in _ (by omega)
        obtain ⟨mn, hmn⟩ : ∃ mn, min (x + 1) need = mn := ⟨_, rfl⟩
        have gm : min ((x : Int) + 1) (need : Int) = (mn : Int) := by omega
        have gm2 : (if (need : Int) < (x : Int) + 1 then (need : Int) else (x : Int) + 1) = (mn : Int) := by split <;> omega
        have gm3 : (if (x : Int) + 1 < (need : Int) then (x : Int) + 1 else (need : Int)) = (mn : Int) := by split <;> omega
        rw [hmn] at FS2 XS KS
        clear hmn FS
        have sk0 := fun d => below_cell (reach_below wr.heap.size wr d) k0
        have sk1 := fun d => below_cell (reach_below wr.heap.size wr d) k1
        have si := fun d => below_cell (reach_below wr.heap.size wr d) ci
        go_upto_region 6 with fail
        refine wp_region_tailR wr.heap.size 19 (by kernel_rfl) (by kernel_rfl) ?_
        simp only [List.take_succ_cons, List.take_zero, List.drop_succ_cons, List.drop_zero]
        repeat (go_big_quiet_step (fail))
        refine wpQuiet_nil ?_
        rintro w' ⟨d, rfl⟩
        have KD := Lib.hid (HK.out.below (reach_below wr.heap.size wr d))
        have BD := Lib.hid (HB.out.trans ((reach_below wr.heap.size wr d).mono (Nat.le_trans hV (Nat.le_of_lt (Array.getElem?_eq_some_iff.1 HK.out.cnt).1))))
        have c9 := si d
        clear sk0 sk1 si k0 k1 ci fi
        generalize reach wr.heap.size wr d = w5 at *
        have fi := KD.out.cnt.froz i
        have K9 := Lib.hid (KS.out w5 KD.out)
        have B9 := Lib.hid (BD.out.setCell (p := ⟨V, i, none⟩) hV (.int .i64 (mn : Int)))
        go_wp2_with fail
        go_roundw
        case rel => exact ⟨i + 1, _, by omega, by go_num, FS2.out, XS.out, K9.out, B9.out⟩
        case measure => simp [intOf]; omega
      · have FS2 := Lib.hid (show L2.set i 0 = f (i + 1) by rw [FS.out]; unfold tz; rw [gt]; rfl)
        have XS := Lib.hid (show ∀ y ∈ L2.set i 0, y ≤ 100000 from fun y hy => by
          rcases List.mem_or_eq_of_mem_set hy with h | rfl
          · exact XL.out y h
          · omega)
        have K9 := Lib.hid (show Kpr (wr.setCell ⟨V, i, none⟩ (.int .i64 0)) K V need n (L2.set i 0) from HK.out.set i 0)
        have B9 := Lib.hid (HB.out.setCell (p := ⟨V, i, none⟩) hV (.int .i64 0))
        clear FS
        go_wp2_with fail
        go_roundw
        case rel => exact ⟨i + 1, _, by omega, by go_num, FS2.out, XS.out, K9.out, B9.out⟩
        case measure => simp [intOf]; omega
    · obtain rfl : i = n := by omega
      have KO := Lib.hid (onC K V need i L2 hn wr HK.out)
      go_wp2_with fail
      refine KO.out.mono ?_
      rintro e w' ⟨rfl, rfl⟩
      go_wp2_with fail
      go_returns
      exact ⟨L2, EL.out, rfl, HK.out, HB.out⟩
end Go.Proofs.YtbeemfkndpandaaDoor
