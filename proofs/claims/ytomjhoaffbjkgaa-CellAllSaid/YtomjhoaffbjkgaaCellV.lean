/- What the outermost cells say, by plain definitions. Conditions: one cell to four, each from 0 to 6000. -/
import Derived.Test.YtomjhoaffbjkgaaCellM
import Derived.Test.YtomjhoaffbjkgaaNum
import Derived.Test.YtomjhoaffbjkgaaBase
import Derived.Deep.QuietTactic
import Derived.BigQuiet
import Derived.Deep.DeepCutAuto
import Derived.Laws.Tables
namespace Go.Proofs.Ytomjhoaffbjkgaa
open Go.RowKit
set_option linter.unusedVariables false
theorem foldlo_end (zs : List Int) (h : zs ≠ []) : zs.foldl min (zs.getD 0 0) = loL zs := by
  cases zs with
  | nil => exact absurd rfl h
  | cons z t => simp [loL]
theorem foldhi_end (zs : List Int) (h : zs ≠ []) : zs.foldl max (zs.getD 0 0) = hiL zs := by
  cases zs with
  | nil => exact absurd rfl h
  | cons z t => simp [hiL]
theorem fold_snoc (f : Int → Int → Int) (zs : List Int) (c : Int) (k : Nat) (h : k < zs.length) : (zs.take (k + 1)).foldl f c = f ((zs.take k).foldl f c) (zs.getD k 0) := by
  rw [List.take_succ_eq_append_getElem h, List.foldl_append, show zs.getD k 0 = zs[k] by simp [List.getD, h]]
  rfl
theorem fold_bd (f : Int → Int → Int) (hf : ∀ a b, f a b = a ∨ f a b = b) (p q : Int) : ∀ (zs : List Int) (c : Int), (p ≤ c ∧ c ≤ q) → (∀ z ∈ zs, p ≤ z ∧ z ≤ q) → p ≤ zs.foldl f c ∧ zs.foldl f c ≤ q
  | [], c, hc, _ => hc
  | z :: t, c, hc, h => fold_bd f hf p q t (f c z) (by rcases hf c z with e | e <;> rw [e]; exact hc; exact h z (by simp)) fun x hx => h x (by simp [hx])
theorem getD_mem (zs : List Int) (k : Nat) (h : k < zs.length) : zs.getD k 0 ∈ zs := by
  rw [show zs.getD k 0 = zs[k] by simp [List.getD, h]]; exact List.getElem_mem _
theorem minC (a b : Int) : min a b = a ∨ min a b = b := by omega
theorem maxC (a b : Int) : max a b = a ∨ max a b = b := by omega
theorem ne_of_len {zs : List Int} {n : Nat} (h : zs.length = n) (h0 : 0 < n) : zs ≠ [] := by rintro rfl; simp at h; omega
set_option maxHeartbeats 4000000 in
theorem voltC (A : Array Value) (mn mx gp : Int) (h11 : A[11]? = some (.int .i64 mn)) (h12 : A[12]? = some (.int .i64 mx)) (h13 : A[13]? = some (.int .i64 gp))
    (g len cap : Nat) (zs : List Int) (hz : zs.length = len) (hl : 0 < len) (hm : len ≤ 4) (hb : ∀ z ∈ zs, 0 ≤ z ∧ z ≤ 6000) (w : World)
    (hc : ∀ i, i < len → w.cell? ⟨g, i, none⟩ = some (.int .i64 (zs.getD i 0))) :
    Calls Try.prog 41 #[.agg A, .slice (some ⟨g, 0, none⟩) len cap] w fun e w' => e = .returned (.int .i64 (vflags mn mx gp zs)) ∧ Below w.heap.size w w' := by
  have HZ := Lib.hid hz
  have HBd := Lib.hid hb
  clear hz hb
  go_enter Try.func41, Try.ntmps41
  go_upto_region 2 with fail
  generalize hW : World.alloc w _ = W0
  obtain ⟨hrow, hb0⟩ : W0.heap[w.heap.size]? = some (.cells A 34 (0, 0)) ∧ Below w.heap.size w W0 := by
    rw [← hW]
    exact ⟨heap_alloc_new _ _, (Below.refl _ _).alloc (Nat.le_refl _) _⟩
  have HC := Lib.hid (show ∀ i, i < len → W0.cell? ⟨g, i, none⟩ = some (.int .i64 (zs.getD i 0)) from fun i hi => by rw [← hW]; exact cell_alloc (hc i hi) _)
  clear hW hc
  have c11 : W0.cell? ⟨w.heap.size, 11, none⟩ = some (.int .i64 mn) := (cell_of_row W0 _ 11 _ _ _ hrow).trans h11
  have c12 : W0.cell? ⟨w.heap.size, 12, none⟩ = some (.int .i64 mx) := (cell_of_row W0 _ 12 _ _ _ hrow).trans h12
  have c13 : W0.cell? ⟨w.heap.size, 13, none⟩ = some (.int .i64 gp) := (cell_of_row W0 _ 13 _ _ _ hrow).trans h13
  have HB := Lib.hid hb0
  clear hrow h11 h12 h13 hb0
  have z0 := HC.out 0 hl
  have zb0 := HBd.out _ (getD_mem zs 0 (by rw [HZ.out]; exact hl))
  obtain ⟨a0, ha0⟩ : ∃ a, zs.getD 0 0 = a := ⟨_, rfl⟩
  rw [ha0] at z0 zb0
  have HA0 := Lib.hid ha0
  clear ha0
  go_quiet (fail)
  clear z0
  obtain ⟨HB1, HC1, d11, d12, d13⟩ : Hid (Below w.heap.size w (W0.drewN nq)) ∧ Hid (∀ i, i < len → (W0.drewN nq).cell? ⟨g, i, none⟩ = some (.int .i64 (zs.getD i 0))) ∧ (W0.drewN nq).cell? ⟨w.heap.size, 11, none⟩ = some (.int .i64 mn) ∧ (W0.drewN nq).cell? ⟨w.heap.size, 12, none⟩ = some (.int .i64 mx) ∧ (W0.drewN nq).cell? ⟨w.heap.size, 13, none⟩ = some (.int .i64 gp) :=
    ⟨Lib.hid (below_drewN HB.out _), Lib.hid HC.out, c11, c12, c13⟩
  clear HB HC c11 c12 c13
  generalize W0.drewN nq = W1 at *
  go_wp2_with fail
  go_loop [6, 7, 18] (fun lo hi i => ∃ k : Nat, k ≤ len ∧ i = .int .i64 k ∧ lo = .int .i64 ((zs.take k).foldl min a0) ∧ hi = .int .i64 ((zs.take k).foldl max a0)) (fun _ _ i => len - (intOf i).toNat)
  case atStart => exact ⟨0, by omega, rfl, rfl, rfl⟩
  case round =>
    obtain ⟨k, hk, rfl, rfl, rfl⟩ := hrel
    by_cases hlt : k < len
    · have S1 := Lib.hid (fold_snoc min zs a0 k (by rw [HZ.out]; exact hlt))
      have S2 := Lib.hid (fold_snoc max zs a0 k (by rw [HZ.out]; exact hlt))
      have zk := HC1.out k hlt
      generalize (zs.take k).foldl min a0 = a at *
      generalize (zs.take k).foldl max a0 = b at *
      obtain ⟨v, hv⟩ : ∃ a, zs.getD k 0 = a := ⟨_, rfl⟩
      rw [hv] at zk
      have HV := Lib.hid hv
      clear hv
      go_wp2_with fail
      all_goals
        go_round
        case rel => exact ⟨k + 1, by omega, by go_num, by rw [S1.out, HV.out]; exact congrArg (Value.int .i64) (by omega), by rw [S2.out, HV.out]; exact congrArg (Value.int .i64) (by omega)⟩
        case measure => simp [intOf]; omega
    · obtain rfl : k = len := by omega
      have B1 := fold_bd min minC 0 6000 zs a0 zb0 HBd.out
      have B2 := fold_bd max maxC 0 6000 zs a0 zb0 HBd.out
      have E1 := foldlo_end zs (ne_of_len HZ.out hl)
      have E2 := foldhi_end zs (ne_of_len HZ.out hl)
      rw [HA0.out] at E1 E2
      have E0 : zs.take k = zs := List.take_of_length_le (by rw [HZ.out]; exact Nat.le_refl _)
      have NE := Lib.hid (ne_of_len HZ.out hl)
      obtain ⟨a, ha⟩ : ∃ a, loL zs = a := ⟨_, rfl⟩
      obtain ⟨b, hb⟩ : ∃ a, hiL zs = a := ⟨_, rfl⟩
      rw [E1, ha] at B1
      rw [E2, hb] at B2
      rw [E0, E1, E2, ha, hb]
      have HA := Lib.hid ha
      have HBB := Lib.hid hb
      clear E1 E2 E0 ha hb
      have KS := Lib.hid fun (w : World) => fixedSub b a (by unfold I64; omega) (by unfold I64; omega) w
      rw [show sat (b - a) = b - a by unfold sat; omega] at KS
      by_cases hu : a < mn <;> by_cases ho : mx < b <;> by_cases hg : gp < b - a
      all_goals
        go_wp2_with fail
        go_quiet ((go_at_call 50; exact Calls.quiet_of_same ((KS.out _).mono fun e w' h => ⟨h.1, h.2.symm⟩)))
        go_wp2_with fail
        go_ret
        refine ⟨ret_i64 ?_, below_drewN HB1.out _⟩
        unfold vflags
        rw [HA.out, HBB.out]
        simp only [ne_eq, NE.out, not_false_eq_true, true_and]
        (first | rw [show decide (a < mn) = true from decide_eq_true (by omega)] | rw [show decide (a < mn) = false from decide_eq_false (by omega)])
        (first | rw [show decide (mx < b) = true from decide_eq_true (by omega)] | rw [show decide (mx < b) = false from decide_eq_false (by omega)])
        (first | rw [show decide (gp < b - a) = true from decide_eq_true (by omega)] | rw [show decide (gp < b - a) = false from decide_eq_false (by omega)])
        rfl
end Go.Proofs.Ytomjhoaffbjkgaa
