/- A configuration out of few numbers, with its feeders. Conditions: none. -/
import Derived.Test.YtbeemfkndpandaaDoorCfg
import Derived.Test.YtbeemfkndpandaaDoorBase
import Derived.Test.YtbeemfkndpandaaDoorReach
namespace Go.Proofs.YtbeemfkndpandaaDoor
open Go.RowKit
set_option linter.unusedVariables false
def busI (k : Int) (i : Nat) : Int := 4 + ((i : Int) + k / 8) % 3
def loadI (k : Int) (i : Nat) : Int := 50 + 60 * ((k / 24 + (i : Int)) % 5)
def prioI (k : Int) (i : Nat) : Int := (k / 120 + (i : Int) * i) % 4
def feeds (k : Int) : Nat → List Value
  | 0 => []
  | i + 1 => feeds k i ++ [.int .i64 (busI k i), .int .i64 (loadI k i), .int .i64 (prioI k i)]
theorem feeds_len (k : Int) (n : Nat) : (feeds k n).length = n * 3 := by
  induction n with
  | zero => rfl
  | succ n ih => simp [feeds, ih]; omega
theorem feeds_at (k : Int) (n i : Nat) (h : i < n) : (feeds k n)[i * 3]? = some (.int .i64 (busI k i)) ∧ (feeds k n)[i * 3 + 1]? = some (.int .i64 (loadI k i)) ∧ (feeds k n)[i * 3 + 2]? = some (.int .i64 (prioI k i)) := by
  induction n with
  | zero => omega
  | succ n ih =>
    have hl := feeds_len k n
    unfold feeds
    by_cases q : i = n
    · subst q
      refine ⟨?_, ?_, ?_⟩ <;> rw [List.getElem?_append_right (by omega), hl]
      · rw [show i * 3 - i * 3 = 0 by omega]; rfl
      · rw [show i * 3 + 1 - i * 3 = 1 by omega]; rfl
      · rw [show i * 3 + 2 - i * 3 = 2 by omega]; rfl
    · obtain ⟨h1, h2, h3⟩ := ih (by omega)
      refine ⟨?_, ?_, ?_⟩ <;> rw [List.getElem?_append_left (by omega)]
      · exact h1
      · exact h2
      · exact h3
/-- The feeders lie where the slice says. -/
def Feeds (w : World) (fa : Option Addr) (n : Nat) (k : Int) : Prop :=
  ∀ i, i < n → ∃ F, fa = some ⟨F, 0, none⟩ ∧ w.cell? ⟨F, i * 3, none⟩ = some (.int .i64 (busI k i)) ∧ w.cell? ⟨F, i * 3 + 1, none⟩ = some (.int .i64 (loadI k i)) ∧ w.cell? ⟨F, i * 3 + 2, none⟩ = some (.int .i64 (prioI k i))
theorem Feeds.below {w w' : World} {fa : Option Addr} {n : Nat} {k : Int} (h : Feeds w fa n k) (hb : Below w.heap.size w w') : Feeds w' fa n k := by
  intro i hi
  obtain ⟨F, e, h1, h2, h3⟩ := h i hi
  exact ⟨F, e, below_cell hb h1, below_cell hb h2, below_cell hb h3⟩
theorem Feeds.setRow {w : World} {fa : Option Addr} {n : Nat} {k : Int} (h : Feeds w fa n k) (B : Nat) (cs : Array Value) (hg : ∀ F, fa = some ⟨F, 0, none⟩ → B < F) : Feeds (w.setRow B cs) fa n k := by
  intro i hi
  obtain ⟨F, e, h1, h2, h3⟩ := h i hi
  have hb := hg F e
  have q : ∀ j, (w.setRow B cs).cell? ⟨F, j, none⟩ = w.cell? ⟨F, j, none⟩ := by
    intro j
    unfold World.cell?
    rw [show (⟨F, j, none⟩ : Addr).block = F from rfl, setRow_other _ _ _ _ (by omega)]
  exact ⟨F, e, by rw [q]; exact h1, by rw [q]; exact h2, by rw [q]; exact h3⟩
theorem Feeds.of_owns {w : World} {base : Nat} {fe : Value} {n : Nat} {k : Int} (h : w.ownsRow base 50 3 fe n (feeds k n)) : ∃ fa fc, fe = .slice fa n fc ∧ Feeds w fa n k ∧ (∀ F, fa = some ⟨F, 0, none⟩ → base ≤ F) := by
  rcases h.2 with ⟨e, rfl⟩ | ⟨g, cap, cur, e, hb, hg, hn, hc, hs, ht⟩
  · exact ⟨_, _, e, fun i hi => absurd hi (by omega), fun F hF => by cases hF⟩
  · refine ⟨_, _, e, fun i hi => ⟨g, rfl, ?_⟩, fun F hF => by cases hF; exact hb⟩
    have hf := feeds_at k n i hi
    rw [← ht] at hf
    have hq : ∀ j v, j < n * 3 → (cur.toList.take (n * 3))[j]? = some v → w.cell? ⟨g, j, none⟩ = some v := by
      intro j v hj hv
      rw [List.getElem?_take_of_lt hj] at hv
      exact (cell_of_row _ _ j _ _ _ hg).trans (by simpa using hv)
    exact ⟨hq _ _ (by omega) hf.1, hq _ _ (by omega) hf.2.1, hq _ _ (by omega) hf.2.2⟩
set_option maxRecDepth 100000 in
set_option maxHeartbeats 4000000 in
theorem configF (n m k : Int) (w : World) :
    Calls Tryd.prog 15 #[.int .i64 n, .int .i64 m, .int .i64 k] w fun e w' => ∃ O fa fc, e = .returned (cfgV (cfgOf (n % 1048576) (m % 1048576) (k % 1048576)) O (.slice fa (m % 1048576 / 20 % 7).toNat fc)) ∧ w.heap.size ≤ O ∧ Ocv w' O ∧ Feeds w' fa (m % 1048576 / 20 % 7).toNat (k % 1048576) ∧ Below w.heap.size w w' := by
  obtain ⟨i0, hi0, hz0, hz1, hz2⟩ := info_parts feederI
  have N0 := Lib.hid fun (w : World) => numberC n 1048576 (by omega) (by omega) w
  have N1 := Lib.hid fun (w : World) => numberC m 1048576 (by omega) (by omega) w
  have N2 := Lib.hid fun (w : World) => numberC k 1048576 (by omega) (by omega) w
  have n1 := Int.emod_nonneg n (show (1048576 : Int) ≠ 0 by omega)
  have n2 := Int.emod_lt_of_pos n (show (0 : Int) < 1048576 by omega)
  have m1 := Int.emod_nonneg m (show (1048576 : Int) ≠ 0 by omega)
  have m2 := Int.emod_lt_of_pos m (show (0 : Int) < 1048576 by omega)
  have k1 := Int.emod_nonneg k (show (1048576 : Int) ≠ 0 by omega)
  have k2 := Int.emod_lt_of_pos k (show (0 : Int) < 1048576 by omega)
  generalize n % 1048576 = n' at *
  generalize m % 1048576 = m' at *
  generalize k % 1048576 = k' at *
  go_enter Tryd.func15, Tryd.ntmps15
  go_wp2_with fail
  refine (N0.out _).mono ?_
  rintro e w' ⟨rfl, rfl⟩
  go_wp2_with fail
  refine (N1.out _).mono ?_
  rintro e w' ⟨rfl, rfl⟩
  go_wp2_with fail
  refine (N2.out _).mono ?_
  rintro e w' ⟨rfl, rfl⟩
  go_wp2_with fail
  all_goals
    refine wp_build_eq 31 _ rfl (cfgA (cfgOf n' m' k') (.slice none 0 0) (.slice none 0 0)) (by kernel_rfl) ?_
    dsimp only
    go_wp2_with fail
    refine upon_fresh (by simp) rfl (by kernel_rfl) ?_
    intro W1 b1 s1 h1
    have B1 := Lib.hid (((Below.refl _ w).alloc (Nat.le_refl _) _).trans (b1.mono (Nat.le_of_lt (by simp))))
    obtain ⟨R0, hR, hsz⟩ : ∃ R0 : Array Value, W1.heap[w.heap.size]? = some (.cells R0 31 (0, 0)) ∧ R0.size = 27 := ⟨_, (b1.block _ (by simp)).trans (heap_alloc_new _ _), rfl⟩
    have RR := Lib.hid (And.intro hR hsz)
    have CC := Lib.hid h1
    have s2 : W1.heap.size = w.heap.size + 2 := by simp at s1; exact s1
    have c20 := cell_of_row W1 _ 20 _ _ _ h1
    have f20 : W1.frozen? ⟨w.heap.size + 1, 20, none⟩ = false := by simp [World.frozen?, h1]
    clear b1 hR hsz h1 s1
    replace c20 : W1.cell? ⟨w.heap.size + 1, 20, none⟩ = some (.slice none 0 0) := c20
    go_wp2_with fail
    go_loopw [8] (fun v wr => ∃ (i : Nat) (fe : Value), i ≤ (m' / 20 % 7).toNat ∧ v = .int .i64 i ∧ Cfg wr (w.heap.size + 1) (cfgOf n' m' k') (.slice (some ⟨w.heap.size + 2, 0, none⟩) 4 4) fe ∧ Ocv wr (w.heap.size + 2) ∧ wr.heap[w.heap.size]? = some (.cells R0 31 (0, 0)) ∧ wr.ownsRow (w.heap.size + 3) 50 3 fe i (feeds k' i) ∧ Below w.heap.size w wr) (fun v _ => 6 - (intOf v).toNat)
    case atStart =>
      refine ⟨0, .slice none 0 0, by omega, rfl, ?_, ?_, ?_, ⟨rfl, .inl ⟨rfl, rfl⟩⟩, ?_⟩
      · exact Cfg.below (b := w.heap.size + 2) (Cfg.oc CC.out _) ((Below.refl _ _).alloc (by simp [s2]) _) (by omega)
      · show ((W1.setCell _ _).alloc _).heap[_]? = _
        have q := heap_alloc_new (W1.setCell ⟨w.heap.size + 1, 20, none⟩ (.slice (some ⟨w.heap.size + 2, 0, none⟩) 4 4)) (.cells ocvA 67)
        rw [show (W1.setCell ⟨w.heap.size + 1, 20, none⟩ (.slice (some ⟨w.heap.size + 2, 0, none⟩) 4 4)).heap.size = w.heap.size + 2 by simp [s2]] at q
        exact q
      · rw [((Below.refl (w.heap.size + 1) (W1.setCell ⟨w.heap.size + 1, 20, none⟩ (.slice (some ⟨w.heap.size + 2, 0, none⟩) 4 4))).alloc (by simp [s2]) _).block _ (by omega), heap_setCell_other _ ⟨_, _, _⟩ _ _ (by simp)]
        exact RR.out.1
      · exact (B1.out.setCell (p := ⟨w.heap.size + 1, 20, none⟩) (by simp) _).alloc (by simp [s2]) _
    case round =>
      obtain ⟨i, fe, hi, rfl, hc, ho, hr, hown, hb⟩ := hrel
      have c26 := cell_of_row wr _ 26 _ _ _ hc
      replace c26 : wr.cell? ⟨w.heap.size + 1, 26, none⟩ = some fe := c26
      have f26 : wr.frozen? ⟨w.heap.size + 1, 26, none⟩ = false := hc.froz 26
      have FC := Lib.hid hc
      have FO := Lib.hid ho
      have FR := Lib.hid hr
      have FW := Lib.hid hown
      have FB := Lib.hid hb
      clear hc ho hr hown hb c20 f20
      have bs : w.heap.size + 3 ≤ wr.heap.size := (Array.getElem?_eq_some_iff.1 FO.out).1
      have hne : ∀ k, k < w.heap.size + 3 → some k ≠ fe.ownBlock := fun k hk e => by have := (FW.out.lt k e.symm).1; omega
      have HN := Lib.hid hne
      have hone : fe.oneCell' = true := by rcases FW.out.2 with ⟨h, _⟩ | ⟨g, cap, cur, h, _⟩ <;> rw [h] <;> rfl
      clear hne
      have hi6 : i ≤ 6 := by omega
      have HL := Lib.hid hi
      clear hi
      have ii : (0 : Int) ≤ (i : Int) * i ∧ (i : Int) * i ≤ 36 := ⟨Int.mul_nonneg (by omega) (by omega), Int.le_trans (Int.mul_le_mul (show (i : Int) ≤ 6 by omega) (show (i : Int) ≤ 6 by omega) (by omega) (by omega)) (by decide)⟩
      go_wp2_with (first
        | (at_builtin
           refine wpList_append_lies _ rfl _ _ 29 rfl (w.heap.size + 3) 50 i0 (.agg #[.int .i64 0, .int .i64 0, .int .i64 0]) 3 24 Tryd.underlying29 hi0 hz0 hz1 hz2 rfl (by decide) fe i (feeds k' i) rfl (FW.out.alloc _) ⟨wr.heap.size, 0, none⟩ 1 1 _ rfl ?hl (World.news_of_block (heap_alloc_new _ _)) ?h1 (by decide) (by unfold maxLen; omega) (by omega) (by simp; omega) _ rfl ?_
           case hl => rfl
           case h1 => simp [Value.oneCell']
           intro g cap w3 hown' hgrow hat hlt
           have hw3 : Cfg w3 (w.heap.size + 1) (cfgOf n' m' k') (.slice (some ⟨w.heap.size + 2, 0, none⟩) 4 4) fe := (hgrow.block _ (by simp; omega) (HN.out _ (by omega))).trans (Cfg.below FC.out ((Below.refl wr.heap.size wr).alloc (Nat.le_refl _) _) (by omega))
           have ho3 : Ocv w3 (w.heap.size + 2) := (hgrow.block _ (by simp; omega) (HN.out _ (by omega))).trans (Ocv.below FO.out ((Below.refl wr.heap.size wr).alloc (Nat.le_refl _) _) (by omega))
           have hr3 : w3.heap[w.heap.size]? = some (.cells R0 31 (0, 0)) := (hgrow.block _ (by simp; omega) (HN.out _ (by omega))).trans ((((Below.refl wr.heap.size wr).alloc (Nat.le_refl _) _).block _ (by omega)).trans FR.out)
           have c26' := cell_of_row w3 _ 26 _ _ _ hw3
           replace c26' : w3.cell? ⟨w.heap.size + 1, 26, none⟩ = some fe := c26'
           have f26' : w3.frozen? ⟨w.heap.size + 1, 26, none⟩ = false := hw3.froz 26
           have G1 := Lib.hid hw3
           have G2 := Lib.hid ho3
           have G3 := Lib.hid hr3
           have G4 := Lib.hid hown'
           have G5 := Lib.hid ((FB.out.alloc FB.out.size _).grown hgrow (by simp; omega) (fun q hq => Nat.le_trans (by omega) (FW.out.lt q hq).1))
           clear hw3 ho3 hr3 hown' hgrow hat)
        | refine wpList_load_row rfl 31 _ rfl (w.heap.size + 1) rfl 31 _ (0, 0) _ FC.out Tryd.underlying31 rfl (by kernel_rfl) ?_
        | refine wpList_store_row rfl 31 _ _ rfl w.heap.size _ rfl rfl 31 R0 FR.out (by kernel_rfl) (RR.out.2.trans rfl) (cfgA_one rfl hone) ?_)
      case roundEnd =>
        go_roundw
        case rel =>
          refine ⟨i + 1, _, by omega, by go_num, Cfg.fe G1.out _, ?_, ?_, ownsRow_setCell G4.out _ _ _ (by omega), G5.out.setCell (p := ⟨w.heap.size + 1, 26, none⟩) (by simp) _⟩
          · exact (heap_setCell_other _ ⟨_, _, _⟩ _ _ (by simp)).trans G2.out
          · exact (heap_setCell_other _ ⟨_, _, _⟩ _ _ (by simp)).trans G3.out
        case measure => simp [intOf]; omega
      all_goals
        refine bodyPost_ret (v := cfgV (cfgOf n' m' k') (w.heap.size + 2) fe) (results_cell_row Tryd.results15 _ _ w.heap.size 31 _ (0, 0) _ rfl (setRow_heap _ _ _ _ _ _ FR.out) Tryd.underlying31 rfl (by kernel_rfl)) rfl ?_
        have hi2 := HL.out
        obtain ⟨fa, fc, hfe, hF, hge⟩ := Feeds.of_owns FW.out
        rw [show i = (m' / 20 % 7).toNat by omega] at hfe hF
        exact ⟨w.heap.size + 2, fa, fc, by rw [hfe], by omega, (setRow_other _ _ _ _ (by omega)).trans FO.out, hF.setRow w.heap.size _ (fun F h => by have := hge F h; omega), below_setRow FB.out (Nat.le_refl _) _⟩
end Go.Proofs.YtbeemfkndpandaaDoor
