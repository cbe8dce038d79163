/- What a configuration out of three numbers is. No condition. -/
import Derived.Test.YtbeemfkndpandaaDoorOnly
import Derived.Test.YtbeemfkndpandaaDoorCame
import Derived.Handy
import Derived.OpenShut
import Derived.Lib.Hide
import Derived.Deep.QuietTactic
import Derived.BigQuiet
import Derived.Maps.AppendAt
import Derived.Deep.AppendLies
import Derived.Laws.Tables
import Derived.OwnWalk
import Derived.Laws.OwnMore
namespace Go.Proofs.YtbeemfkndpandaaDoor
open Go.RowKit
theorem ret_cn {a b : Int} (h : a = b) : Ending.returned (.int .i64 a) = .returned (.int .i64 b) := by rw [h]
theorem numberC (n b : Int) (hb : 1 ≤ b) (hb2 : b ≤ 1099511627776) (w : World) :
    Calls Tryd.prog 26 #[.int .i64 n, .int .i64 b] w fun e w' => e = .returned (.int .i64 (n % b)) ∧ w = w' := by
  have t1 : -b < n.tmod b := by
    have := Int.tmod_lt_of_pos (-n) (show (0 : Int) < b by omega)
    rw [Int.neg_tmod] at this; omega
  have t2 : n.tmod b < b := Int.tmod_lt_of_pos n (by omega)
  have e0 : ((b : Int) == 0) = false := by rw [beq_eq_false_iff_ne]; omega
  go_enter Tryd.func26, Tryd.ntmps26
  go_wp2
  all_goals
    go_ret
    refine ⟨ret_cn ?_, rfl⟩
    have q1 := Int.mul_tdiv_add_tmod n b
    first
      | (have k := Int.emod_emod_of_dvd n (Int.dvd_refl b)
         have : n % b = (n.tmod b + b) % b := by
           rw [Int.add_emod_right]
           conv => lhs; rw [← q1]
           rw [Int.add_comm, Int.add_mul_emod_self_left]
         rw [this, Int.emod_eq_of_lt (by omega) (by omega)])
      | (have : n % b = (n.tmod b) % b := by
           conv => lhs; rw [← q1]
           rw [Int.add_comm, Int.add_mul_emod_self_left]
         rw [this, Int.emod_eq_of_lt (by omega) (by omega)])
/-- The numbers that turn with n, m, k. -/
structure CF where
  D : Int
  B : Int
  S : Int
  P : Int
  H : Int
  err : Int
  eland : Int
  margin : Int
def cfgOf (n m k : Int) : CF := ⟨1 + n % 4, 1 + n / 4 % 3, 1 + n / 12 % 4, 1 + n / 48 % 9, 1 + n / 432 % 5, m % 5, 1000 * (k % 8), 500 + m / 5 % 4 * 500⟩
def cfgA (c : CF) (oc fe : Value) : Array Value := #[.int .i64 c.D, .int .i64 c.B, .int .i64 c.S, .int .i64 c.P, .int .i64 c.H, .int .i64 100000, .int .i64 0, .int .i64 500, .int .i64 20000, .int .i64 10000, .int .i64 12000, .int .i64 3000, .int .i64 4200, .int .i64 300, .int .i64 600, .int .i64 1000, .int .i64 20, .int .i64 100, .int .i64 c.err, .int .i64 50, oc, .int .i64 3000, .int .i64 500, .int .i64 3000, .int .i64 c.eland, .int .i64 c.margin, fe]
def ocvA : Array Value := #[.int .i64 0, .int .i64 20000, .int .i64 20000, .int .i64 23000, .int .i64 80000, .int .i64 25000, .int .i64 100000, .int .i64 28000]
def Ocv (w : World) (O : Nat) : Prop := w.heap[O]? = some (.cells ocvA 67 (0, 0))
def Cfg (w : World) (B : Nat) (c : CF) (oc fe : Value) : Prop := w.heap[B]? = some (.cells (cfgA c oc fe) 31 (0, 0))
/-- What a call of Config returns. -/
def cfgV (c : CF) (O : Nat) (fe : Value) : Value := .agg (cfgA c (.slice (some ⟨O, 0, none⟩) 4 4) fe)
theorem feederI : (Tryd.prog.info? 50).map (fun i => (i.zero, i.size, i.bytes)) = some (some (.agg #[.int .i64 0, .int .i64 0, .int .i64 0]), 3, 24) := by kernel_rfl
theorem tq {a b : Int} (h : 0 ≤ a) : a.tdiv b = a / b := Int.tdiv_eq_ediv_of_nonneg h
theorem tm {a b : Int} (h : 0 ≤ a) : a.tmod b = a % b := Int.tmod_eq_emod_of_nonneg h
theorem wp_build_eq {P : Program} {o : Oper} {a : Act} {w : World} {K : Act → World → Prop} {Q : Exit → Act → World → Prop} (t : TypeId) (parts : Array (Nat × Operand)) (ho : o.op = .build t parts)
    (cells : Array Value) (hf : P.built t (parts.map fun (i, x) => (i, a.eval x)).toList = some cells)
    (h : K (a.put o.dst (.agg cells)) w) : o.wp P a w K Q :=
  wp_build t parts ho (by rw [hf]; rfl) (by rw [hf]; exact h)
theorem Cfg.oc {W : World} {B : Nat} {c : CF} {oc fe : Value} (h : Cfg W B c oc fe) (v : Value) : Cfg (W.setCell ⟨B, 20, none⟩ v) B c v fe := by
  unfold Cfg cfgA at *
  simp [World.setCell, Array.getElem?_modify, h]
theorem Cfg.fe {W : World} {B : Nat} {c : CF} {oc fe : Value} (h : Cfg W B c oc fe) (v : Value) : Cfg (W.setCell ⟨B, 26, none⟩ v) B c oc v := by
  unfold Cfg cfgA at *
  simp [World.setCell, Array.getElem?_modify, h]
theorem Cfg.below {W W' : World} {B b : Nat} {c : CF} {oc fe : Value} (h : Cfg W B c oc fe) (hb : Below b W W') (hl : B < b) : Cfg W' B c oc fe := (hb.block B hl).trans h
theorem Cfg.froz {W : World} {B : Nat} {c : CF} {oc fe : Value} (h : Cfg W B c oc fe) (j : Nat) : W.frozen? ⟨B, j, none⟩ = false := by
  unfold Cfg at h
  simp [World.frozen?, h]
theorem Ocv.below {W W' : World} {B b : Nat} (h : Ocv W B) (hb : Below b W W') (hl : B < b) : Ocv W' B := (hb.block B hl).trans h
/-- A whole store into what was made just now: the world behind it as a letter. -/
theorem upon_fresh {P : Program} {o : Oper} {a : Act} {next : Act → World → Prop} {Q : Exit → Act → World → Prop} {w : World} {g : Nat} {cells cur : Array Value} {t : TypeId}
    (hg : g = w.heap.size) (hl : cur.size = cells.size) (h1 : cells.all (·.oneCell') = true)
    (h : ∀ W, Below w.heap.size w W → W.heap.size = w.heap.size + 1 → W.heap[g]? = some (.cells cells t (0, 0)) → next (a.put o.dst undef) W) :
    Oper.upon P o a next Q (((storeCells ⟨g, 0, none⟩ cells.toList).run P (w.alloc (.cells cur t (0, 0)))).andThen fun _ w' => .ok .skip w') := by
  subst hg
  rw [run_storeCells_from w.heap.size t cells.toList 0 cur (w.alloc (.cells cur t (0, 0))) (heap_alloc_new _ _) (by simp; omega) (fun v hv => (Array.all_eq_true_iff_forall_mem.1 h1) v (by simpa using hv))]
  have b0 : Below w.heap.size w (w.alloc (.cells cur t (0, 0))) := (Below.refl _ _).alloc (Nat.le_refl _) _
  have hn := heap_alloc_new w (.cells cur t (0, 0))
  refine h _ ⟨b0.os, b0.tape, b0.output, by simp, fun k hk => ?_⟩ (by simp) ?_
  · rw [setRow_other _ _ _ _ (Nat.ne_of_lt hk)]; exact b0.block k hk
  · have := setRow_heap _ _ _ cells _ _ hn
    simpa using this
theorem cfgA_one {c : CF} {oc fe : Value} (h1 : oc.oneCell' = true) (h2 : fe.oneCell' = true) : (cfgA c oc fe).all (·.oneCell') = true := by
  unfold cfgA
  rw [← Array.all_toList]
  simp only [List.all_cons, List.all_nil, h1, h2, Bool.and_true, Bool.true_and]
  rfl
theorem below_setRow {b g : Nat} {w w' : World} (h : Below b w w') (hg : b ≤ g) (cs : Array Value) : Below b w (w'.setRow g cs) :=
  ⟨h.os, h.tape, h.output, by simpa using h.size, fun k hk => (setRow_other _ _ _ _ (by omega)).trans (h.block k hk)⟩
theorem ownsRow_setCell {w : World} {base : Nat} {e : TypeId} {size : Nat} {v : Value} {n : Nat} {xs : List Value} (h : w.ownsRow base e size v n xs) (B o : Nat) (u : Value) (hB : B < base) : (w.setCell ⟨B, o, none⟩ u).ownsRow base e size v n xs := by
  refine ⟨h.1, h.2.imp id ?_⟩
  rintro ⟨g, cap, cur, hv, hb, hg, h1⟩
  exact ⟨g, cap, cur, hv, hb, (heap_setCell_other w ⟨B, o, none⟩ g u (by simp; omega)).trans hg, h1⟩
set_option maxRecDepth 100000 in
set_option maxHeartbeats 4000000 in
theorem configC (n m k : Int) (w : World) :
    Calls Tryd.prog 15 #[.int .i64 n, .int .i64 m, .int .i64 k] w fun e w' => ∃ O fa fl fc, e = .returned (cfgV (cfgOf (n % 1048576) (m % 1048576) (k % 1048576)) O (.slice fa fl fc)) ∧ w.heap.size ≤ O ∧ Ocv w' O ∧ Below w.heap.size w w' := by
  obtain ⟨i0, hi0, hz0, hz1, hz2⟩ := info_parts feederI
  have N0 := Lib.hid fun (w : World) => numberC n 1048576 (by omega) (by omega) w
  have N1 := Lib.hid fun (w : World) => numberC m 1048576 (by omega) (by omega) w
  have N2 := Lib.hid fun (w : World) => numberC k 1048576 (by omega) (by omega) w
  have n1 := Int.emod_nonneg n (show (1048576 : Int) ≠ 0 by omega)
  have n2 := Int.emod_lt_of_pos n (show (0 : Int) < 1048576 by omega)
  have m1 := Int.emod_nonneg m (show (1048576 : Int) ≠ 0 by omega)
  have m2 := Int.emod_lt_of_pos m (show (0 : Int) < 1048576 by omega)
  have k1 := Int.emod_nonneg k (show (1048576 : Int) ≠ 0 by omega)
  have k2 := Int.emod_lt_of_pos k (show (0 : Int) < 1048576 by omega)
  generalize n % 1048576 = n' at *
  generalize m % 1048576 = m' at *
  generalize k % 1048576 = k' at *
  go_enter Tryd.func15, Tryd.ntmps15
  go_wp2_with fail
  refine (N0.out _).mono ?_
  rintro e w' ⟨rfl, rfl⟩
  go_wp2_with fail
  refine (N1.out _).mono ?_
  rintro e w' ⟨rfl, rfl⟩
  go_wp2_with fail
  refine (N2.out _).mono ?_
  rintro e w' ⟨rfl, rfl⟩
  go_wp2_with fail
  all_goals
    refine wp_build_eq 31 _ rfl (cfgA (cfgOf n' m' k') (.slice none 0 0) (.slice none 0 0)) (by kernel_rfl) ?_
    dsimp only
    go_wp2_with fail
    refine upon_fresh (by simp) rfl (by kernel_rfl) ?_
    intro W1 b1 s1 h1
    have B1 := Lib.hid (((Below.refl _ w).alloc (Nat.le_refl _) _).trans (b1.mono (Nat.le_of_lt (by simp))))
    obtain ⟨R0, hR, hsz⟩ : ∃ R0 : Array Value, W1.heap[w.heap.size]? = some (.cells R0 31 (0, 0)) ∧ R0.size = 27 := ⟨_, (b1.block _ (by simp)).trans (heap_alloc_new _ _), rfl⟩
    have RR := Lib.hid (And.intro hR hsz)
    have CC := Lib.hid h1
    have s2 : W1.heap.size = w.heap.size + 2 := by simp at s1; exact s1
    have c20 := cell_of_row W1 _ 20 _ _ _ h1
    have f20 : W1.frozen? ⟨w.heap.size + 1, 20, none⟩ = false := by simp [World.frozen?, h1]
    clear b1 hR hsz h1 s1
    replace c20 : W1.cell? ⟨w.heap.size + 1, 20, none⟩ = some (.slice none 0 0) := c20
    go_wp2_with fail
    go_loopw [8] (fun v wr => ∃ (i : Nat) (fe : Value) (xs : List Value), i ≤ 6 ∧ v = .int .i64 i ∧ Cfg wr (w.heap.size + 1) (cfgOf n' m' k') (.slice (some ⟨w.heap.size + 2, 0, none⟩) 4 4) fe ∧ Ocv wr (w.heap.size + 2) ∧ wr.heap[w.heap.size]? = some (.cells R0 31 (0, 0)) ∧ wr.ownsRow (w.heap.size + 3) 50 3 fe i xs ∧ Below w.heap.size w wr) (fun v _ => 6 - (intOf v).toNat)
    case atStart =>
      refine ⟨0, .slice none 0 0, [], by omega, rfl, ?_, ?_, ?_, ⟨rfl, .inl ⟨rfl, rfl⟩⟩, ?_⟩
      · exact Cfg.below (b := w.heap.size + 2) (Cfg.oc CC.out _) ((Below.refl _ _).alloc (by simp [s2]) _) (by omega)
      · show ((W1.setCell _ _).alloc _).heap[_]? = _
        have q := heap_alloc_new (W1.setCell ⟨w.heap.size + 1, 20, none⟩ (.slice (some ⟨w.heap.size + 2, 0, none⟩) 4 4)) (.cells ocvA 67)
        rw [show (W1.setCell ⟨w.heap.size + 1, 20, none⟩ (.slice (some ⟨w.heap.size + 2, 0, none⟩) 4 4)).heap.size = w.heap.size + 2 by simp [s2]] at q
        exact q
      · rw [((Below.refl (w.heap.size + 1) (W1.setCell ⟨w.heap.size + 1, 20, none⟩ (.slice (some ⟨w.heap.size + 2, 0, none⟩) 4 4))).alloc (by simp [s2]) _).block _ (by omega), heap_setCell_other _ ⟨_, _, _⟩ _ _ (by simp)]
        exact RR.out.1
      · exact (B1.out.setCell (p := ⟨w.heap.size + 1, 20, none⟩) (by simp) _).alloc (by simp [s2]) _
    case round =>
      obtain ⟨i, fe, xs, hi, rfl, hc, ho, hr, hown, hb⟩ := hrel
      have c26 := cell_of_row wr _ 26 _ _ _ hc
      replace c26 : wr.cell? ⟨w.heap.size + 1, 26, none⟩ = some fe := c26
      have f26 : wr.frozen? ⟨w.heap.size + 1, 26, none⟩ = false := hc.froz 26
      have FC := Lib.hid hc
      have FO := Lib.hid ho
      have FR := Lib.hid hr
      have FW := Lib.hid hown
      have FB := Lib.hid hb
      clear hc ho hr hown hb c20 f20
      have bs : w.heap.size + 3 ≤ wr.heap.size := (Array.getElem?_eq_some_iff.1 FO.out).1
      have hne : ∀ k, k < w.heap.size + 3 → some k ≠ fe.ownBlock := fun k hk e => by have := (FW.out.lt k e.symm).1; omega
      have HN := Lib.hid hne
      have hone : fe.oneCell' = true := by rcases FW.out.2 with ⟨h, _⟩ | ⟨g, cap, cur, h, _⟩ <;> rw [h] <;> rfl
      clear hne
      have ii : (0 : Int) ≤ (i : Int) * i ∧ (i : Int) * i ≤ 36 := ⟨Int.mul_nonneg (by omega) (by omega), Int.le_trans (Int.mul_le_mul (show (i : Int) ≤ 6 by omega) (show (i : Int) ≤ 6 by omega) (by omega) (by omega)) (by decide)⟩
      go_wp2_with (first
        | (at_builtin
           refine wpList_append_lies _ rfl _ _ 29 rfl (w.heap.size + 3) 50 i0 (.agg #[.int .i64 0, .int .i64 0, .int .i64 0]) 3 24 Tryd.underlying29 hi0 hz0 hz1 hz2 rfl (by decide) fe i xs rfl (FW.out.alloc _) ⟨wr.heap.size, 0, none⟩ 1 1 _ rfl ?hl (World.news_of_block (heap_alloc_new _ _)) ?h1 (by decide) (by unfold maxLen; omega) (by omega) (by simp; omega) _ rfl ?_
           case hl => rfl
           case h1 => simp [Value.oneCell']
           intro g cap w3 hown' hgrow hat hlt
           have hw3 : Cfg w3 (w.heap.size + 1) (cfgOf n' m' k') (.slice (some ⟨w.heap.size + 2, 0, none⟩) 4 4) fe := (hgrow.block _ (by simp; omega) (HN.out _ (by omega))).trans (Cfg.below FC.out ((Below.refl wr.heap.size wr).alloc (Nat.le_refl _) _) (by omega))
           have ho3 : Ocv w3 (w.heap.size + 2) := (hgrow.block _ (by simp; omega) (HN.out _ (by omega))).trans (Ocv.below FO.out ((Below.refl wr.heap.size wr).alloc (Nat.le_refl _) _) (by omega))
           have hr3 : w3.heap[w.heap.size]? = some (.cells R0 31 (0, 0)) := (hgrow.block _ (by simp; omega) (HN.out _ (by omega))).trans ((((Below.refl wr.heap.size wr).alloc (Nat.le_refl _) _).block _ (by omega)).trans FR.out)
           have c26' := cell_of_row w3 _ 26 _ _ _ hw3
           replace c26' : w3.cell? ⟨w.heap.size + 1, 26, none⟩ = some fe := c26'
           have f26' : w3.frozen? ⟨w.heap.size + 1, 26, none⟩ = false := hw3.froz 26
           have G1 := Lib.hid hw3
           have G2 := Lib.hid ho3
           have G3 := Lib.hid hr3
           have G4 := Lib.hid hown'
           have G5 := Lib.hid ((FB.out.alloc FB.out.size _).grown hgrow (by simp; omega) (fun q hq => Nat.le_trans (by omega) (FW.out.lt q hq).1))
           clear hw3 ho3 hr3 hown' hgrow hat)
        | refine wpList_load_row rfl 31 _ rfl (w.heap.size + 1) rfl 31 _ (0, 0) _ FC.out Tryd.underlying31 rfl (by kernel_rfl) ?_
        | refine wpList_store_row rfl 31 _ _ rfl w.heap.size _ rfl rfl 31 R0 FR.out (by kernel_rfl) (RR.out.2.trans rfl) (cfgA_one rfl hone) ?_)
      case roundEnd =>
        go_roundw
        case rel =>
          refine ⟨i + 1, _, _, by omega, by go_num, Cfg.fe G1.out _, ?_, ?_, ownsRow_setCell G4.out _ _ _ (by omega), G5.out.setCell (p := ⟨w.heap.size + 1, 26, none⟩) (by simp) _⟩
          · exact (heap_setCell_other _ ⟨_, _, _⟩ _ _ (by simp)).trans G2.out
          · exact (heap_setCell_other _ ⟨_, _, _⟩ _ _ (by simp)).trans G3.out
        case measure => simp [intOf]; omega
      all_goals
        refine bodyPost_ret (v := cfgV (cfgOf n' m' k') (w.heap.size + 2) fe) (results_cell_row Tryd.results15 _ _ w.heap.size 31 _ (0, 0) _ rfl (setRow_heap _ _ _ _ _ _ FR.out) Tryd.underlying31 rfl (by kernel_rfl)) rfl ?_
        obtain ⟨fa, fl, fc, hfe⟩ : ∃ fa fl fc, fe = .slice fa fl fc := by
          rcases FW.out.2 with ⟨h, _⟩ | ⟨g, cap, cur, h, _⟩
          · exact ⟨_, _, _, h⟩
          · exact ⟨_, _, _, h⟩
        exact ⟨w.heap.size + 2, fa, fl, fc, by rw [hfe], by omega, (setRow_other _ _ _ _ (by omega)).trans FO.out, below_setRow FB.out (Nat.le_refl _) _⟩
end Go.Proofs.YtbeemfkndpandaaDoor
