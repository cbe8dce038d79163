/- What the document's bank does, for every channel; its block alone changes. Conditions: the ages are small. -/
import Derived.Test.YtakdoagigbjngaaFrC
import Derived.Test.YtakdoagigbjngaaTail
namespace Go.Proofs.Ytakdoagigbjngaa
open Go.RowKit
set_option linter.unusedVariables false
structure Rb (w : World) (B : Nat) (st : Int) (f : Nat → Smp) : Prop where
  row : ∃ arr : Array Value, w.heap[B]? = some (.cells arr 65 (0, 0)) ∧ arr.size = 193 ∧ arr[0]? = some (.int .i64 st) ∧
    ∀ i, i < 48 → arr[1 + i]? = some (.int .i64 (f i).v) ∧ arr[49 + i]? = some (.int .u8 (f i).seq) ∧ arr[97 + i]? = some (.int .i64 (f i).age) ∧ arr[145 + i]? = some (.bool (f i).there)
theorem Rb.lt {w : World} {B : Nat} {st : Int} {f : Nat → Smp} (h : Rb w B st f) : B < w.heap.size := by
  obtain ⟨arr, h1, _⟩ := h.row
  exact (Array.getElem?_eq_some_iff.1 h1).1
theorem Rb.cells {w : World} {B : Nat} {st : Int} {f : Nat → Smp} (h : Rb w B st f) (i : Nat) (hi : i < 48) :
    w.cell? ⟨B, 0, none⟩ = some (.int .i64 st) ∧ w.cell? ⟨B, 1 + i, none⟩ = some (.int .i64 (f i).v) ∧ w.cell? ⟨B, 49 + i, none⟩ = some (.int .u8 (f i).seq) ∧ w.cell? ⟨B, 97 + i, none⟩ = some (.int .i64 (f i).age) ∧ w.cell? ⟨B, 145 + i, none⟩ = some (.bool (f i).there) ∧ ∀ j, w.frozen? ⟨B, j, none⟩ = false := by
  obtain ⟨arr, h1, _, h2, h3⟩ := h.row
  obtain ⟨a, b, c, d⟩ := h3 i hi
  refine ⟨(cell_of_row w B _ arr _ _ h1).trans h2, (cell_of_row w B _ arr _ _ h1).trans a, (cell_of_row w B _ arr _ _ h1).trans b, (cell_of_row w B _ arr _ _ h1).trans c, (cell_of_row w B _ arr _ _ h1).trans d, fun j => by simp [World.frozen?, h1]⟩
theorem Rb.below {w w' : World} {B b : Nat} {st : Int} {f : Nat → Smp} (h : Rb w B st f) (hb : Below b w w') (hl : B < b) : Rb w' B st f := by
  obtain ⟨arr, h1, h2⟩ := h.row
  exact ⟨arr, (hb.block B hl).trans h1, h2⟩
theorem Rb.only {w w' : World} {B C : Nat} {st : Int} {f : Nat → Smp} (h : Rb w C st f) (hb : Only B w w') (hn : C ≠ B) : Rb w' C st f := by
  obtain ⟨arr, h1, h2⟩ := h.row
  exact ⟨arr, hb.row h1 hn, h2⟩
theorem Bk.only {w w' : World} {B C : Nat} {st : Int} {f : Nat → Smp} (h : Bk w C st f) (hb : Only B w w') (hn : C ≠ B) : Bk w' C st f := by
  obtain ⟨arr, h1, h2⟩ := h.row
  exact ⟨arr, hb.row h1 hn, h2⟩
theorem Rb.age {w : World} {B : Nat} {st : Int} {f : Nat → Smp} (h : Rb w B st f) (c : Nat) (hc : c < 48) (a : Int) : Rb (w.setCell ⟨B, 97 + c, none⟩ (.int .i64 a)) B st (upd f c { f c with age := a }) := by
  obtain ⟨arr, h1, h2, h3, h4⟩ := h.row
  refine ⟨arr.setIfInBounds (97 + c) (.int .i64 a), by simp [World.setCell, Array.getElem?_modify, h1], by simpa using h2, by rw [get_set _ _ _ _ (by omega), if_neg (by omega)]; exact h3, fun i hi => ?_⟩
  obtain ⟨x0, x1, x2, x3⟩ := h4 i hi
  rw [get_set _ _ _ _ (by omega), get_set _ _ _ _ (by omega), get_set _ _ _ _ (by omega), get_set _ _ _ _ (by omega), if_neg (by omega), if_neg (by omega), if_neg (show ¬ 97 + c = 145 + i by omega)]
  unfold upd
  by_cases hic : i = c
  · subst hic
    rw [if_pos rfl, if_pos rfl]
    exact ⟨x0, x1, rfl, x3⟩
  · rw [if_neg (show ¬ 97 + c = 97 + i by omega)]
    simp only [if_neg hic]
    exact ⟨x0, x1, x2, x3⟩
theorem Rb.put {w : World} {B : Nat} {st : Int} {f : Nat → Smp} (h : Rb w B st f) (c : Nat) (hc : c < 48) (t : Bool) (s v a : Int) :
    Rb ((((w.setCell ⟨B, 145 + c, none⟩ (.bool t)).setCell ⟨B, 1 + c, none⟩ (.int .i64 v)).setCell ⟨B, 49 + c, none⟩ (.int .u8 s)).setCell ⟨B, 97 + c, none⟩ (.int .i64 a)) B st (upd f c ⟨t, s, v, a⟩) := by
  obtain ⟨arr, h1, h2, h3, h4⟩ := h.row
  refine ⟨(((arr.setIfInBounds (145 + c) (.bool t)).setIfInBounds (1 + c) (.int .i64 v)).setIfInBounds (49 + c) (.int .u8 s)).setIfInBounds (97 + c) (.int .i64 a), by simp [World.setCell, Array.getElem?_modify, h1], by simpa using h2, ?_, fun i hi => ?_⟩
  · rw [get_set _ _ _ _ (by simp; omega), if_neg (by omega), get_set _ _ _ _ (by simp; omega), if_neg (by omega), get_set _ _ _ _ (by simp; omega), if_neg (by omega), get_set _ _ _ _ (by omega), if_neg (by omega)]
    exact h3
  · obtain ⟨x0, x1, x2, x3⟩ := h4 i hi
    have e : ∀ j, ((((arr.setIfInBounds (145 + c) (.bool t)).setIfInBounds (1 + c) (.int .i64 v)).setIfInBounds (49 + c) (.int .u8 s)).setIfInBounds (97 + c) (.int .i64 a))[j]? = if 97 + c = j then some (.int .i64 a) else if 49 + c = j then some (.int .u8 s) else if 1 + c = j then some (.int .i64 v) else if 145 + c = j then some (.bool t) else arr[j]? := fun j => by
      rw [get_set _ _ _ _ (by simp; omega), get_set _ _ _ _ (by simp; omega), get_set _ _ _ _ (by simp; omega), get_set _ _ _ _ (by omega)]
    rw [e, e, e, e]
    unfold upd
    by_cases hic : i = c
    · subst hic
      simp
    · rw [if_neg hic]
      refine ⟨?_, ?_, ?_, ?_⟩
      · rw [if_neg (by omega), if_neg (by omega), if_neg (by omega), if_neg (by omega)]; exact x0
      · rw [if_neg (by omega), if_neg (by omega), if_neg (by omega), if_neg (by omega)]; exact x1
      · rw [if_neg (by omega), if_neg (by omega), if_neg (by omega), if_neg (by omega)]; exact x2
      · rw [if_neg (by omega), if_neg (by omega), if_neg (by omega), if_neg (by omega)]; exact x3
def rbank0 (st : Int) : Array Value := (.int .i64 st :: (List.replicate 48 (Value.int .i64 0) ++ List.replicate 48 (Value.int .u8 0) ++ List.replicate 48 (Value.int .i64 0) ++ List.replicate 48 (Value.bool false))).toArray
set_option maxRecDepth 100000 in
theorem rbank0_at (st : Int) (w : World) (B : Nat) (h : w.heap[B]? = some (.cells (rbank0 st) 65 (0, 0))) : Rb w B st fun _ => ⟨false, 0, 0, 0⟩ := by
  refine ⟨rbank0 st, h, rfl, rfl, fun i hi => ?_⟩
  have e : ∀ i : Fin 48, (rbank0 st)[1 + i.val]? = some (.int .i64 0) ∧ (rbank0 st)[49 + i.val]? = some (.int .u8 0) ∧ (rbank0 st)[97 + i.val]? = some (.int .i64 0) ∧ (rbank0 st)[145 + i.val]? = some (.bool false) := by
    intro ⟨i, hi⟩
    match i, hi with
    | 0, _ => exact ⟨rfl, rfl, rfl, rfl⟩
    | 1, _ => exact ⟨rfl, rfl, rfl, rfl⟩
    | 2, _ => exact ⟨rfl, rfl, rfl, rfl⟩
    | 3, _ => exact ⟨rfl, rfl, rfl, rfl⟩
    | 4, _ => exact ⟨rfl, rfl, rfl, rfl⟩
    | 5, _ => exact ⟨rfl, rfl, rfl, rfl⟩
    | 6, _ => exact ⟨rfl, rfl, rfl, rfl⟩
    | 7, _ => exact ⟨rfl, rfl, rfl, rfl⟩
    | 8, _ => exact ⟨rfl, rfl, rfl, rfl⟩
    | 9, _ => exact ⟨rfl, rfl, rfl, rfl⟩
    | 10, _ => exact ⟨rfl, rfl, rfl, rfl⟩
    | 11, _ => exact ⟨rfl, rfl, rfl, rfl⟩
    | 12, _ => exact ⟨rfl, rfl, rfl, rfl⟩
    | 13, _ => exact ⟨rfl, rfl, rfl, rfl⟩
    | 14, _ => exact ⟨rfl, rfl, rfl, rfl⟩
    | 15, _ => exact ⟨rfl, rfl, rfl, rfl⟩
    | 16, _ => exact ⟨rfl, rfl, rfl, rfl⟩
    | 17, _ => exact ⟨rfl, rfl, rfl, rfl⟩
    | 18, _ => exact ⟨rfl, rfl, rfl, rfl⟩
    | 19, _ => exact ⟨rfl, rfl, rfl, rfl⟩
    | 20, _ => exact ⟨rfl, rfl, rfl, rfl⟩
    | 21, _ => exact ⟨rfl, rfl, rfl, rfl⟩
    | 22, _ => exact ⟨rfl, rfl, rfl, rfl⟩
    | 23, _ => exact ⟨rfl, rfl, rfl, rfl⟩
    | 24, _ => exact ⟨rfl, rfl, rfl, rfl⟩
    | 25, _ => exact ⟨rfl, rfl, rfl, rfl⟩
    | 26, _ => exact ⟨rfl, rfl, rfl, rfl⟩
    | 27, _ => exact ⟨rfl, rfl, rfl, rfl⟩
    | 28, _ => exact ⟨rfl, rfl, rfl, rfl⟩
    | 29, _ => exact ⟨rfl, rfl, rfl, rfl⟩
    | 30, _ => exact ⟨rfl, rfl, rfl, rfl⟩
    | 31, _ => exact ⟨rfl, rfl, rfl, rfl⟩
    | 32, _ => exact ⟨rfl, rfl, rfl, rfl⟩
    | 33, _ => exact ⟨rfl, rfl, rfl, rfl⟩
    | 34, _ => exact ⟨rfl, rfl, rfl, rfl⟩
    | 35, _ => exact ⟨rfl, rfl, rfl, rfl⟩
    | 36, _ => exact ⟨rfl, rfl, rfl, rfl⟩
    | 37, _ => exact ⟨rfl, rfl, rfl, rfl⟩
    | 38, _ => exact ⟨rfl, rfl, rfl, rfl⟩
    | 39, _ => exact ⟨rfl, rfl, rfl, rfl⟩
    | 40, _ => exact ⟨rfl, rfl, rfl, rfl⟩
    | 41, _ => exact ⟨rfl, rfl, rfl, rfl⟩
    | 42, _ => exact ⟨rfl, rfl, rfl, rfl⟩
    | 43, _ => exact ⟨rfl, rfl, rfl, rfl⟩
    | 44, _ => exact ⟨rfl, rfl, rfl, rfl⟩
    | 45, _ => exact ⟨rfl, rfl, rfl, rfl⟩
    | 46, _ => exact ⟨rfl, rfl, rfl, rfl⟩
    | 47, _ => exact ⟨rfl, rfl, rfl, rfl⟩
    | n + 48, h => omega
  exact e ⟨i, hi⟩
theorem rNewB (s : Int) (w : World) :
    Calls Try.prog 7 #[.int .i64 s] w fun e w' => e = .returned (.pointer (some ⟨w.heap.size, 0, none⟩)) ∧ Rb w' w.heap.size (max (min s 1000) 0) (fun _ => ⟨false, 0, 0, 0⟩) ∧ Below w.heap.size w w' := by
  by_cases h2 : s < 0
  · go_enter Try.func7, Try.ntmps7
    go_wp2_with (refine wpList_build_f rfl 65 _ rfl (rbank0 (0)) (by kernel_rfl) ?_)
    go_ret
    exact ⟨rfl, by rw [show max (min s 1000) 0 = 0 by omega]; exact rbank0_at _ _ _ (heap_alloc_new _ _), (Below.refl _ _).alloc (Nat.le_refl _) _⟩
  by_cases h1 : 1000 < s
  · go_enter Try.func7, Try.ntmps7
    go_wp2_with (refine wpList_build_f rfl 65 _ rfl (rbank0 (1000)) (by kernel_rfl) ?_)
    go_ret
    exact ⟨rfl, by rw [show max (min s 1000) 0 = 1000 by omega]; exact rbank0_at _ _ _ (heap_alloc_new _ _), (Below.refl _ _).alloc (Nat.le_refl _) _⟩
  · go_enter Try.func7, Try.ntmps7
    go_wp2_with (refine wpList_build_f rfl 65 _ rfl (rbank0 (s)) (by kernel_rfl) ?_)
    go_ret
    exact ⟨rfl, by rw [show max (min s 1000) 0 = s by omega]; exact rbank0_at _ _ _ (heap_alloc_new _ _), (Below.refl _ _).alloc (Nat.le_refl _) _⟩
theorem rNewer (a b : Int) (w : World) :
    Calls Try.prog 30 #[.int .u8 a, .int .u8 b] w fun e w' => e = .returned (.bool (newer a b)) ∧ w = w' := by
  go_enter Try.func30, Try.ntmps30
  go_wp2_with fail
  all_goals
    go_ret
    first
      | exact ⟨congrArg (fun b => Ending.returned (.bool b)) (show decide ((a - b) % 256 ≤ 127) = newer a b by unfold newer; rw [decide_eq_true (show 1 ≤ (a - b) % 256 by assumption), Bool.true_and]), rfl⟩
      | exact ⟨congrArg (fun b => Ending.returned (.bool b)) (show false = newer a b by unfold newer; rw [decide_eq_false (show ¬ 1 ≤ (a - b) % 256 by omega), Bool.false_and]), rfl⟩
theorem rGet (B : Nat) (st : Int) (f : Nat → Smp) (ch : Int) (hf : ∀ k, k < 48 → (f k).there = false → (f k).v = 0) (w : World) (h : Rb w B st f) :
    Calls Try.prog 13 #[.pointer (some ⟨B, 0, none⟩), .int .i64 ch] w fun e w' => e = .returned (.agg #[.int .i64 (vGet f ch), .bool (fGet st f ch)]) ∧ Below w.heap.size w w' := by
  unfold vGet fGet
  have BB := Lib.hid fun o => (Below.refl w.heap.size w).alloc (Nat.le_refl _) o
  by_cases hc : 1 ≤ ch ∧ ch < 48
  · rw [if_pos hc, if_pos hc]
    obtain ⟨c, rfl⟩ := Int.eq_ofNat_of_zero_le (show 0 ≤ ch by omega)
    have h1' : 1 ≤ c := by omega
    have h2' : c < 48 := by omega
    simp only [Int.toNat_natCast]
    obtain ⟨c0, c1, c2, c3, c4, fz⟩ := h.cells c h2'
    have hv := hf c h2'
    have c0' := fun o => cell_alloc c0 o
    have c1' := fun o => cell_alloc c1 o
    have c3' := fun o => cell_alloc c3 o
    have hlt := h.lt
    clear h hc hf
    cases hz : (f c).there
    · rw [hz] at c4
      have c4' := fun o => cell_alloc c4 o
      rw [hv hz]
      simp only [Bool.false_and]
      have HZ := Lib.hid hz
      clear hz hv
      go_enter Try.func13, Try.ntmps13
      go_wp2_with fail
      go_returns
      exact ⟨rfl, BB.out _⟩
    · rw [hz] at c4
      have c4' := fun o => cell_alloc c4 o
      simp only [Bool.true_and]
      have HZ := Lib.hid hz
      clear hz hv
      go_enter Try.func13, Try.ntmps13
      go_upto_region 3 with fail
      generalize hW : World.alloc w _ = W
      have hrow : W.heap[w.heap.size]? = some (.cells #[.int .i64 0, .bool false] 35 (0, 0)) := by rw [← hW]; exact heap_alloc_new _ _
      have HB : Below w.heap.size w W := by rw [← hW]; exact BB.out _
      have l0 : B < W.heap.size := Nat.lt_of_lt_of_le hlt HB.size
      have y0 := fun d => reach_cell (B := W.heap.size) (below_cell HB c0) l0 d
      have y1 := fun d => reach_cell (B := W.heap.size) (below_cell HB c1) l0 d
      have y3 := fun d => reach_cell (B := W.heap.size) (below_cell HB c3) l0 d
      clear hW c0' c1' c3' c4' c0 c1 c2 c3 c4 BB fz
      refine wp_region_tailR W.heap.size 18 (by kernel_rfl) (by kernel_rfl) ?_
      simp only [List.take_succ_cons, List.take_zero, List.drop_succ_cons, List.drop_zero]
      repeat (go_big_quiet_step (fail))
      refine wpQuiet_nil ?_
      rintro w' ⟨d, rfl⟩
      clear y0 y1 y3
      have hr2 := ((reach_below W.heap.size W d).block _ (Array.getElem?_eq_some_iff.1 hrow).1).trans hrow
      have z0 := cell_of_row _ _ 0 _ _ _ hr2
      have z1 := cell_of_row _ _ 1 _ _ _ hr2
      have zf : ∀ j, (reach W.heap.size W d).frozen? ⟨w.heap.size, j, none⟩ = false := fun j => by simp [World.frozen?, hr2]
      have HB2 := Lib.hid (HB.trans ((reach_below W.heap.size W d).mono HB.size))
      have HR2 := Lib.hid hr2
      clear hr2 hrow HB
      go_wp2_with fail
      have hr3 : (((reach W.heap.size W d).setCell ⟨w.heap.size, 0, none⟩ (.int .i64 (f c).v)).setCell ⟨w.heap.size, 1, none⟩ (.bool (decide ((f c).age ≤ st)))).heap[w.heap.size]? = some (.cells #[.int .i64 (f c).v, .bool (decide ((f c).age ≤ st))] 35 (0, 0)) := by
        simp [World.setCell, Array.getElem?_modify, HR2.out]
      have HB3 := Lib.hid ((HB2.out.setCell (Nat.le_refl _) (p := ⟨w.heap.size, 0, none⟩) (.int .i64 (f c).v)).setCell (Nat.le_refl _) (p := ⟨w.heap.size, 1, none⟩) (.bool (decide ((f c).age ≤ st))))
      clear z0 z1 zf HB2 HR2
      generalize World.setCell _ _ _ = W3 at *
      have z0 : W3.cell? ⟨w.heap.size, 0, none⟩ = some (.int .i64 (f c).v) := cell_of_row _ _ 0 _ _ _ hr3
      have z1 : W3.cell? ⟨w.heap.size, 1, none⟩ = some (.bool (decide ((f c).age ≤ st))) := cell_of_row _ _ 1 _ _ _ hr3
      refine bodyPost_ret (v := .agg #[.int .i64 (f c).v, .bool (decide ((f c).age ≤ st))]) (by simp [results, Try.results13, go_sem, z0, z1]) rfl ⟨rfl, ?_⟩
      exact HB3.out
  · rw [if_neg hc, if_neg hc]
    rcases (show ch < 1 ∨ (1 ≤ ch ∧ 48 ≤ ch) by omega) with hc | ⟨hc, hc2⟩
    all_goals
      go_enter Try.func13, Try.ntmps13
      go_wp2_with fail
      go_returns
      exact ⟨rfl, BB.out _⟩
theorem rAge (B : Nat) (st : Int) (f : Nat → Smp) (ch : Int) (w : World) (h : Rb w B st f) :
    Calls Try.prog 15 #[.pointer (some ⟨B, 0, none⟩), .int .i64 ch] w fun e w' => e = .returned (.int .i64 (aGet f ch)) ∧ w = w' := by
  unfold aGet
  by_cases hc : 1 ≤ ch ∧ ch < 48
  · rw [if_pos hc]
    obtain ⟨c, rfl⟩ := Int.eq_ofNat_of_zero_le (show 0 ≤ ch by omega)
    have h1' : 1 ≤ c := by omega
    have h2' : c < 48 := by omega
    simp only [Int.toNat_natCast]
    obtain ⟨c0, c1, c2, c3, c4, fz⟩ := h.cells c h2'
    clear h hc
    cases hz : (f c).there
    all_goals
      rw [hz] at c4
      simp only [if_true, if_false, Bool.false_eq_true]
      have HZ := Lib.hid hz
      clear hz
      go_enter Try.func15, Try.ntmps15
      go_wp2_with fail
      go_ret
      exact ⟨rfl, rfl⟩
  · rw [if_neg hc]
    rcases (show ch < 1 ∨ (1 ≤ ch ∧ 48 ≤ ch) by omega) with hc | ⟨hc, hc2⟩
    all_goals
      go_enter Try.func15, Try.ntmps15
      go_wp2_with fail
      go_ret
      exact ⟨rfl, rfl⟩
theorem rPut (B : Nat) (st : Int) (f : Nat → Smp) (ch s v : Int) (w : World) (h : Rb w B st f) :
    Calls Try.prog 9 #[.pointer (some ⟨B, 0, none⟩), .int .i64 ch, .int .u8 s, .int .i64 v] w fun e w' => e = .returned (.bool (bPut f ch s)) ∧ Rb w' B st (fPut f ch s v) ∧ Only B w w' := by
  have lt := h.lt
  unfold bPut fPut
  by_cases hc : 1 ≤ ch ∧ ch < 48
  · rw [if_pos hc, if_pos hc]
    obtain ⟨c, rfl⟩ := Int.eq_ofNat_of_zero_le (show 0 ≤ ch by omega)
    have h1' : 1 ≤ c := by omega
    have h2' : c < 48 := by omega
    simp only [Int.toNat_natCast]
    have H := Lib.hid h
    clear h hc
    obtain ⟨c0, c1, c2, c3, c4, fz⟩ := H.out.cells c h2'
    have K := Lib.hid fun (w : World) => rNewer s (f c).seq w
    unfold putF
    obtain ⟨t, ht⟩ : ∃ t, newer s (f c).seq = t := ⟨_, rfl⟩
    have hp : putB f c s = (!(f c).there || t) := by unfold putB; rw [ht]
    rw [ht] at K
    clear ht
    obtain ⟨z, hz⟩ : ∃ z, (f c).there = z := ⟨_, rfl⟩
    rw [hz] at hp
    rw [hp]
    rw [hz] at c4
    clear hp hz
    cases z <;> cases t
    all_goals
      go_enter Try.func9, Try.ntmps9
      go_wp2_with fail
    · go_ret
      exact ⟨rfl, H.out.put c h2' true s v 0, ((((Only.set B _ _ _).trans (Only.set B _ _ _)).trans (Only.set B _ _ _)).trans (Only.set B _ _ _))⟩
    · go_ret
      exact ⟨rfl, H.out.put c h2' true s v 0, ((((Only.set B _ _ _).trans (Only.set B _ _ _)).trans (Only.set B _ _ _)).trans (Only.set B _ _ _))⟩
    · refine (K.out _).mono ?_
      rintro e w' ⟨rfl, rfl⟩
      go_wp2_with fail
      go_ret
      exact ⟨rfl, H.out, Only.refl _ _⟩
    · refine (K.out _).mono ?_
      rintro e w' ⟨rfl, rfl⟩
      go_wp2_with fail
      go_ret
      exact ⟨rfl, H.out.put c h2' true s v 0, ((((Only.set B _ _ _).trans (Only.set B _ _ _)).trans (Only.set B _ _ _)).trans (Only.set B _ _ _))⟩
  · rw [if_neg hc, if_neg hc]
    have H := Lib.hid h
    clear h
    rcases (show ch < 1 ∨ (1 ≤ ch ∧ 48 ≤ ch) by omega) with hc | ⟨hc, hc2⟩
    all_goals
      go_enter Try.func9, Try.ntmps9
      go_wp2_with fail
      go_ret
      exact ⟨rfl, H.out, Only.refl _ _⟩
theorem rTick (B : Nat) (st : Int) (f : Nat → Smp) (hf : ∀ k, k < 48 → 0 ≤ (f k).age ∧ (f k).age ≤ 1000) (w : World) (h : Rb w B st f) :
    Calls Try.prog 11 #[.pointer (some ⟨B, 0, none⟩)] w fun e w' => e = .returned (.tuple #[]) ∧ Rb w' B st (tickTo f 48) ∧ Only B w w' := by
  have H := Lib.hid h
  clear h
  go_enter Try.func11, Try.ntmps11
  go_wp2_with fail
  go_loopw [2] (fun v wr => ∃ i : Nat, i ≤ 48 ∧ v = .int .i64 i ∧ Rb wr B st (tickTo f i) ∧ Only B w wr) (fun v _ => 48 - (intOf v).toNat)
  case atStart => exact ⟨0, by omega, rfl, by rw [show tickTo f 0 = f from funext fun k => if_neg (by omega)]; exact H.out, Only.refl _ _⟩
  case round =>
    obtain ⟨i, hi, rfl, hk, ho⟩ := hrel
    have FK := Lib.hid hk
    have FO := Lib.hid ho
    clear hk ho H
    by_cases hl : i < 48
    · obtain ⟨c0, c1, c2, c3, c4, fz⟩ := FK.out.cells i hl
      have ha := hf i hl
      have e : (tickTo f i i).age = (f i).age := by unfold tickTo; rw [if_neg (by omega)]
      rw [← e] at ha
      have HT := Lib.hid (tickTo_next f i)
      generalize htk : tickTo f i = g at *
      clear e htk hf
      have y3 := fun d => reach_cell (B := wr.heap.size) c3 FK.out.lt d
      have FR := Lib.hid fun d => FK.out.below (reach_below wr.heap.size wr d) FK.out.lt
      have hu : ∀ d (a : Int), a = min ((g i).age + 1) 1000 → Rb ((reach wr.heap.size wr d).setCell ⟨B, 97 + i, none⟩ (.int .i64 a)) B st (upd g i { g i with age := min ((g i).age + 1) 1000 }) := fun d a e => by
        rw [← e]; exact (FR.out d).age i hl _
      rw [HT.out] at hu
      have HU := Lib.hid hu
      clear hu c0 c1 c2 c3 c4 fz
      by_cases hm : (g i).age + 1 ≤ 1000
      all_goals
        go_upto_region 3 with fail
        refine wp_region_tailR wr.heap.size 13 (by kernel_rfl) (by kernel_rfl) ?_
        simp only [List.take_succ_cons, List.take_zero, List.drop_succ_cons, List.drop_zero]
        repeat (go_big_quiet_step (fail))
        refine wpQuiet_nil ?_
        rintro w' ⟨d, rfl⟩
        obtain ⟨c0, c1, c2, c3, c4, fz⟩ := (FR.out d).cells i hl
        go_wp2_with fail
        go_roundw
        case rel => exact ⟨i + 1, by omega, by go_num, HU.out d _ (by omega), (FO.out.trans (Only.of_below _ (reach_below _ _ d))).trans (Only.set B _ _ _)⟩
        case measure => simp [intOf]; omega
    · obtain rfl : i = 48 := by omega
      go_wp2_with fail
      go_end0
      exact ⟨rfl, FK.out, FO.out⟩
end Go.Proofs.Ytakdoagigbjngaa
