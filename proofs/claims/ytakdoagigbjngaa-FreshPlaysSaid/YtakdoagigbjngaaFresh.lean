/- What a bank of samples does, by plain definitions; its block alone changes. Conditions: a channel from 1 to 47, a number of a byte. -/
import Derived.Test.YtakdoagigbjngaaRange
import Derived.Test.YtakdoagigbjngaaCame
import Derived.Deep.DeepCutAuto
import Derived.Deep.RegionWith
namespace Go.Proofs.Ytakdoagigbjngaa
open Go.RowKit
structure Smp where
  there : Bool
  seq : Int
  v : Int
  age : Int
structure Bk (w : World) (B : Nat) (st : Int) (f : Nat → Smp) : Prop where
  row : ∃ arr : Array Value, w.heap[B]? = some (.cells arr 59 (0, 0)) ∧ arr.size = 193 ∧ arr[0]? = some (.int .i64 st) ∧
    ∀ i, i < 48 → arr[1 + i * 4]? = some (.bool (f i).there) ∧ arr[1 + i * 4 + 1]? = some (.int .u8 (f i).seq) ∧ arr[1 + i * 4 + 2]? = some (.int .i64 (f i).v) ∧ arr[1 + i * 4 + 3]? = some (.int .i64 (f i).age)
theorem Bk.lt {w : World} {B : Nat} {st : Int} {f : Nat → Smp} (h : Bk w B st f) : B < w.heap.size := by
  obtain ⟨arr, h1, _⟩ := h.row
  exact (Array.getElem?_eq_some_iff.1 h1).1
theorem Bk.cells {w : World} {B : Nat} {st : Int} {f : Nat → Smp} (h : Bk w B st f) (i : Nat) (hi : i < 48) :
    w.cell? ⟨B, 0, none⟩ = some (.int .i64 st) ∧ w.cell? ⟨B, 1 + i * 4, none⟩ = some (.bool (f i).there) ∧ w.cell? ⟨B, 1 + i * 4 + 1, none⟩ = some (.int .u8 (f i).seq) ∧ w.cell? ⟨B, 1 + i * 4 + 2, none⟩ = some (.int .i64 (f i).v) ∧ w.cell? ⟨B, 1 + i * 4 + 3, none⟩ = some (.int .i64 (f i).age) ∧ (∀ j, w.frozen? ⟨B, j, none⟩ = false) := by
  obtain ⟨arr, h1, _, h2, h3⟩ := h.row
  obtain ⟨a, b, c, d⟩ := h3 i hi
  refine ⟨(cell_of_row w B _ arr _ _ h1).trans h2, (cell_of_row w B _ arr _ _ h1).trans a, (cell_of_row w B _ arr _ _ h1).trans b, (cell_of_row w B _ arr _ _ h1).trans c, (cell_of_row w B _ arr _ _ h1).trans d, fun j => by simp [World.frozen?, h1]⟩
theorem Bk.below {w w' : World} {B b : Nat} {st : Int} {f : Nat → Smp} (h : Bk w B st f) (hb : Below b w w') (hl : B < b) : Bk w' B st f := by
  obtain ⟨arr, h1, h2⟩ := h.row
  exact ⟨arr, (hb.block B hl).trans h1, h2⟩
theorem rangeOk (c : Nat) (h1 : 1 ≤ c) (h2 : c < 48) : (rangeI c).2.2 = true := by
  unfold rangeI
  (repeat' split) <;> first | rfl | omega
theorem chanC (c : Nat) (h1 : 1 ≤ c) (h2 : c < 48) (w : World) :
    Calls Try.prog 29 #[.int .i64 c] w fun e w' => e = .returned (.bool true) ∧ Below w.heap.size w w' := by
  have K := rangeC c w
  rw [rangeOk c h1 h2] at K
  go_enter Try.func29, Try.ntmps29
  go_wp2_with fail
  refine K.mono ?_
  rintro e w1 ⟨rfl, hb⟩
  go_wp2_with fail
  go_ret
  exact ⟨rfl, hb.alloc hb.size _⟩
theorem ageC (B : Nat) (st : Int) (f : Nat → Smp) (c : Nat) (h1 : 1 ≤ c) (h2 : c < 48) (hz : (f c).there = true) (w : World) (h : Bk w B st f) :
    Calls Try.prog 14 #[.pointer (some ⟨B, 0, none⟩), .int .i64 c] w fun e w' => e = .returned (.int .i64 (f c).age) ∧ Below w.heap.size w w' := by
  have H := Lib.hid h
  clear h
  go_enter Try.func14, Try.ntmps14
  go_wp2_with fail
  refine (chanC c h1 h2 _).mono ?_
  rintro e w1 ⟨rfl, hb⟩
  have H1 := Lib.hid (H.out.below hb H.out.lt)
  obtain ⟨c0, c1, c2, c3, c4, fz⟩ := H1.out.cells c h2
  rw [hz] at c1
  have HB := Lib.hid hb
  clear hb H
  go_wp2_with fail
  go_ret
  exact ⟨rfl, HB.out⟩
def upd (f : Nat → Smp) (c : Nat) (s : Smp) : Nat → Smp := fun k => if k = c then s else f k
theorem get_set (arr : Array Value) (i j : Nat) (v : Value) (hi : i < arr.size) : (arr.setIfInBounds i v)[j]? = if i = j then some v else arr[j]? := by
  rw [Array.getElem?_setIfInBounds]
  split <;> simp_all
theorem Bk.age {w : World} {B : Nat} {st : Int} {f : Nat → Smp} (h : Bk w B st f) (c : Nat) (hc : c < 48) (a : Int) : Bk (w.setCell ⟨B, 1 + c * 4 + 3, none⟩ (.int .i64 a)) B st (upd f c { f c with age := a }) := by
  obtain ⟨arr, h1, h2, h3, h4⟩ := h.row
  refine ⟨arr.setIfInBounds (1 + c * 4 + 3) (.int .i64 a), by simp [World.setCell, Array.getElem?_modify, h1], by simpa using h2, by rw [get_set _ _ _ _ (by omega), if_neg (by omega)]; exact h3, fun i hi => ?_⟩
  obtain ⟨x0, x1, x2, x3⟩ := h4 i hi
  rw [get_set _ _ _ _ (by omega), get_set _ _ _ _ (by omega), get_set _ _ _ _ (by omega), get_set _ _ _ _ (by omega), if_neg (by omega), if_neg (by omega), if_neg (by omega)]
  unfold upd
  by_cases hic : i = c
  · subst hic
    rw [if_pos rfl, if_pos rfl]
    exact ⟨x0, x1, x2, rfl⟩
  · rw [if_neg (show ¬ 1 + c * 4 + 3 = 1 + i * 4 + 3 by omega)]
    simp only [if_neg hic]
    exact ⟨x0, x1, x2, x3⟩
theorem Bk.put {w : World} {B : Nat} {st : Int} {f : Nat → Smp} (h : Bk w B st f) (c : Nat) (hc : c < 48) (t : Bool) (s v a : Int) :
    Bk ((((w.setCell ⟨B, 1 + c * 4, none⟩ (.bool t)).setCell ⟨B, 1 + c * 4 + 1, none⟩ (.int .u8 s)).setCell ⟨B, 1 + c * 4 + 2, none⟩ (.int .i64 v)).setCell ⟨B, 1 + c * 4 + 3, none⟩ (.int .i64 a)) B st (upd f c ⟨t, s, v, a⟩) := by
  obtain ⟨arr, h1, h2, h3, h4⟩ := h.row
  refine ⟨(((arr.setIfInBounds (1 + c * 4) (.bool t)).setIfInBounds (1 + c * 4 + 1) (.int .u8 s)).setIfInBounds (1 + c * 4 + 2) (.int .i64 v)).setIfInBounds (1 + c * 4 + 3) (.int .i64 a), by simp [World.setCell, Array.getElem?_modify, h1], by simpa using h2, ?_, fun i hi => ?_⟩
  · rw [get_set _ _ _ _ (by simp; omega), if_neg (by omega), get_set _ _ _ _ (by simp; omega), if_neg (by omega), get_set _ _ _ _ (by simp; omega), if_neg (by omega), get_set _ _ _ _ (by omega), if_neg (by omega)]
    exact h3
  · obtain ⟨x0, x1, x2, x3⟩ := h4 i hi
    have e : ∀ j, ((((arr.setIfInBounds (1 + c * 4) (.bool t)).setIfInBounds (1 + c * 4 + 1) (.int .u8 s)).setIfInBounds (1 + c * 4 + 2) (.int .i64 v)).setIfInBounds (1 + c * 4 + 3) (.int .i64 a))[j]? = if 1 + c * 4 + 3 = j then some (.int .i64 a) else if 1 + c * 4 + 2 = j then some (.int .i64 v) else if 1 + c * 4 + 1 = j then some (.int .u8 s) else if 1 + c * 4 = j then some (.bool t) else arr[j]? := fun j => by
      rw [get_set _ _ _ _ (by simp; omega), get_set _ _ _ _ (by simp; omega), get_set _ _ _ _ (by simp; omega), get_set _ _ _ _ (by omega)]
    rw [e, e, e, e]
    unfold upd
    by_cases hic : i = c
    · subst hic
      simp
    · rw [if_neg hic]
      refine ⟨?_, ?_, ?_, ?_⟩
      · rw [if_neg (by omega), if_neg (by omega), if_neg (by omega), if_neg (by omega)]; exact x0
      · rw [if_neg (by omega), if_neg (by omega), if_neg (by omega), if_neg (by omega)]; exact x1
      · rw [if_neg (by omega), if_neg (by omega), if_neg (by omega), if_neg (by omega)]; exact x2
      · rw [if_neg (by omega), if_neg (by omega), if_neg (by omega), if_neg (by omega)]; exact x3
theorem getC (B : Nat) (st : Int) (f : Nat → Smp) (c : Nat) (h1 : 1 ≤ c) (h2 : c < 48) (w : World) (h : Bk w B st f) :
    Calls Try.prog 12 #[.pointer (some ⟨B, 0, none⟩), .int .i64 c] w fun e w' => e = .returned (.tuple #[.int .i64 (f c).v, .bool ((f c).there && decide ((f c).age ≤ st))]) ∧ Below w.heap.size w w' := by
  have H := Lib.hid h
  clear h
  go_enter Try.func12, Try.ntmps12
  go_wp2_with fail
  refine (chanC c h1 h2 _).mono ?_
  rintro e w1 ⟨rfl, hb⟩
  have H1 := Lib.hid (H.out.below hb H.out.lt)
  obtain ⟨c0, c1, c2, c3, c4, fz⟩ := H1.out.cells c h2
  have c0' := fun o => cell_alloc c0 o
  have HB := Lib.hid hb
  clear hb H
  cases hz : (f c).there
  all_goals
    rw [hz] at c1
    go_wp2_with fail
    go_quiet (fail)
    go_wp2_with fail
    refine bodyPost_ret (v := .tuple #[.int .i64 (f c).v, .bool ((f c).there && decide ((f c).age ≤ st))]) (by simp [results, Try.results12, go_sem, hz]) rfl ⟨by rw [hz], ?_⟩
    exact below_drewN (HB.out.alloc HB.out.size _) _
def newer (a b : Int) : Bool := decide (1 ≤ (a - b) % 256) && decide ((a - b) % 256 ≤ 127)
theorem newerC (a b : Int) (w : World) :
    Calls Try.prog 28 #[.int .u8 a, .int .u8 b] w fun e w' => e = .returned (.bool (newer a b)) ∧ w = w' := by
  unfold newer
  by_cases h : 1 ≤ (a - b) % 256
  all_goals
    go_enter Try.func28, Try.ntmps28
    go_wp2_with fail
    all_goals
      go_ret
      exact ⟨by first | (simp [h]; done) | (simp; omega), rfl⟩
set_option maxRecDepth 100000 in
def bank0 (st : Int) : Array Value := (.int .i64 st :: (List.replicate 48 [Value.bool false, .int .u8 0, .int .i64 0, .int .i64 0]).flatten).toArray
set_option maxRecDepth 100000 in
theorem bank0_at (st : Int) (w : World) (B : Nat) (h : w.heap[B]? = some (.cells (bank0 st) 59 (0, 0))) : Bk w B st fun _ => ⟨false, 0, 0, 0⟩ := by
  refine ⟨bank0 st, h, rfl, rfl, fun i hi => ?_⟩
  have e : ∀ i : Fin 48, (bank0 st)[1 + i.val * 4]? = some (.bool false) ∧ (bank0 st)[1 + i.val * 4 + 1]? = some (.int .u8 0) ∧ (bank0 st)[1 + i.val * 4 + 2]? = some (.int .i64 0) ∧ (bank0 st)[1 + i.val * 4 + 3]? = some (.int .i64 0) := by
    intro ⟨i, hi⟩
    match i, hi with
    | 0, _ => exact ⟨rfl, rfl, rfl, rfl⟩
    | 1, _ => exact ⟨rfl, rfl, rfl, rfl⟩
    | 2, _ => exact ⟨rfl, rfl, rfl, rfl⟩
    | 3, _ => exact ⟨rfl, rfl, rfl, rfl⟩
    | 4, _ => exact ⟨rfl, rfl, rfl, rfl⟩
    | 5, _ => exact ⟨rfl, rfl, rfl, rfl⟩
    | 6, _ => exact ⟨rfl, rfl, rfl, rfl⟩
    | 7, _ => exact ⟨rfl, rfl, rfl, rfl⟩
    | 8, _ => exact ⟨rfl, rfl, rfl, rfl⟩
    | 9, _ => exact ⟨rfl, rfl, rfl, rfl⟩
    | 10, _ => exact ⟨rfl, rfl, rfl, rfl⟩
    | 11, _ => exact ⟨rfl, rfl, rfl, rfl⟩
    | 12, _ => exact ⟨rfl, rfl, rfl, rfl⟩
    | 13, _ => exact ⟨rfl, rfl, rfl, rfl⟩
    | 14, _ => exact ⟨rfl, rfl, rfl, rfl⟩
    | 15, _ => exact ⟨rfl, rfl, rfl, rfl⟩
    | 16, _ => exact ⟨rfl, rfl, rfl, rfl⟩
    | 17, _ => exact ⟨rfl, rfl, rfl, rfl⟩
    | 18, _ => exact ⟨rfl, rfl, rfl, rfl⟩
    | 19, _ => exact ⟨rfl, rfl, rfl, rfl⟩
    | 20, _ => exact ⟨rfl, rfl, rfl, rfl⟩
    | 21, _ => exact ⟨rfl, rfl, rfl, rfl⟩
    | 22, _ => exact ⟨rfl, rfl, rfl, rfl⟩
    | 23, _ => exact ⟨rfl, rfl, rfl, rfl⟩
    | 24, _ => exact ⟨rfl, rfl, rfl, rfl⟩
    | 25, _ => exact ⟨rfl, rfl, rfl, rfl⟩
    | 26, _ => exact ⟨rfl, rfl, rfl, rfl⟩
    | 27, _ => exact ⟨rfl, rfl, rfl, rfl⟩
    | 28, _ => exact ⟨rfl, rfl, rfl, rfl⟩
    | 29, _ => exact ⟨rfl, rfl, rfl, rfl⟩
    | 30, _ => exact ⟨rfl, rfl, rfl, rfl⟩
    | 31, _ => exact ⟨rfl, rfl, rfl, rfl⟩
    | 32, _ => exact ⟨rfl, rfl, rfl, rfl⟩
    | 33, _ => exact ⟨rfl, rfl, rfl, rfl⟩
    | 34, _ => exact ⟨rfl, rfl, rfl, rfl⟩
    | 35, _ => exact ⟨rfl, rfl, rfl, rfl⟩
    | 36, _ => exact ⟨rfl, rfl, rfl, rfl⟩
    | 37, _ => exact ⟨rfl, rfl, rfl, rfl⟩
    | 38, _ => exact ⟨rfl, rfl, rfl, rfl⟩
    | 39, _ => exact ⟨rfl, rfl, rfl, rfl⟩
    | 40, _ => exact ⟨rfl, rfl, rfl, rfl⟩
    | 41, _ => exact ⟨rfl, rfl, rfl, rfl⟩
    | 42, _ => exact ⟨rfl, rfl, rfl, rfl⟩
    | 43, _ => exact ⟨rfl, rfl, rfl, rfl⟩
    | 44, _ => exact ⟨rfl, rfl, rfl, rfl⟩
    | 45, _ => exact ⟨rfl, rfl, rfl, rfl⟩
    | 46, _ => exact ⟨rfl, rfl, rfl, rfl⟩
    | 47, _ => exact ⟨rfl, rfl, rfl, rfl⟩
    | n + 48, h => omega
  exact e ⟨i, hi⟩
theorem wpList_build_f {P : Program} {ops : Array Oper} {rest : List Oper} {o : Oper} {a : Act} {w : World} {Q : Exit → Act → World → Prop} (hg : o.guard = none) (t : TypeId) (parts : Array (Nat × Operand)) (ho : o.op = .build t parts)
    (cells : Array Value) (hf : P.built t (parts.map fun (i, x) => (i, a.eval x)).toList = some cells)
    (h : wpList P ops Q rest (a.put o.dst (.agg cells)) w) : wpList P ops Q (o :: rest) a w :=
  wpList_build hg t parts ho (by rw [hf]; rfl) (by rw [hf]; exact h)
theorem newC (s : Int) (w : World) :
    Calls Try.prog 6 #[.int .i64 s] w fun e w' => e = .returned (.pointer (some ⟨w.heap.size, 0, none⟩)) ∧ Bk w' w.heap.size (max (min s 1000) 0) (fun _ => ⟨false, 0, 0, 0⟩) ∧ Below w.heap.size w w' := by
  by_cases h2 : s < 0
  · go_enter Try.func6, Try.ntmps6
    go_wp2_with (refine wpList_build_f rfl 59 _ rfl (bank0 (0)) (by kernel_rfl) ?_)
    go_ret
    exact ⟨rfl, by rw [show max (min s 1000) 0 = 0 by omega]; exact bank0_at _ _ _ (heap_alloc_new _ _), (Below.refl _ _).alloc (Nat.le_refl _) _⟩
  by_cases h1 : 1000 < s
  · go_enter Try.func6, Try.ntmps6
    go_wp2_with (refine wpList_build_f rfl 59 _ rfl (bank0 (1000)) (by kernel_rfl) ?_)
    go_ret
    exact ⟨rfl, by rw [show max (min s 1000) 0 = 1000 by omega]; exact bank0_at _ _ _ (heap_alloc_new _ _), (Below.refl _ _).alloc (Nat.le_refl _) _⟩
  · go_enter Try.func6, Try.ntmps6
    go_wp2_with (refine wpList_build_f rfl 59 _ rfl (bank0 (s)) (by kernel_rfl) ?_)
    go_ret
    exact ⟨rfl, by rw [show max (min s 1000) 0 = s by omega]; exact bank0_at _ _ _ (heap_alloc_new _ _), (Below.refl _ _).alloc (Nat.le_refl _) _⟩
def putB (f : Nat → Smp) (c : Nat) (s : Int) : Bool := !(f c).there || newer s (f c).seq
def putF (f : Nat → Smp) (c : Nat) (s v : Int) : Nat → Smp := if putB f c s = true then upd f c ⟨true, s, v, 0⟩ else f
theorem putC (B : Nat) (st : Int) (f : Nat → Smp) (c : Nat) (h1 : 1 ≤ c) (h2 : c < 48) (s v : Int) (w : World) (h : Bk w B st f) :
    Calls Try.prog 8 #[.pointer (some ⟨B, 0, none⟩), .int .i64 c, .int .u8 s, .int .i64 v] w fun e w' => e = .returned (.bool (putB f c s)) ∧ Bk w' B st (putF f c s v) ∧ Only B w w' := by
  have H := Lib.hid h
  clear h
  unfold putF
  obtain ⟨t, ht⟩ : ∃ t, newer s (f c).seq = t := ⟨_, rfl⟩
  have K := Lib.hid fun (w : World) => newerC s (f c).seq w
  have hp : putB f c s = (!(f c).there || t) := by unfold putB; rw [ht]
  rw [ht] at K
  clear ht
  obtain ⟨z, hz⟩ : ∃ z, (f c).there = z := ⟨_, rfl⟩
  rw [hz] at hp
  rw [hp]
  have HZ := Lib.hid hz
  clear hp hz
  cases z <;> cases t
  all_goals
    go_enter Try.func8, Try.ntmps8
    go_wp2_with fail
    refine (chanC c h1 h2 _).mono ?_
    rintro e w1 ⟨rfl, hb⟩
    have H1 := Lib.hid (H.out.below hb H.out.lt)
    obtain ⟨c0, c1, c2, c3, c4, fz⟩ := H1.out.cells c h2
    rw [HZ.out] at c1
    have HB := Lib.hid hb
    clear hb H
    go_wp2_with fail
  · go_ret
    exact ⟨rfl, H1.out.put c h2 true s v 0, (Only.of_below B HB.out).trans ((((Only.set B _ _ _).trans (Only.set B _ _ _)).trans (Only.set B _ _ _)).trans (Only.set B _ _ _))⟩
  · go_ret
    exact ⟨rfl, H1.out.put c h2 true s v 0, (Only.of_below B HB.out).trans ((((Only.set B _ _ _).trans (Only.set B _ _ _)).trans (Only.set B _ _ _)).trans (Only.set B _ _ _))⟩
  · refine (K.out _).mono ?_
    rintro e w' ⟨rfl, rfl⟩
    go_wp2_with fail
    go_ret
    exact ⟨rfl, H1.out, Only.of_below B HB.out⟩
  · refine (K.out _).mono ?_
    rintro e w' ⟨rfl, rfl⟩
    go_wp2_with fail
    go_ret
    exact ⟨rfl, H1.out.put c h2 true s v 0, (Only.of_below B HB.out).trans ((((Only.set B _ _ _).trans (Only.set B _ _ _)).trans (Only.set B _ _ _)).trans (Only.set B _ _ _))⟩
theorem first10 (w : World) : Calls Try.prog 5 #[] w fun e w' => e = .returned (.bool true) ∧ Below w.heap.size w w' := by
  have N1 := Lib.hid fun (w : World) => newerC 0 255 w
  rw [show newer 0 255 = true from rfl] at N1
  have N2 := Lib.hid fun (w : World) => newerC 5 5 w
  rw [show newer 5 5 = false from rfl] at N2
  go_enter Try.func5, Try.ntmps5
  go_wp2_with fail
  refine (newC 1 _).mono ?_
  rintro e w1 ⟨rfl, hk, hb⟩
  have HK := Lib.hid hk
  have HB := Lib.hid hb
  clear hk hb
  go_wp2_with fail
  refine (N1.out _).mono ?_
  rintro e w' ⟨rfl, rfl⟩
  go_wp2_with fail
  refine (N2.out _).mono ?_
  rintro e w' ⟨rfl, rfl⟩
  go_wp2_with fail
  refine (putC _ _ _ 1 (by omega) (by omega) 0 7 _ HK.out).mono ?_
  rintro e w2 ⟨rfl, hk2, ho⟩
  rw [show putB (fun _ => ⟨false, 0, 0, 0⟩) 1 0 = true from rfl]
  have HK2 := Lib.hid hk2
  have HB2 := Lib.hid (HB.out.trans (ho.below (Nat.le_refl _) HB.out.size))
  clear hk2 ho
  go_wp2_with fail
  refine (putC _ _ _ 1 (by omega) (by omega) 0 8 _ HK2.out).mono ?_
  rintro e w3 ⟨rfl, hk3, ho⟩
  rw [show putB (putF (fun _ => ⟨false, 0, 0, 0⟩) 1 0 7) 1 0 = false from rfl]
  have HB3 := Lib.hid (HB2.out.trans (ho.below (Nat.le_refl _) HB2.out.size))
  clear hk3 ho
  go_wp2_with fail
  go_ret
  exact ⟨rfl, HB3.out⟩
end Go.Proofs.Ytakdoagigbjngaa
