/- LocateRows holds: each call returns true. Conditions: the arguments are numbers of 64 bits. -/
import Derived.Test.YtcphpaacgkfkbaaLocS
namespace Go.Proofs.Ytcphpaacgkfkbaa
open Go.RowKit
set_option linter.unusedVariables false
def updI (v : Nat → Int) (k : Nat) (x : Int) : Nat → Int := fun j => if j = k then x else v j
theorem leaks_put {w : World} {B : Nat} {v : Nat → Int} {f : Nat → Bool} {t : TypeId} (h : w.heap[B]? = some (.cells (leaksA v f) t (0, 0))) (k : Nat) (hk : k < 3) (x : Int) (y : Bool) :
    ((w.setCell ⟨B, k * 2, none⟩ (.int .i64 x)).setCell ⟨B, k * 2 + 1, none⟩ (.bool y)).heap[B]? = some (.cells (leaksA (updI v k x) (updL f k y)) t (0, 0)) := by
  obtain rfl | rfl | rfl : k = 0 ∨ k = 1 ∨ k = 2 := by omega
  all_goals simp [World.setCell, Array.getElem?_modify, h, leaksA, updI, updL]
theorem leaks6 {w : World} {B : Nat} {v : Nat → Int} {f : Nat → Bool} {t : TypeId} (h : w.heap[B]? = some (.cells (leaksA v f) t (0, 0))) (k : Nat) (hk : k < 3) :
    w.cell? ⟨B, k * 2, none⟩ = some (.int .i64 (v k)) ∧ w.cell? ⟨B, k * 2 + 1, none⟩ = some (.bool (f k)) := by
  refine ⟨(cell_of_row w B _ _ _ _ h).trans ?_, (cell_of_row w B _ _ _ _ h).trans ?_⟩
  · obtain rfl | rfl | rfl : k = 0 ∨ k = 1 ∨ k = 2 := by omega
    all_goals rfl
  · obtain rfl | rfl | rfl : k = 0 ∨ k = 1 ∨ k = 2 := by omega
    all_goals rfl
/-- One bus's filter, and whether it is locked. -/
def rs (b : Int) (t : Nat) (fk : FK) (lb : Bool) : LS := ⟨20000, updK (fun _ => ⟨b, 0, false⟩) t fk, updL (fun _ => false) t lb⟩
def vOne (t : Nat) (x : Int) : Nat → Int := updI (fun _ => 0) t x
def fOne (t : Nat) (q : Bool) : Nat → Bool := updL (fun _ => false) t q
theorem updK_updK (f : Nat → FK) (t : Nat) (x y : FK) : updK (updK f t x) t y = updK f t y := by funext j; unfold updK; split <;> rfl
theorem updL_updL (f : Nat → Bool) (t : Nat) (x y : Bool) : updL (updL f t x) t y = updL f t y := by funext j; unfold updL; split <;> rfl
theorem rs_one (b : Int) (t : Nat) (fk : FK) (lb : Bool) (x : Int) : (rs b t fk lb).one t x true = rs b t (fk.step (decide (20000 < x))) (lb || (fk.step (decide (20000 < x))).s) := by
  unfold LS.one rs
  simp only [if_true]
  have e1 : updK (fun _ => (⟨b, 0, false⟩ : FK)) t fk t = fk := by unfold updK; simp
  have e2 : updL (fun _ => false) t lb t = lb := by unfold updL; simp
  rw [e1, e2, updK_updK, updL_updL]
theorem rs_step (b : Int) (t : Nat) (ht : t < 3) (fk : FK) (lb : Bool) (x : Int) : (rs b t fk lb).upto (vOne t x) (fOne t true) 3 = rs b t (fk.step (decide (20000 < x))) (lb || (fk.step (decide (20000 < x))).s) := by
  obtain rfl | rfl | rfl : t = 0 ∨ t = 1 ∨ t = 2 := by omega
  all_goals exact rs_one _ _ _ _ _
theorem rs_none (s : LS) : s.upto (fun _ => 0) (fun _ => false) 3 = s := rfl
theorem newL_rs (c : CF) (t : Nat) (h : 1 ≤ c.B ∧ c.B ≤ 3) : newL c = rs c.B t ⟨c.B, 0, false⟩ false := by
  have e : cut1 c.B = c.B := by unfold cut1; omega
  unfold newL rs
  rw [e]
  congr 1
  · funext j; unfold updK; split <;> rfl
  · funext j; unfold updL; split <;> rfl
theorem rs_ok (b : Int) (t : Nat) (fk : FK) (lb : Bool) (h : 0 ≤ fk.c ∧ fk.c ≤ 1000000) : LOk (rs b t fk lb) := fun i hi => by
  unfold rs updK
  simp only
  split
  · exact h
  · exact ⟨show (0 : Int) ≤ 0 by omega, show (0 : Int) ≤ 1000000 by omega⟩
/-- Behind i leaks in a row that are too great. -/
def ls (b : Int) (t : Nat) (i : Int) : LS := rs b t (if i < b then ⟨b, i, false⟩ else ⟨b, 0, true⟩) (decide (b ≤ i))
theorem ls_step (b : Int) (t : Nat) (ht : t < 3) (i : Int) (h : 0 ≤ i) (hi : i < b) (hb : 1 ≤ b) : (ls b t i).upto (vOne t 20001) (fOne t true) 3 = ls b t (i + 1) := by
  unfold ls
  rw [rs_step b t ht, show decide ((20000 : Int) < 20001) = true from rfl]
  unfold FK.step
  by_cases h2 : b ≤ i + 1
  · simp [hi, h2, show ¬ i + 1 < b by omega, show ¬ b ≤ i by omega]
  · simp [hi, h2, show i + 1 < b by omega, show ¬ b ≤ i by omega]
theorem ls_ok (b : Int) (t : Nat) (i : Int) (h : 0 ≤ i) (hb : 1 ≤ b ∧ b ≤ 3) : LOk (ls b t i) := by
  unfold ls
  refine rs_ok _ _ _ _ ?_
  split
  · exact ⟨h, show i ≤ 1000000 by omega⟩
  · exact ⟨show (0 : Int) ≤ 0 by omega, show (0 : Int) ≤ 1000000 by omega⟩
theorem ls_good (b : Int) (t : Nat) (ht : t < 3) (i : Int) (h : 0 ≤ i) (hi : i < b) : (ls b t i).upto (vOne t 20000) (fOne t true) 3 = ls b t 0 := by
  unfold ls
  rw [rs_step b t ht, show decide ((20000 : Int) < 20000) = false from rfl]
  unfold FK.step
  simp [hi, show ¬ b ≤ i by omega, show (0 : Int) < b by omega, show ¬ b ≤ 0 by omega]
theorem ls_zero (c : CF) (t : Nat) (h : 1 ≤ c.B ∧ c.B ≤ 3) : newL c = ls c.B t 0 := by
  rw [newL_rs c t h]
  unfold ls
  simp [show (0 : Int) < c.B by omega, show ¬ c.B ≤ 0 by omega]
theorem ls_last (b : Int) (t : Nat) (ht : t < 3) : ∃ fk, (ls b t b).upto (vOne t 20000) (fOne t true) 3 = rs b t fk true := by
  unfold ls
  rw [rs_step b t ht, decide_eq_true (Int.le_refl b), Bool.true_or]
  exact ⟨_, rfl⟩
theorem out_at (b : Int) (t : Nat) (ht : t < 3) (fk : FK) (lb : Bool) (w : World) : (Instr.index 43 (rs b t fk lb).out (.int .i64 t)).run Try.prog w = .ok (.bool lb) w := by
  obtain rfl | rfl | rfl : t = 0 ∨ t = 1 ∨ t = 2 := by omega
  all_goals kernel_rfl
theorem boxes3 {w : World} {A B C : Array Value} {s t u : TypeId} {W : World} (h : ((w.alloc (.cells A s)).alloc (.cells B t)).alloc (.cells C u) = W) :
    W.heap[w.heap.size]? = some (.cells A s (0, 0)) ∧ W.heap[w.heap.size + 1]? = some (.cells B t (0, 0)) ∧ W.heap[w.heap.size + 1 + 1]? = some (.cells C u (0, 0)) ∧ Below w.heap.size w W ∧ W.heap.size = w.heap.size + 3 := by
  subst h
  have b1 := (Below.refl (w.heap.size + 1) (w.alloc (.cells A s))).alloc (by simp) (.cells B t)
  have b2 := (Below.refl (w.heap.size + 2) ((w.alloc (.cells A s)).alloc (.cells B t))).alloc (by simp) (.cells C u)
  refine ⟨?_, ?_, ?_, (((Below.refl _ w).alloc (Nat.le_refl _) _).alloc (by simp) _).alloc (by simp; omega) _, by simp⟩
  · rw [b2.block _ (by omega), b1.block _ (by omega)]; exact heap_alloc_new _ _
  · rw [b2.block _ (by omega)]; exact heap_alloc2_new _ _ _
  · have := heap_alloc_new ((w.alloc (.cells A s)).alloc (.cells B t)) (.cells C u)
    simpa using this
/-- The counter's buses, whole blocks that lie apart from them, and all that was there. -/
structure LR (B : Nat) (P : Nat → Nat) (rows : List (Nat × Obj)) (w wr : World) (s : LS) : Prop where
  src : Loc wr B P s
  ap : LAp B P
  rws : ∀ p ∈ rows, wr.heap[p.1]? = some p.2
  off : ∀ p ∈ rows, p.1 ≠ B ∧ ∀ i, i < 3 → p.1 ≠ P i
  low : w.heap.size ≤ B ∧ ∀ i, i < 3 → w.heap.size ≤ P i
  below : Below w.heap.size w wr
theorem LR.step {B : Nat} {P : Nat → Nat} {rows : List (Nat × Obj)} {w wr w' : World} {s s' : LS} (h : LR B P rows w wr s) (hs : Loc w' B P s') (ho : OnlyL B P wr w') : LR B P rows w w' s' :=
  ⟨hs, h.ap, fun p hp => ho.row (h.rws p hp) (h.off p hp).1 (h.off p hp).2, h.off, h.low, h.below.trans (ho.below h.low.1 h.low.2 h.below.size)⟩
theorem LR.row {B : Nat} {P : Nat → Nat} {rows : List (Nat × Obj)} {w wr : World} {s : LS} (h : LR B P rows w wr s) (n : Nat) (p : Nat × Obj) (hp : rows[n]? = some p) : wr.heap[p.1]? = some p.2 := h.rws p (List.mem_of_getElem? hp)
theorem LR.more {B : Nat} {P : Nat → Nat} {rows : List (Nat × Obj)} {w wr w' : World} {s : LS} (h : LR B P rows w wr s) (hb : Below wr.heap.size wr w') : LR B P rows w w' s := h.step (h.src.below hb) (Only4.of_below hb)
theorem LR.call {B : Nat} {P : Nat → Nat} {rows : List (Nat × Obj)} {w wr : World} {s : LS} (h : LR B P rows w wr s) (v : Nat → Int) (f : Nat → Bool) (s' : LS) (hs : s.upto v f 3 = s') (hO : LOk s) :
    Calls Try.prog 22 #[.pointer (some ⟨B, 0, none⟩), .agg (leaksA v f)] wr fun e w' => e = .returned s'.out ∧ LR B P rows w w' s' := by
  subst hs
  exact (locStep B P s v f h.ap hO wr h.src).mono fun e w' h' => ⟨h'.1, h.step h'.2.1 h'.2.2⟩
set_option maxRecDepth 100000 in
set_option maxHeartbeats 8000000 in
theorem walkLocateRows (a0 : Int) (a1 : Int) (a2 : Int) (a3 : Int) (w : World) (w0 : (Lit.int .i64 a0).wf = true) (w1 : (Lit.int .i64 a1).wf = true) (w2 : (Lit.int .i64 a2).wf = true) (w3 : (Lit.int .i64 a3).wf = true) :
    Calls Try.prog 7 #[.int .i64 a0, .int .i64 a1, .int .i64 a2, .int .i64 a3] w fun e w' => e = .returned (.bool true) ∧ Below w.heap.size w w' := by
  clear w0 w1 w2 w3
  have hB : 1 ≤ (cfgOf (a0 % 1048576) 0 0).B ∧ (cfgOf (a0 % 1048576) 0 0).B ≤ 3 := by unfold cfgOf; simp only; omega
  have N1 := Lib.hid fun (w : World) => numberC a1 4 (by omega) (by omega) w
  have N2 := Lib.hid fun (w : World) => numberC a2 3 (by omega) (by omega) w
  have N3 := Lib.hid fun (w : World) => numberC a3 ((cfgOf (a0 % 1048576) 0 0).B + 1) (by omega) (by omega) w
  obtain ⟨g, hg, hg2⟩ : ∃ m : Nat, a1 % 4 = m ∧ m ≤ 3 := ⟨(a1 % 4).toNat, by omega, by omega⟩
  obtain ⟨t, ht, ht3⟩ : ∃ m : Nat, a2 % 3 = m ∧ m < 3 := ⟨(a2 % 3).toNat, by omega, by omega⟩
  obtain ⟨n, hn, hn2⟩ : ∃ n : Nat, a3 % ((cfgOf (a0 % 1048576) 0 0).B + 1) = n ∧ (n : Int) ≤ (cfgOf (a0 % 1048576) 0 0).B := ⟨(a3 % ((cfgOf (a0 % 1048576) 0 0).B + 1)).toNat, by
    have := Int.emod_nonneg a3 (show ((cfgOf (a0 % 1048576) 0 0).B + 1) ≠ 0 by omega)
    omega, by
    have := Int.emod_lt_of_pos a3 (show 0 < ((cfgOf (a0 % 1048576) 0 0).B + 1) by omega)
    have := Int.emod_nonneg a3 (show ((cfgOf (a0 % 1048576) 0 0).B + 1) ≠ 0 by omega)
    omega⟩
  rw [hg] at N1
  rw [ht] at N2
  rw [hn] at N3
  clear hg ht hn
  go_enter Try.func7, Try.ntmps7
  go_wp2_with fail
  refine (first24 _).mono ?_
  rintro e w1 ⟨rfl, hb⟩
  have B1 := Lib.hid hb
  clear hb
  go_wp2_with fail
  refine (configC _ 0 0 _).mono ?_
  rintro e w2 ⟨O, fa, fn, fc, rfl, hO, hv, hb1⟩
  have B2 := Lib.hid (B1.out.trans (hb1.mono B1.out.size))
  clear hb1 hv hO
  simp only [cfgV]
  rw [show (0 : Int) % 1048576 = 0 from rfl]
  generalize cfgOf (a0 % 1048576) 0 0 = c at *
  go_wp2_with fail
  refine upon_fresh (by simp) rfl (cfgA_one rfl rfl) ?_
  intro W1 b1 s1 h1
  have HC := Lib.hid h1
  have B3 := Lib.hid (B2.out.trans (b1.mono B2.out.size))
  have cB : W1.cell? ⟨w2.heap.size, 1, none⟩ = some (.int .i64 c.B) := cell_of_row W1 _ 1 _ _ _ h1
  clear h1 b1 s1
  go_wp2_with fail
  refine (N1.out _).mono ?_
  rintro e w' ⟨rfl, rfl⟩
  go_wp2_with fail
  refine (N2.out _).mono ?_
  rintro e w' ⟨rfl, rfl⟩
  go_wp2_with fail
  refine (N3.out _).mono ?_
  rintro e w' ⟨rfl, rfl⟩
  go_wp2_with (refine wpList_load_row_g rfl 26 _ rfl w2.heap.size rfl 26 _ (0, 0) _ HC.out Try.underlying26 rfl (by kernel_rfl) ?_)
  refine (locNew _ _ _ _).mono ?_
  rintro e w3 ⟨B, P, rfl, hS, hA, hL, hb3⟩
  have H3 := Lib.hid (Cfg.below HC.out hb3 (Array.getElem?_eq_some_iff.1 HC.out).1)
  rw [ls_zero c t hB] at hS
  have HS3 := Lib.hid hS
  have HA := Lib.hid hA
  have B4 := Lib.hid (B3.out.trans (hb3.mono B3.out.size))
  have hC := (Array.getElem?_eq_some_iff.1 HC.out).1
  have hws := B3.out.size
  have NC := Lib.hid (show w2.heap.size ≠ B ∧ ∀ i, i < 3 → w2.heap.size ≠ P i from ⟨by have := hL.1; omega, fun i hi => by have := hL.2 i hi; omega⟩)
  have NW := Lib.hid (show w.heap.size ≤ B ∧ ∀ i, i < 3 → w.heap.size ≤ P i from ⟨by have := hL.1; omega, fun i hi => by have := hL.2 i hi; omega⟩)
  clear hS hA hL hb3 HC B3 cB
  have hCw : w2.heap.size < w3.heap.size := (Array.getElem?_eq_some_iff.1 H3.out).1
  have LT := Lib.hid HS3.out.lt
  have H6 : LR B P [(w2.heap.size, .cells (cfgA c (.slice (some ⟨O, 0, none⟩) 4 4) (.slice fa fn fc)) 26 (0, 0))] w w3 (ls c.B t 0) := by
    refine ⟨HS3.out, HA.out, ?_, ?_, NW.out, B4.out⟩
    · intro p hp
      simp only [List.mem_cons, List.not_mem_nil, or_false] at hp
      subst hp
      exact H3.out
    · intro p hp
      simp only [List.mem_cons, List.not_mem_nil, or_false] at hp
      subst hp
      exact NC.out
  have F6 := Lib.hid H6
  clear H6 HS3 H3 B4
  go_upto_region 12 with fail
  generalize hW : World.alloc (World.alloc (World.alloc w3 _) _) _ = W5
  obtain ⟨r0, r1, r2, rb, rsz⟩ := boxes3 (A := leaksA (fun _ => 0) (fun _ => false)) (B := leaksA (fun _ => 0) (fun _ => false)) (C := leaksA (fun _ => 0) (fun _ => false)) hW
  clear hW
  have R0 := Lib.hid r0
  have R1 := Lib.hid r1
  have R2 := Lib.hid r2
  have F5 := Lib.hid (F6.out.more rb)
  clear r0 r1 r2 rb F6
  generalize w3.heap.size = Z at *
  have c8 : W5.cell? ⟨w2.heap.size, 8, none⟩ = some (.int .i64 20000) := cell_of_row _ _ 8 _ _ _ (F5.out.row 0 _ rfl)
  obtain ⟨x0, x1⟩ := leaks6 R0.out t ht3
  obtain ⟨y0, y1⟩ := leaks6 R1.out t ht3
  have xf : ∀ j, W5.frozen? ⟨Z, j, none⟩ = false := fun j => by have := R0.out; simp [World.frozen?, this]
  have yf : ∀ j, W5.frozen? ⟨Z + 1, j, none⟩ = false := fun j => by have := R1.out; simp [World.frozen?, this]
  have zn : Z ≠ Z + 1 := by omega
  have zc : w2.heap.size ≠ Z := by omega
  go_upto_region 14 with fail
  generalize hW : World.setCell (World.setCell (World.setCell (World.setCell W5 _ _) _ _) _ _) _ _ = W6
  have ho : ∀ k, k ≠ Z → k ≠ Z + 1 → W6.heap[k]? = W5.heap[k]? := fun k h1 h2 => by
    rw [← hW]
    exact (((heap_setCell_other _ ⟨_, _, _⟩ _ _ h2).trans (heap_setCell_other _ ⟨_, _, _⟩ _ _ h2)).trans (heap_setCell_other _ ⟨_, _, _⟩ _ _ h1)).trans (heap_setCell_other _ ⟨_, _, _⟩ _ _ h1)
  have g0 : W6.heap[Z]? = some (.cells (leaksA (vOne t 20001) (fOne t true)) 45 (0, 0)) := by
    rw [← hW]
    exact ((heap_setCell_other _ ⟨_, _, _⟩ _ _ zn).trans (heap_setCell_other _ ⟨_, _, _⟩ _ _ zn)).trans (leaks_put R0.out t ht3 20001 true)
  have g1 : W6.heap[Z + 1]? = some (.cells (leaksA (vOne t 20000) (fOne t true)) 45 (0, 0)) := by
    rw [← hW]
    exact leaks_put (((heap_setCell_other _ ⟨_, _, _⟩ _ _ zn.symm).trans (heap_setCell_other _ ⟨_, _, _⟩ _ _ zn.symm)).trans R1.out) t ht3 20000 true
  have g2 : W6.heap[Z + 1 + 1]? = some (.cells (leaksA (fun _ => 0) (fun _ => false)) 45 (0, 0)) := (ho _ (by omega) (by omega)).trans R2.out
  have hwz : w.heap.size ≤ Z := by have := B2.out.size; omega
  have hbl : Below w.heap.size w W6 := by
    rw [← hW]
    exact (((F5.out.below.setCell (p := ⟨Z, t * 2, none⟩) hwz _).setCell (p := ⟨Z, t * 2 + 1, none⟩) hwz _).setCell (p := ⟨Z + 1, t * 2, none⟩) (show w.heap.size ≤ Z + 1 by omega) _).setCell (p := ⟨Z + 1, t * 2 + 1, none⟩) (show w.heap.size ≤ Z + 1 by omega) _
  clear hW
  obtain ⟨lb, lp⟩ := LT.out
  have H7 : LR B P [(w2.heap.size, .cells (cfgA c (.slice (some ⟨O, 0, none⟩) 4 4) (.slice fa fn fc)) 26 (0, 0)), (Z, .cells (leaksA (vOne t 20001) (fOne t true)) 45 (0, 0)), (Z + 1, .cells (leaksA (vOne t 20000) (fOne t true)) 45 (0, 0)), (Z + 1 + 1, .cells (leaksA (fun _ => 0) (fun _ => false)) 45 (0, 0))] w W6 (ls c.B t 0) := by
    refine ⟨F5.out.src.other fun k hk => ?_, F5.out.ap, ?_, ?_, F5.out.low, hbl⟩
    · rcases hk with rfl | ⟨i, hi, rfl⟩
      · exact ho _ (by omega) (by omega)
      · have := lp i hi
        exact ho _ (by omega) (by omega)
    · intro p hp
      simp only [List.mem_cons, List.not_mem_nil, or_false] at hp
      rcases hp with rfl | rfl | rfl | rfl
      · exact (ho _ zc (by show w2.heap.size ≠ Z + 1; omega)).trans (F5.out.row 0 _ rfl)
      · exact g0
      · exact g1
      · exact g2
    · intro p hp
      simp only [List.mem_cons, List.not_mem_nil, or_false] at hp
      rcases hp with rfl | rfl | rfl | rfl
      · exact NC.out
      · exact ⟨show Z ≠ B by omega, fun i hi => by have := lp i hi; show Z ≠ P i; omega⟩
      · exact ⟨show Z + 1 ≠ B by omega, fun i hi => by have := lp i hi; show Z + 1 ≠ P i; omega⟩
      · exact ⟨show Z + 1 + 1 ≠ B by omega, fun i hi => by have := lp i hi; show Z + 1 + 1 ≠ P i; omega⟩
  obtain ⟨rws, RS0, RS1, RS2, RS3, F7⟩ : ∃ r : List (Nat × Obj), Hid (r[0]? = some (w2.heap.size, .cells (cfgA c (.slice (some ⟨O, 0, none⟩) 4 4) (.slice fa fn fc)) 26 (0, 0))) ∧ Hid (r[1]? = some (Z, .cells (leaksA (vOne t 20001) (fOne t true)) 45 (0, 0))) ∧ Hid (r[2]? = some (Z + 1, .cells (leaksA (vOne t 20000) (fOne t true)) 45 (0, 0))) ∧ Hid (r[3]? = some (Z + 1 + 1, .cells (leaksA (fun _ => 0) (fun _ => false)) 45 (0, 0))) ∧ Hid (LR B P r w W6 (ls c.B t 0)) := ⟨_, Lib.hid rfl, Lib.hid rfl, Lib.hid rfl, Lib.hid rfl, Lib.hid H7⟩
  clear H7 ho g0 g1 g2 hbl F5 R0 R1 R2 c8 x0 x1 y0 y1 xf yf lb lp LT
  have L0 := Lib.hid fun (wr : World) (s : LS) (h : LR B P rws w wr s) => (show wr.cell? ⟨w2.heap.size, 1, none⟩ = some (.int .i64 c.B) from cell_of_row _ _ 1 _ _ _ (h.row 0 _ RS0.out))
  have L1 := Lib.hid fun (wr : World) (s : LS) (h : LR B P rws w wr s) => (show wr.heap[Z]? = some (.cells (leaksA (vOne t 20001) (fOne t true)) 45 (0, 0)) from h.row 1 _ RS1.out)
  have L2 := Lib.hid fun (wr : World) (s : LS) (h : LR B P rws w wr s) => (show wr.heap[Z + 1]? = some (.cells (leaksA (vOne t 20000) (fOne t true)) 45 (0, 0)) from h.row 2 _ RS2.out)
  have L3 := Lib.hid fun (wr : World) (s : LS) (h : LR B P rws w wr s) => (show wr.heap[Z + 1 + 1]? = some (.cells (leaksA (fun _ => 0) (fun _ => false)) 45 (0, 0)) from h.row 3 _ RS3.out)
  obtain ⟨b, hb, hbn⟩ : ∃ b : Nat, c.B = b ∧ 1 ≤ b ∧ b ≤ 3 := ⟨c.B.toNat, by omega, by omega, by omega⟩
  rw [hb] at L0 F7 hB hn2
  rw [hb]
  clear hb
  go_wp2_with fail
  go_loopw [15] (fun v wr => ∃ (i : Nat), (i : Int) < b ∧ v = .int .i64 i ∧ LR B P rws w wr (ls b t i) ∧ (i ≤ n)) (fun v _ => n - (intOf v).toNat)
  case atStart => exact ⟨0, by omega, rfl, F7.out, by omega⟩
  case round =>
    obtain ⟨i, hi, rfl, h, hin⟩ := hrel
    have FH := Lib.hid h
    clear h F7
    have c1 := L0.out _ _ FH.out
    by_cases hgo : i < n ∧ n < b
    · obtain ⟨hi1, hi2⟩ := hgo
      go_wp2_with (refine wpList_load_row_g rfl 45 _ rfl Z rfl 45 _ (0, 0) _ (L1.out _ _ FH.out) Try.underlying45 rfl (by kernel_rfl) ?_)
      refine (FH.out.call (vOne t 20001) (fOne t true) _ (ls_step _ _ ht3 _ (by omega) hi hB.1) (ls_ok _ _ _ (by omega) hB)).mono ?_
      rintro e w4 ⟨rfl, h4⟩
      have F4 := Lib.hid h4
      clear h4 FH c1
      go_wp2_with fail
      go_roundw
      case rel => exact ⟨i + 1, by omega, by go_num, by simpa using F4.out, by omega⟩
      case measure => simp [intOf]; omega
    · have hex : n = i ∨ b ≤ n := by omega
      clear hgo
      rcases hex with rfl | hex
      · go_wp2_with (refine wpList_load_row_g rfl 45 _ rfl (Z + 1) rfl 45 _ (0, 0) _ (L2.out _ _ FH.out) Try.underlying45 rfl (by kernel_rfl) ?_)
        refine (FH.out.call (vOne t 20000) (fOne t true) _ (ls_good _ _ ht3 _ (by omega) hi) (ls_ok _ _ _ (by omega) hB)).mono ?_
        rintro e w4 ⟨rfl, h4⟩
        have F4 := Lib.hid h4
        clear h4 FH c1
        go_wp2_with fail
        go_loopw [16] (fun v wr => ∃ (i : Nat), i ≤ b ∧ v = .int .i64 i ∧ LR B P rws w wr (ls b t i)) (fun v _ => b - (intOf v).toNat)
        case atStart => exact ⟨0, by omega, rfl, F4.out⟩
        case round =>
          obtain ⟨i, hi, rfl, h⟩ := hrel
          have FH := Lib.hid h
          clear h F4
          have c1 := L0.out _ _ FH.out
          by_cases hlt : i < b
          · have KO := Lib.hid fun (w : World) => out_at b t ht3 (if (i : Int) < b then ⟨b, i, false⟩ else ⟨b, 0, true⟩) (decide ((b : Int) ≤ i)) w
            rw [show decide ((b : Int) ≤ i) = false from decide_eq_false (by omega)] at KO
            have KL := Lib.hid (lockedC B P (ls b t i) _ FH.out.src)
            have ix : ∀ w : World, (Instr.index 43 (ls b t i).out (.int .i64 t)).run Try.prog w = .ok (.bool false) w := fun w => by
              unfold ls
              rw [show decide ((b : Int) ≤ i) = false from decide_eq_false (by omega)]
              exact KO.out w
            clear KO
            obtain ⟨ov, hov⟩ : ∃ x, (ls b t i).out = x := ⟨_, rfl⟩
            rw [hov] at ix KL
            clear hov
            go_wp2_with fail
            refine KL.out.mono ?_
            rintro e w4 ⟨rfl, hb⟩
            have F4 := Lib.hid (FH.out.more hb)
            have c1' := L0.out _ _ F4.out
            clear hb FH c1 KL
            go_wp2_with (refine wpList_load_row_g rfl 45 _ rfl Z rfl 45 _ (0, 0) _ (L1.out _ _ F4.out) Try.underlying45 rfl (by kernel_rfl) ?_)
            refine (F4.out.call (vOne t 20001) (fOne t true) _ (ls_step _ _ ht3 _ (by omega) (by omega) hB.1) (ls_ok _ _ _ (by omega) hB)).mono ?_
            rintro e w5 ⟨rfl, h5⟩
            have F5 := Lib.hid h5
            clear h5 F4 c1' ix
            go_wp2_with fail
            go_loopw [17] (fun v wr => ∃ (j : Nat), j ≤ g ∧ v = .int .i64 j ∧ LR B P rws w wr (ls b t (i + 1))) (fun v _ => g - (intOf v).toNat)
            case atStart => exact ⟨0, by omega, rfl, F5.out⟩
            case round =>
              obtain ⟨j, hj, rfl, h⟩ := hrel
              have FH := Lib.hid h
              clear h F5
              by_cases hl2 : j < g
              · go_wp2_with (refine wpList_load_row_g rfl 45 _ rfl (Z + 1 + 1) rfl 45 _ (0, 0) _ (L3.out _ _ FH.out) Try.underlying45 rfl (by kernel_rfl) ?_)
                refine (FH.out.call (fun _ => 0) (fun _ => false) _ (rs_none _) (ls_ok _ _ _ (by omega) hB)).mono ?_
                rintro e w5 ⟨rfl, h5⟩
                have F5 := Lib.hid h5
                clear h5 FH
                go_wp2_with fail
                go_roundw
                case rel => exact ⟨j + 1, by omega, by go_num, F5.out⟩
                case measure => simp [intOf]; omega
              · obtain rfl : j = g := by omega
                go_wp2_with fail
                go_roundw
                case rel => exact ⟨i + 1, by omega, by go_num, by simpa using FH.out⟩
                case measure => simp [intOf]; omega
          · obtain rfl : i = b := by omega
            obtain ⟨fk, hfk⟩ := ls_last i t ht3
            go_wp2_with (refine wpList_load_row_g rfl 45 _ rfl (Z + 1) rfl 45 _ (0, 0) _ (L2.out _ _ FH.out) Try.underlying45 rfl (by kernel_rfl) ?_)
            refine (FH.out.call (vOne t 20000) (fOne t true) _ hfk (ls_ok _ _ _ (by omega) hB)).mono ?_
            rintro e w5 ⟨rfl, h5⟩
            have F5 := Lib.hid h5
            clear h5 FH c1
            go_wp2_with fail
            refine (lockedC B P _ _ F5.out.src).mono ?_
            unfold LS.out
            rintro e w6 ⟨rfl, hb⟩
            have F6 := Lib.hid (F5.out.more hb)
            clear hb F5
            go_upto_region 31 with fail
            generalize hW : World.alloc w6 _ = W7
            have hr : W7.heap[w6.heap.size]? = some (.cells #[.bool ((rs i t fk true).l 0), .bool ((rs i t fk true).l 1), .bool ((rs i t fk true).l 2)] 43 (0, 0)) ∧ Below w.heap.size w W7 := by
              rw [← hW]
              exact ⟨heap_alloc_new _ _, F6.out.below.alloc F6.out.below.size _⟩
            clear hW
            have HR := Lib.hid hr.2
            have cell : ∀ k, k < 3 → W7.cell? ⟨w6.heap.size, k, none⟩ = some (.bool ((rs i t fk true).l k)) := fun k hk => (cell_of_row _ _ _ _ _ _ hr.1).trans (by
              obtain rfl | rfl | rfl : k = 0 ∨ k = 1 ∨ k = 2 := by omega
              all_goals rfl)
            have q0 : W7.cell? ⟨w6.heap.size, t, none⟩ = some (.bool true) := (cell t ht3).trans (by unfold rs updL; simp)
            have q1 : W7.cell? ⟨w6.heap.size, (t + 1) % 3, none⟩ = some (.bool false) := (cell _ (Nat.mod_lt _ (by omega))).trans (by unfold rs updL; simp; omega)
            have q2 : W7.cell? ⟨w6.heap.size, (t + 2) % 3, none⟩ = some (.bool false) := (cell _ (Nat.mod_lt _ (by omega))).trans (by unfold rs updL; simp; omega)
            clear hr cell
            go_wp2_with fail
            go_ret
            exact ⟨rfl, HR.out⟩
      · by_cases hin2 : i < n
        · go_wp2_with (refine wpList_load_row_g rfl 45 _ rfl (Z + 1) rfl 45 _ (0, 0) _ (L2.out _ _ FH.out) Try.underlying45 rfl (by kernel_rfl) ?_)
          refine (FH.out.call (vOne t 20000) (fOne t true) _ (ls_good _ _ ht3 _ (by omega) hi) (ls_ok _ _ _ (by omega) hB)).mono ?_
          rintro e w4 ⟨rfl, h4⟩
          have F4 := Lib.hid h4
          clear h4 FH c1
          go_wp2_with fail
          go_loopw [16] (fun v wr => ∃ (i : Nat), i ≤ b ∧ v = .int .i64 i ∧ LR B P rws w wr (ls b t i)) (fun v _ => b - (intOf v).toNat)
          case atStart => exact ⟨0, by omega, rfl, F4.out⟩
          case round =>
            obtain ⟨i, hi, rfl, h⟩ := hrel
            have FH := Lib.hid h
            clear h F4
            have c1 := L0.out _ _ FH.out
            by_cases hlt : i < b
            · have KO := Lib.hid fun (w : World) => out_at b t ht3 (if (i : Int) < b then ⟨b, i, false⟩ else ⟨b, 0, true⟩) (decide ((b : Int) ≤ i)) w
              rw [show decide ((b : Int) ≤ i) = false from decide_eq_false (by omega)] at KO
              have KL := Lib.hid (lockedC B P (ls b t i) _ FH.out.src)
              have ix : ∀ w : World, (Instr.index 43 (ls b t i).out (.int .i64 t)).run Try.prog w = .ok (.bool false) w := fun w => by
                unfold ls
                rw [show decide ((b : Int) ≤ i) = false from decide_eq_false (by omega)]
                exact KO.out w
              clear KO
              obtain ⟨ov, hov⟩ : ∃ x, (ls b t i).out = x := ⟨_, rfl⟩
              rw [hov] at ix KL
              clear hov
              go_wp2_with fail
              refine KL.out.mono ?_
              rintro e w4 ⟨rfl, hb⟩
              have F4 := Lib.hid (FH.out.more hb)
              have c1' := L0.out _ _ F4.out
              clear hb FH c1 KL
              go_wp2_with (refine wpList_load_row_g rfl 45 _ rfl Z rfl 45 _ (0, 0) _ (L1.out _ _ F4.out) Try.underlying45 rfl (by kernel_rfl) ?_)
              refine (F4.out.call (vOne t 20001) (fOne t true) _ (ls_step _ _ ht3 _ (by omega) (by omega) hB.1) (ls_ok _ _ _ (by omega) hB)).mono ?_
              rintro e w5 ⟨rfl, h5⟩
              have F5 := Lib.hid h5
              clear h5 F4 c1' ix
              go_wp2_with fail
              go_loopw [17] (fun v wr => ∃ (j : Nat), j ≤ g ∧ v = .int .i64 j ∧ LR B P rws w wr (ls b t (i + 1))) (fun v _ => g - (intOf v).toNat)
              case atStart => exact ⟨0, by omega, rfl, F5.out⟩
              case round =>
                obtain ⟨j, hj, rfl, h⟩ := hrel
                have FH := Lib.hid h
                clear h F5
                by_cases hl2 : j < g
                · go_wp2_with (refine wpList_load_row_g rfl 45 _ rfl (Z + 1 + 1) rfl 45 _ (0, 0) _ (L3.out _ _ FH.out) Try.underlying45 rfl (by kernel_rfl) ?_)
                  refine (FH.out.call (fun _ => 0) (fun _ => false) _ (rs_none _) (ls_ok _ _ _ (by omega) hB)).mono ?_
                  rintro e w5 ⟨rfl, h5⟩
                  have F5 := Lib.hid h5
                  clear h5 FH
                  go_wp2_with fail
                  go_roundw
                  case rel => exact ⟨j + 1, by omega, by go_num, F5.out⟩
                  case measure => simp [intOf]; omega
                · obtain rfl : j = g := by omega
                  go_wp2_with fail
                  go_roundw
                  case rel => exact ⟨i + 1, by omega, by go_num, by simpa using FH.out⟩
                  case measure => simp [intOf]; omega
            · obtain rfl : i = b := by omega
              obtain ⟨fk, hfk⟩ := ls_last i t ht3
              go_wp2_with (refine wpList_load_row_g rfl 45 _ rfl (Z + 1) rfl 45 _ (0, 0) _ (L2.out _ _ FH.out) Try.underlying45 rfl (by kernel_rfl) ?_)
              refine (FH.out.call (vOne t 20000) (fOne t true) _ hfk (ls_ok _ _ _ (by omega) hB)).mono ?_
              rintro e w5 ⟨rfl, h5⟩
              have F5 := Lib.hid h5
              clear h5 FH c1
              go_wp2_with fail
              refine (lockedC B P _ _ F5.out.src).mono ?_
              unfold LS.out
              rintro e w6 ⟨rfl, hb⟩
              have F6 := Lib.hid (F5.out.more hb)
              clear hb F5
              go_upto_region 31 with fail
              generalize hW : World.alloc w6 _ = W7
              have hr : W7.heap[w6.heap.size]? = some (.cells #[.bool ((rs i t fk true).l 0), .bool ((rs i t fk true).l 1), .bool ((rs i t fk true).l 2)] 43 (0, 0)) ∧ Below w.heap.size w W7 := by
                rw [← hW]
                exact ⟨heap_alloc_new _ _, F6.out.below.alloc F6.out.below.size _⟩
              clear hW
              have HR := Lib.hid hr.2
              have cell : ∀ k, k < 3 → W7.cell? ⟨w6.heap.size, k, none⟩ = some (.bool ((rs i t fk true).l k)) := fun k hk => (cell_of_row _ _ _ _ _ _ hr.1).trans (by
                obtain rfl | rfl | rfl : k = 0 ∨ k = 1 ∨ k = 2 := by omega
                all_goals rfl)
              have q0 : W7.cell? ⟨w6.heap.size, t, none⟩ = some (.bool true) := (cell t ht3).trans (by unfold rs updL; simp)
              have q1 : W7.cell? ⟨w6.heap.size, (t + 1) % 3, none⟩ = some (.bool false) := (cell _ (Nat.mod_lt _ (by omega))).trans (by unfold rs updL; simp; omega)
              have q2 : W7.cell? ⟨w6.heap.size, (t + 2) % 3, none⟩ = some (.bool false) := (cell _ (Nat.mod_lt _ (by omega))).trans (by unfold rs updL; simp; omega)
              clear hr cell
              go_wp2_with fail
              go_ret
              exact ⟨rfl, HR.out⟩
        · exfalso
          omega
end Go.Proofs.Ytcphpaacgkfkbaa
