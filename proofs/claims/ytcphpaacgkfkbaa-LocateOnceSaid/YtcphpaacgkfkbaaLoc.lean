/- What the locked buses do, by plain definitions; their four blocks alone change. Conditions: the filters' counts are small. -/
import Derived.Test.YtcphpaacgkfkbaaHealth
import Derived.Test.YtcphpaacgkfkbaaTail
import Derived.Test.YtcphpaacgkfkbaaPh2
import Derived.BigQuiet
import Derived.Deep.DeepCutAuto
set_option linter.unusedVariables false
namespace Go.Proofs.Ytcphpaacgkfkbaa
open Go.RowKit
structure LS where
  trip : Int
  k : Nat → FK
  l : Nat → Bool
def LS.arr (s : LS) (P : Nat → Nat) : Array Value := #[.int .i64 s.trip, .pointer (some ⟨P 0, 0, none⟩), .pointer (some ⟨P 1, 0, none⟩), .pointer (some ⟨P 2, 0, none⟩), .bool (s.l 0), .bool (s.l 1), .bool (s.l 2)]
def LS.out (s : LS) : Value := .agg #[.bool (s.l 0), .bool (s.l 1), .bool (s.l 2)]
structure Loc (w : World) (B : Nat) (P : Nat → Nat) (s : LS) : Prop where
  row : w.heap[B]? = some (.cells (s.arr P) 79 (0, 0))
  fl : ∀ i, i < 3 → Fl w (P i) (s.k i)
structure LAp (B : Nat) (P : Nat → Nat) : Prop where
  ne : ∀ i, i < 3 → P i ≠ B
  inj : ∀ i j, i < 3 → j < 3 → P i = P j → i = j
theorem Loc.cells {w : World} {B : Nat} {P : Nat → Nat} {s : LS} (h : Loc w B P s) :
    w.cell? ⟨B, 0, none⟩ = some (.int .i64 s.trip) ∧ (∀ i, i < 3 → w.cell? ⟨B, 1 + i, none⟩ = some (.pointer (some ⟨P i, 0, none⟩))) ∧ (∀ i, i < 3 → w.cell? ⟨B, 4 + i, none⟩ = some (.bool (s.l i))) ∧ ∀ j, w.frozen? ⟨B, j, none⟩ = false := by
  have r := h.row
  refine ⟨cell_of_row _ _ 0 _ _ _ r, fun i hi => ?_, fun i hi => ?_, fun j => by simp [World.frozen?, r]⟩
  · refine (cell_of_row w B _ _ _ _ r).trans ?_
    obtain rfl | rfl | rfl : i = 0 ∨ i = 1 ∨ i = 2 := by omega
    all_goals rfl
  · refine (cell_of_row w B _ _ _ _ r).trans ?_
    obtain rfl | rfl | rfl : i = 0 ∨ i = 1 ∨ i = 2 := by omega
    all_goals rfl
theorem Loc.lt {w : World} {B : Nat} {P : Nat → Nat} {s : LS} (h : Loc w B P s) : B < w.heap.size ∧ ∀ i, i < 3 → P i < w.heap.size :=
  ⟨(Array.getElem?_eq_some_iff.1 h.row).1, fun i hi => (h.fl i hi).lt⟩
theorem Loc.below {w w' : World} {B : Nat} {P : Nat → Nat} {s : LS} (h : Loc w B P s) (hb : Below w.heap.size w w') : Loc w' B P s :=
  ⟨(hb.block B (Array.getElem?_eq_some_iff.1 h.row).1).trans h.row, fun i hi => (h.fl i hi).below hb⟩
/-- Its four blocks alone have changed. -/
def OnlyL (B : Nat) (P : Nat → Nat) (w w' : World) : Prop := Only4 B (P 0) (P 1) (P 2) w w'
def updL (f : Nat → Bool) (k : Nat) (x : Bool) : Nat → Bool := fun j => if j = k then x else f j
def updK (f : Nat → FK) (k : Nat) (x : FK) : Nat → FK := fun j => if j = k then x else f j
theorem Loc.lock {w : World} {B : Nat} {P : Nat → Nat} {s : LS} (h : Loc w B P s) (hA : LAp B P) (k : Nat) (hk : k < 3) (x : Bool) : Loc (w.setCell ⟨B, 4 + k, none⟩ (.bool x)) B P { s with l := updL s.l k x } := by
  refine ⟨?_, fun i hi => (heap_setCell_other _ ⟨_, _, _⟩ _ _ (hA.ne i hi)).trans (h.fl i hi)⟩
  have r := h.row
  obtain rfl | rfl | rfl : k = 0 ∨ k = 1 ∨ k = 2 := by omega
  all_goals simp [World.setCell, Array.getElem?_modify, r, LS.arr, updL]
theorem Loc.onP {w w' : World} {B : Nat} {P : Nat → Nat} {s : LS} (h : Loc w B P s) (hA : LAp B P) (k : Nat) (hk : k < 3) (ho : Only (P k) w w') (f : FK) (hf : Fl w' (P k) f) : Loc w' B P { s with k := updK s.k k f } := by
  refine ⟨ho.row h.row (hA.ne k hk).symm, fun i hi => ?_⟩
  unfold updK
  by_cases hik : i = k
  · subst hik; simp only [if_true]; exact hf
  · simp only [if_neg hik]
    exact (h.fl i hi).only ho fun e => hik (hA.inj i k hi hk e)
theorem onlyP {B : Nat} {P : Nat → Nat} {w w' : World} (k : Nat) (hk : k < 3) (ho : Only (P k) w w') : OnlyL B P w w' := by
  obtain rfl | rfl | rfl : k = 0 ∨ k = 1 ∨ k = 2 := by omega
  · exact Only4.ofU ho
  · exact Only4.ofV ho
  · exact Only4.ofX ho
theorem lockedC (B : Nat) (P : Nat → Nat) (s : LS) (w : World) (h : Loc w B P s) :
    Calls Try.prog 23 #[.pointer (some ⟨B, 0, none⟩)] w fun e w' => e = .returned s.out ∧ Below w.heap.size w w' := by
  have hlt := h.lt.1
  have q4 : ∀ o, (w.alloc o).cell? ⟨B, 4, none⟩ = some (.bool (s.l 0)) := fun o => cell_alloc (h.cells.2.2.1 0 (by omega)) o
  have q5 : ∀ o, (w.alloc o).cell? ⟨B, 5, none⟩ = some (.bool (s.l 1)) := fun o => cell_alloc (h.cells.2.2.1 1 (by omega)) o
  have q6 : ∀ o, (w.alloc o).cell? ⟨B, 6, none⟩ = some (.bool (s.l 2)) := fun o => cell_alloc (h.cells.2.2.1 2 (by omega)) o
  clear h
  go_enter Try.func23, Try.ntmps23
  go_wp2_with fail
  exact bodyPost_ret (v := s.out) (by simp [results, Try.results23, go_sem, LS.out]) rfl ⟨rfl, (Below.refl _ _).alloc (Nat.le_refl _) _⟩
theorem lockC (B : Nat) (P : Nat → Nat) (s : LS) (k : Nat) (hk : k < 3) (bus : Int) (hbus : bus = 4 + k) (hA : LAp B P) (w : World) (h : Loc w B P s) :
    Calls Try.prog 24 #[.pointer (some ⟨B, 0, none⟩), .int .i64 bus] w fun e w' => e = .returned (.bool true) ∧ Loc w' B P { s with l := updL s.l k true } ∧ Only B w w' := by
  subst hbus
  have H := Lib.hid h
  have q4 := h.cells.2.2.1 k hk
  have qf := h.cells.2.2.2
  clear h
  go_enter Try.func24, Try.ntmps24
  go_wp2_with fail
  go_ret
  exact ⟨rfl, H.out.lock hA k hk true, Only.set B _ _ _⟩
theorem lockNo (B : Nat) (bus : Int) (hbus : bus < 4 ∨ 6 < bus) (w : World) :
    Calls Try.prog 24 #[.pointer (some ⟨B, 0, none⟩), .int .i64 bus] w fun e w' => e = .returned (.bool false) ∧ w = w' := by
  rcases hbus with h | h
  all_goals
    go_enter Try.func24, Try.ntmps24
    go_wp2_with fail
    go_ret
    exact ⟨rfl, rfl⟩
def newL (c : CF) : LS := ⟨20000, fun _ => ⟨cut1 c.B, 0, false⟩, fun _ => false⟩
def ptK (P : Nat → Nat) (k i : Nat) : Value := .pointer (if i < k then some ⟨P i, 0, none⟩ else none)
def arrK (P : Nat → Nat) (k : Nat) : Array Value := #[.int .i64 20000, ptK P k 0, ptK P k 1, ptK P k 2, .bool false, .bool false, .bool false]
/-- The worlds on the way through a round. -/
def DN (W : World) (A : Addr) (f : FK) : Bool → Bool → World → Prop
  | false, false, w => w = W
  | false, true, _ => False
  | true, false, w => Fl w W.heap.size f ∧ Below W.heap.size W w
  | true, true, w => ∃ w1, (Fl w1 W.heap.size f ∧ Below W.heap.size W w1) ∧ w = w1.setCell A (.pointer (some ⟨W.heap.size, 0, none⟩))
theorem DN.keep {W : World} {A : Addr} {f : FK} : ∀ {b c : Bool} {w : World}, DN W A f b c w → ∀ {k : Nat} {o : Obj}, k ≠ A.block → W.heap[k]? = some o → w.heap[k]? = some o
  | false, false, w, h, k, o, hk, hg => by
    obtain rfl : w = W := h
    exact hg
  | false, true, _, h, _, _, _, _ => False.elim h
  | true, false, w, h, k, o, hk, hg => by
    have h : _ ∧ Below W.heap.size W w := h
    exact (h.2.block k (Array.getElem?_eq_some_iff.1 hg).1).trans hg
  | true, true, w, h, k, o, hk, hg => by
    obtain ⟨w1, h1, rfl⟩ : ∃ w1, (Fl w1 W.heap.size f ∧ Below W.heap.size W w1) ∧ w = _ := h
    exact (heap_setCell_other _ A _ _ hk).trans ((h1.2.block k (Array.getElem?_eq_some_iff.1 hg).1).trans hg)
set_option maxHeartbeats 4000000 in
theorem locNew (c : CF) (oc fe : Value) (w : World) :
    Calls Try.prog 21 #[.agg (cfgA c oc fe)] w fun e w' => ∃ B P, e = .returned (.pointer (some ⟨B, 0, none⟩)) ∧ Loc w' B P (newL c) ∧ LAp B P ∧ (w.heap.size ≤ B ∧ ∀ i, i < 3 → w.heap.size ≤ P i) ∧ Below w.heap.size w w' := by
  go_enter Try.func21, Try.ntmps21
  go_upto_region 1 with fail
  generalize hW : World.alloc w _ = W0
  obtain ⟨hrow, hb0, hs0⟩ : W0.heap[w.heap.size]? = some (.cells (cfgA c oc fe) 26 (0, 0)) ∧ Below w.heap.size w W0 ∧ W0.heap.size = w.heap.size + 1 := by
    rw [← hW]
    exact ⟨heap_alloc_new _ _, (Below.refl _ _).alloc (Nat.le_refl _) _, by simp⟩
  clear hW
  have c8 : W0.cell? ⟨w.heap.size, 8, none⟩ = some (.int .i64 20000) := cell_of_row W0 _ 8 _ _ _ hrow
  go_upto_region 2 with fail
  generalize hW : World.alloc W0 _ = W1
  obtain ⟨G1, G2, G3⟩ : Hid (W1.heap[w.heap.size]? = some (.cells (cfgA c oc fe) 26 (0, 0))) ∧ Hid (W1.heap[W0.heap.size]? = some (.cells (arrK (fun _ => 0) 0) 79 (0, 0))) ∧ Hid (Below w.heap.size w W1) := by
    rw [← hW]
    have al := (Below.refl W0.heap.size W0).alloc (Nat.le_refl _) (.cells (arrK (fun _ => 0) 0) 79)
    exact ⟨Lib.hid ((al.block _ (by omega)).trans hrow), Lib.hid (heap_alloc_new _ _), Lib.hid (hb0.trans (al.mono hb0.size))⟩
  clear hW hrow hb0 c8
  rw [hs0] at G2
  go_wp2_with fail
  go_loopw [9] (fun v wr => ∃ (k : Nat) (P : Nat → Nat), k ≤ 3 ∧ v = .int .i64 k ∧ wr.heap[w.heap.size]? = some (.cells (cfgA c oc fe) 26 (0, 0)) ∧ wr.heap[w.heap.size + 1]? = some (.cells (arrK P k) 79 (0, 0)) ∧ Below w.heap.size w wr ∧ Hid (∀ i, i < k → Fl wr (P i) ⟨cut1 c.B, 0, false⟩ ∧ w.heap.size + 1 < P i) ∧ Hid (∀ i j, i < k → j < k → P i = P j → i = j)) (fun v _ => 3 - (intOf v).toNat)
  case atStart => exact ⟨0, _, by omega, rfl, G1.out, G2.out, G3.out, fun i hi => by omega, fun i j hi => by omega⟩
  case round =>
    obtain ⟨k, P, hk, rfl, g1, g2, g3, hf, hinj⟩ := hrel
    have F1 := Lib.hid g1
    have F2 := Lib.hid g2
    have F3 := Lib.hid g3
    have hBl := (Array.getElem?_eq_some_iff.1 g2).1
    clear g1 g2 g3 G1 G2 G3
    by_cases hlt : k < 3
    · go_upto_region 5 with fail
      obtain ⟨E, HE, HM⟩ : ∃ E : World → World, Hid (∀ b c' w', DN wr.drew ⟨w.heap.size + 1, 1 + k, none⟩ ⟨cut1 c.B, 0, false⟩ b c' w' → ∃ d, w' = E d) ∧ Hid (∀ d, (E d).heap[w.heap.size]? = some (.cells (cfgA c oc fe) 26 (0, 0))) :=
        ⟨_, Lib.hid (two_pick (w0 := wr.drew)), Lib.hid (pick_ind (w0 := wr.drew) (M := fun w' => w'.heap[w.heap.size]? = some (.cells (cfgA c oc fe) 26 (0, 0))) F1.out (fun w' ⟨b, c', h⟩ => h.keep (by show w.heap.size ≠ w.heap.size + 1; omega) F1.out))⟩
      have cb : ∀ d, (E d).cell? ⟨w.heap.size, 1, none⟩ = some (.int .i64 c.B) := fun d => cell_of_row _ _ 1 _ _ _ (HM.out d)
      refine wp_region_ph2 4 8 (DN wr.drew ⟨w.heap.size + 1, 1 + k, none⟩ ⟨cut1 c.B, 0, false⟩) (by kernel_rfl) (by kernel_rfl) (by kernel_rfl) (by kernel_rfl) rfl ?_
      iterate 4 (refine ph_val HE.out (by kernel_rfl) (by kernel_rfl) (by kernel_rfl) (by kernel_rfl) ?_; intro K hK; go_big_quiet_op; go_big_quiet_on)
      refine ph_wa 2 (.pointer (some ⟨wr.heap.size, 0, none⟩)) (by kernel_rfl) (by kernel_rfl) (by kernel_rfl) (by kernel_rfl) (by kernel_rfl) (fun w' hw' => ?_) ?_
      · obtain rfl : w' = wr.drew := hw'
        exact phAt_call Try.func38 (by kernel_rfl) (by kernel_rfl) #[.int .i64 c.B] (by kernel_rfl) ((newC c.B wr.drew).mono fun e w' h => ⟨h.1, h.2⟩)
      simp only [Act.put, List.setIfInBounds_toArray, List.set_cons_succ, List.set_cons_zero]
      refine ph_nil (.tmp 12) ⟨w.heap.size + 1, 0, none⟩ rfl (by kernel_rfl) (by kernel_rfl) (by kernel_rfl) (by kernel_rfl) ?_
      simp only [Act.put, List.setIfInBounds_toArray, List.set_cons_succ, List.set_cons_zero]
      iterate 2 (refine ph_val HE.out (by kernel_rfl) (by kernel_rfl) (by kernel_rfl) (by kernel_rfl) ?_; intro K hK; go_big_quiet_op; go_big_quiet_on)
      refine ph_wb 2 undef (by kernel_rfl) (by kernel_rfl) (by kernel_rfl) (by kernel_rfl) (by kernel_rfl) (fun w' hw' => ?_) ?_
      · have hw2 : Fl w' wr.heap.size ⟨cut1 c.B, 0, false⟩ ∧ Below wr.heap.size wr.drew w' := hw'
        have hr := (hw2.2.block _ hBl).trans F2.out
        have hc : w'.cell? ⟨w.heap.size + 1, 1 + k, none⟩ = some (ptK P k k) := (cell_of_row w' _ _ _ _ _ hr).trans (by
          obtain rfl | rfl | rfl : k = 0 ∨ k = 1 ∨ k = 2 := by omega
          all_goals rfl)
        have hf : w'.frozen? ⟨w.heap.size + 1, 1 + k, none⟩ = false := by simp [World.frozen?, hr]
        exact phAt_store rfl ⟨w.heap.size + 1, 1 + k, none⟩ (.pointer (some ⟨wr.heap.size, 0, none⟩)) (by kernel_rfl) (by kernel_rfl) (by go_simp) ⟨w', hw2, rfl⟩
      simp only [Act.put]
      refine ph_end ?_
      intro w' hw'
      obtain ⟨w1, ⟨hF, hb⟩, rfl⟩ : ∃ w1, (Fl w1 wr.heap.size ⟨cut1 c.B, 0, false⟩ ∧ Below wr.heap.size wr.drew w1) ∧ w' = w1.setCell ⟨w.heap.size + 1, 1 + k, none⟩ (.pointer (some ⟨wr.heap.size, 0, none⟩)) := hw'
      clear cb HE HM
      have HF := Lib.hid hF
      have HB := Lib.hid hb
      clear hF hb
      go_wp2_with fail
      go_roundw
      case rel =>
        have hr := (HB.out.block _ hBl).trans F2.out
        refine ⟨k + 1, fun i => if i = k then wr.heap.size else P i, by omega, by go_num, ?_, ?_, ?_, ?_, ?_⟩
        · exact (heap_setCell_other _ ⟨_, _, _⟩ _ _ (show w.heap.size ≠ w.heap.size + 1 by omega)).trans ((HB.out.block _ (by have : w.heap.size + 1 < wr.drew.heap.size := hBl; omega)).trans F1.out)
        · obtain rfl | rfl | rfl : k = 0 ∨ k = 1 ∨ k = 2 := by omega
          all_goals simp [World.setCell, Array.getElem?_modify, hr, arrK, ptK]
        · exact ((F3.out.drew).trans (HB.out.mono F3.out.size)).setCell (p := ⟨w.heap.size + 1, 1 + k, none⟩) (show w.heap.size ≤ w.heap.size + 1 by omega) _
        · intro i hi
          by_cases hik : i = k
          · subst hik
            simp only [if_true]
            exact ⟨(heap_setCell_other _ ⟨_, _, _⟩ _ _ (show wr.heap.size ≠ w.heap.size + 1 by omega)).trans HF.out, hBl⟩
          · simp only [if_neg hik]
            have q := hf.out i (by omega)
            exact ⟨(heap_setCell_other _ ⟨_, _, _⟩ _ _ (show P i ≠ w.heap.size + 1 by omega)).trans ((HB.out.block _ q.1.lt).trans q.1), q.2⟩
        · intro i j hi hj hij
          simp only at hij
          by_cases hik : i = k
          · by_cases hjk : j = k
            · omega
            · rw [if_pos hik, if_neg hjk] at hij
              have := (hf.out j (by omega)).1.lt
              omega
          · by_cases hjk : j = k
            · rw [if_neg hik, if_pos hjk] at hij
              have := (hf.out i (by omega)).1.lt
              omega
            · rw [if_neg hik, if_neg hjk] at hij
              exact hinj.out i j (by omega) (by omega) hij
      case measure => simp [intOf]; omega
    · obtain rfl : k = 3 := by omega
      go_wp2_with fail
      go_ret
      refine ⟨w.heap.size + 1, P, rfl, ⟨F2.out, fun i hi => (hf.out i hi).1⟩, ⟨fun i hi => by have := (hf.out i hi).2; omega, fun i j hi hj h => hinj.out i j hi hj h⟩, ⟨by omega, fun i hi => by have := (hf.out i hi).2; omega⟩, F3.out⟩
/-- What one bus's leak does. -/
def LS.one (s : LS) (i : Nat) (v : Int) (f : Bool) : LS := if f = true then ⟨s.trip, updK s.k i ((s.k i).step (decide (s.trip < v))), updL s.l i (s.l i || ((s.k i).step (decide (s.trip < v))).s)⟩ else s
def LS.upto (s : LS) (v : Nat → Int) (f : Nat → Bool) : Nat → LS
  | 0 => s
  | n + 1 => (s.upto v f n).one n (v n) (f n)
def leaksA (v : Nat → Int) (f : Nat → Bool) : Array Value := #[.int .i64 (v 0), .bool (f 0), .int .i64 (v 1), .bool (f 1), .int .i64 (v 2), .bool (f 2)]
theorem one_trip (s : LS) (i : Nat) (v : Int) (f : Bool) : (s.one i v f).trip = s.trip := by unfold LS.one; split <;> rfl
theorem upto_trip (s : LS) (v : Nat → Int) (f : Nat → Bool) : ∀ n, (s.upto v f n).trip = s.trip
  | 0 => rfl
  | n + 1 => (one_trip _ _ _ _).trans (upto_trip s v f n)
theorem upto_k (s : LS) (v : Nat → Int) (f : Nat → Bool) : ∀ n i, n ≤ i → (s.upto v f n).k i = s.k i
  | 0, _, _ => rfl
  | n + 1, i, h => by
    refine Eq.trans ?_ (upto_k s v f n i (by omega))
    show ((s.upto v f n).one n (v n) (f n)).k i = _
    unfold LS.one updK
    split
    · show (if i = n then _ else _) = _
      rw [if_neg (by omega)]
    · rfl
theorem three_row {w : World} {b : Nat} {t : TypeId} (h : w.heap[b]? = some (.cells #[.bool false, .bool false, .bool false] t (0, 0))) (x y z : Bool) :
    (((w.setCell ⟨b, 0, none⟩ (.bool x)).setCell ⟨b, 1, none⟩ (.bool y)).setCell ⟨b, 2, none⟩ (.bool z)).heap[b]? = some (.cells #[.bool x, .bool y, .bool z] t (0, 0)) := by
  simp [World.setCell, Array.getElem?_modify, h]
theorem three_other {w : World} {b k : Nat} (x y z : Value) (h : k ≠ b) : (((w.setCell ⟨b, 0, none⟩ x).setCell ⟨b, 1, none⟩ y).setCell ⟨b, 2, none⟩ z).heap[k]? = w.heap[k]? :=
  ((heap_setCell_other _ ⟨_, _, _⟩ _ _ h).trans (heap_setCell_other _ ⟨_, _, _⟩ _ _ h)).trans (heap_setCell_other _ ⟨_, _, _⟩ _ _ h)
theorem Loc.other {w w' : World} {B : Nat} {P : Nat → Nat} {s : LS} (h : Loc w B P s) (hk : ∀ k, (k = B ∨ ∃ i, i < 3 ∧ k = P i) → w'.heap[k]? = w.heap[k]?) : Loc w' B P s :=
  ⟨(hk B (.inl rfl)).trans h.row, fun i hi => (hk (P i) (.inr ⟨i, hi, rfl⟩)).trans (h.fl i hi)⟩
theorem Only4.setNew {B U V X b : Nat} {w w' : World} (h : Only4 B U V X w w') (hb : w.heap.size ≤ b) (o : Nat) (x : Value) : Only4 B U V X w (w'.setCell ⟨b, o, none⟩ x) :=
  ⟨h.os, h.tape, h.output, by simpa using h.size, fun k hk h1 h2 h3 h4 => (heap_setCell_other _ ⟨_, _, _⟩ _ _ (show k ≠ b by omega)).trans (h.block k hk h1 h2 h3 h4)⟩
def LOk (s : LS) : Prop := ∀ i, i < 3 → 0 ≤ (s.k i).c ∧ (s.k i).c ≤ 1000000
set_option maxHeartbeats 8000000 in
theorem locStep (B : Nat) (P : Nat → Nat) (s : LS) (v : Nat → Int) (f : Nat → Bool) (hA : LAp B P) (hO : LOk s) (w : World) (h : Loc w B P s) :
    Calls Try.prog 22 #[.pointer (some ⟨B, 0, none⟩), .agg (leaksA v f)] w fun e w' => e = .returned (s.upto v f 3).out ∧ Loc w' B P (s.upto v f 3) ∧ OnlyL B P w w' := by
  have NA := Lib.hid hA
  have NO := Lib.hid hO
  obtain ⟨lB, lP'⟩ := h.lt
  have lP := Lib.hid lP'
  clear lP'
  go_enter Try.func22, Try.ntmps22
  go_upto_region 1 with fail
  generalize hW : World.alloc (World.alloc w _) _ = W0
  obtain ⟨G1, G2, G3, G4⟩ : Hid (W0.heap[w.heap.size]? = some (.cells (leaksA v f) 45 (0, 0))) ∧ Hid (W0.heap[w.heap.size + 1]? = some (.cells #[.bool false, .bool false, .bool false] 43 (0, 0))) ∧ Hid (Loc W0 B P s) ∧ Hid (OnlyL B P w W0) := by
    rw [← hW]
    have b2 := boxes2 (w := w) (A := leaksA v f) (B := #[.bool false, .bool false, .bool false]) (s := 45) (t := 43) (Below.refl _ _)
    exact ⟨Lib.hid b2.1, Lib.hid b2.2.1, Lib.hid (h.below b2.2.2.1), Lib.hid (Only4.of_below b2.2.2.1)⟩
  have hsz : w.heap.size + 2 ≤ W0.heap.size := by rw [← hW]; simp
  clear hW h hA hO
  go_wp2_with (refine wpList_load_row rfl 45 _ rfl w.heap.size rfl 45 _ (0, 0) _ G1.out Try.underlying45 rfl (by kernel_rfl) ?_)
  go_loopw [8] (fun i wr => ∃ k : Nat, k ≤ 3 ∧ i = .int .i64 k ∧ Loc wr B P (s.upto v f k) ∧ OnlyL B P w wr ∧ wr.heap[w.heap.size + 1]? = some (.cells #[.bool false, .bool false, .bool false] 43 (0, 0))) (fun i _ => 3 - (intOf i).toNat)
  case atStart => exact ⟨0, by omega, rfl, G3.out, G4.out, G2.out⟩
  case round =>
    obtain ⟨k, hk, rfl, hl, ho, hr⟩ := hrel
    have F1 := Lib.hid hl
    have F2 := Lib.hid ho
    have F3 := Lib.hid hr
    clear hl ho hr G1 G2 G3 G4
    unfold leaksA
    by_cases hlt : k < 3
    · have hx : ∀ w : World, (Instr.index 45 (.agg #[.int .i64 (v 0), .bool (f 0), .int .i64 (v 1), .bool (f 1), .int .i64 (v 2), .bool (f 2)]) (.int .i64 k)).run Try.prog w = .ok (.agg #[.int .i64 (v k), .bool (f k)]) w := by
        intro w
        obtain rfl | rfl | rfl : k = 0 ∨ k = 1 ∨ k = 2 := by omega
        all_goals kernel_rfl
      have HS := Lib.hid (show s.upto v f (k + 1) = (s.upto v f k).one k (v k) (f k) from rfl)
      have hOk := Lib.hid (show 0 ≤ ((s.upto v f k).k k).c ∧ ((s.upto v f k).k k).c ≤ 1000000 by rw [upto_k s v f k k (Nat.le_refl _)]; exact NO.out k hlt)
      obtain ⟨s1, hs1⟩ : ∃ s1, s.upto v f k = s1 := ⟨_, rfl⟩
      rw [hs1] at F1 HS hOk
      clear hs1
      obtain ⟨z, hz⟩ : ∃ z, v k = z := ⟨_, rfl⟩
      obtain ⟨q, hq⟩ : ∃ q, f k = q := ⟨_, rfl⟩
      rw [hz, hq] at hx HS
      clear hz hq
      go_upto_region 4 with fail
      generalize hW : World.alloc wr _ = W4
      obtain ⟨G0, G1, G2, G3⟩ : Hid (W4.heap[wr.heap.size]? = some (.cells #[.int .i64 z, .bool q] 32 (0, 0))) ∧ Hid (Loc W4 B P s1) ∧ Hid (OnlyL B P w W4) ∧ Hid (W4.heap[w.heap.size + 1]? = some (.cells #[.bool false, .bool false, .bool false] 43 (0, 0))) := by
        rw [← hW]
        have al := (Below.refl wr.heap.size wr).alloc (Nat.le_refl _) (.cells #[.int .i64 z, .bool q] 32)
        exact ⟨Lib.hid (heap_alloc_new _ _), Lib.hid (F1.out.below al), Lib.hid (F2.out.trans (Only4.of_below al)), Lib.hid ((al.block _ (Array.getElem?_eq_some_iff.1 F3.out).1).trans F3.out)⟩
      clear hW F1 F2 F3 hx
      have hz4 := (Array.getElem?_eq_some_iff.1 G0.out).1
      have lB4 := G1.out.lt.1
      generalize wr.heap.size = Z at *
      have x0 := fun d => reach_cell (B := W4.heap.size) (show W4.cell? ⟨Z, 0, none⟩ = some (.int .i64 z) from cell_of_row _ _ 0 _ _ _ G0.out) hz4 d
      have x1 := fun d => reach_cell (B := W4.heap.size) (show W4.cell? ⟨Z, 1, none⟩ = some (.bool q) from cell_of_row _ _ 1 _ _ _ G0.out) hz4 d
      have y0 := fun d => reach_cell (B := W4.heap.size) G1.out.cells.1 lB4 d
      have y1 := fun d => reach_cell (B := W4.heap.size) (G1.out.cells.2.1 k hlt) lB4 d
      have END := Lib.hid fun (d : World) => (show Loc (reach W4.heap.size W4 d) B P s1 ∧ OnlyL B P w (reach W4.heap.size W4 d) ∧ (reach W4.heap.size W4 d).heap[w.heap.size + 1]? = some (.cells #[.bool false, .bool false, .bool false] 43 (0, 0)) from
        ⟨G1.out.below (reach_below _ _ d), G2.out.trans (Only4.of_below (reach_below _ _ d)), ((reach_below _ _ d).block _ (Array.getElem?_eq_some_iff.1 G3.out).1).trans G3.out⟩)
      clear G0 G1 G2 G3
      refine wp_region_tailR W4.heap.size 16 (by kernel_rfl) (by kernel_rfl) ?_
      simp only [List.take_succ_cons, List.take_zero, List.drop_succ_cons, List.drop_zero]
      cases q
      · repeat (go_big_quiet_step (fail))
        refine wpQuiet_nil ?_
        rintro w' ⟨d, rfl⟩
        clear x0 x1 y0 y1
        go_wp2_with fail
        go_roundw
        case rel => exact ⟨k + 1, by omega, by go_num, by rw [HS.out]; exact (END.out d).1, (END.out d).2.1, (END.out d).2.2⟩
        case measure => simp [intOf]; omega
      · repeat (go_big_quiet_step (fail))
        refine wpQuiet_nil ?_
        rintro w' ⟨d, rfl⟩
        obtain ⟨E1, E2, E3⟩ := END.out d
        have F1 := Lib.hid E1
        have F2 := Lib.hid E2
        have F3 := Lib.hid E3
        clear x0 x1 y0 y1 E1 E2 E3 END
        go_wp2_with fail
        refine (stepC (P k) (s1.k k) (decide (s1.trip < z)) hOk.out.1 hOk.out.2 _ (F1.out.fl k hlt)).mono ?_
        rintro e w5 ⟨rfl, hF, hO⟩
        have H1 := Lib.hid (F1.out.onP NA.out k hlt hO _ hF)
        have H2 := Lib.hid (F2.out.trans (onlyP (B := B) (P := P) k hlt hO))
        have H3 := Lib.hid (hO.row F3.out (by have := lP.out k hlt; omega))
        clear hF hO F1 F2 F3
        have HS' := Lib.hid (show s1.one k z true = ⟨s1.trip, updK s1.k k ((s1.k k).step (decide (s1.trip < z))), updL s1.l k (s1.l k || ((s1.k k).step (decide (s1.trip < z))).s)⟩ from rfl)
        obtain ⟨nf, hnf⟩ : ∃ nf, (s1.k k).step (decide (s1.trip < z)) = nf := ⟨_, rfl⟩
        rw [hnf] at HS' H1
        rw [hnf]
        clear hnf
        obtain ⟨b, hb⟩ : ∃ b, nf.s = b := ⟨_, rfl⟩
        rw [hb] at HS'
        rw [hb]
        clear hb
        cases b
        · rw [Bool.or_false, show updL s1.l k (s1.l k) = s1.l by funext j; unfold updL; split <;> simp_all] at HS'
          go_wp2_with fail
          go_roundw
          case rel => exact ⟨k + 1, by omega, by go_num, by rw [HS.out, HS'.out]; exact H1.out, H2.out, H3.out⟩
          case measure => simp [intOf]; omega
        · rw [Bool.or_true] at HS'
          have y4 := H1.out.cells.2.2.1 k hlt
          have yf := H1.out.cells.2.2.2
          have lB5 := H1.out.lt.1
          go_wp2_with fail
          go_roundw
          case rel => exact ⟨k + 1, by omega, by go_num, by rw [HS.out, HS'.out]; exact H1.out.lock NA.out k hlt true, H2.out.trans (Only4.ofB (Only.set B _ _ _)), (heap_setCell_other _ ⟨_, _, _⟩ _ _ (by show w.heap.size + 1 ≠ B; omega)).trans H3.out⟩
          case measure => simp [intOf]; omega
    · obtain rfl : k = 3 := by omega
      have q4 := F1.out.cells.2.2.1 0 (by omega)
      have q5 := F1.out.cells.2.2.1 1 (by omega)
      have q6 := F1.out.cells.2.2.1 2 (by omega)
      have r0 : wr.cell? ⟨w.heap.size + 1, 0, none⟩ = some (.bool false) := cell_of_row _ _ 0 _ _ _ F3.out
      have r1 : wr.cell? ⟨w.heap.size + 1, 1, none⟩ = some (.bool false) := cell_of_row _ _ 1 _ _ _ F3.out
      have r2 : wr.cell? ⟨w.heap.size + 1, 2, none⟩ = some (.bool false) := cell_of_row _ _ 2 _ _ _ F3.out
      have rf : ∀ j, wr.frozen? ⟨w.heap.size + 1, j, none⟩ = false := fun j => by have := F3.out; simp [World.frozen?, this]
      have rn : B ≠ w.heap.size + 1 := by omega
      go_wp2_with fail
      have hrow := three_row F3.out ((s.upto v f 3).l 0) ((s.upto v f 3).l 1) ((s.upto v f 3).l 2)
      refine bodyPost_ret (v := (s.upto v f 3).out) (results_cell_row Try.results22 _ _ (w.heap.size + 1) 43 _ (0, 0) _ rfl hrow Try.underlying43 rfl (by kernel_rfl)) rfl ?_
      refine ⟨rfl, F1.out.other fun k hk => three_other _ _ _ ?_, ((F2.out.setNew (by omega) _ _).setNew (by omega) _ _).setNew (by omega) _ _⟩
      rcases hk with rfl | ⟨i, hi, rfl⟩
      · exact rn
      · have := lP.out i hi
        omega
end Go.Proofs.Ytcphpaacgkfkbaa
