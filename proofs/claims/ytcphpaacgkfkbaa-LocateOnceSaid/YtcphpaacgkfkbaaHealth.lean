/- What a source's health does, by plain definitions; its four blocks alone change. Conditions: the filters' counts are small. -/
import Derived.Test.YtcphpaacgkfkbaaFil
import Derived.Test.YtcphpaacgkfkbaaBase
import Derived.Test.YtcphpaacgkfkbaaCame
import Derived.Test.YtcphpaacgkfkbaaCfg
import Derived.Deep.RegionHeld3
import Derived.Deep.RegionWith
import Derived.Deep.DeepCutAuto
namespace Go.Proofs.Ytcphpaacgkfkbaa
open Go.RowKit
set_option linter.unusedVariables false
structure HS where
  vmin : Int
  trip : Int
  up : FK
  over : FK
  sick : FK
  failed : Bool
  may : Bool
def HS.usable (s : HS) : Bool := s.up.s && !s.sick.s && !s.failed && s.may
structure Src (w : World) (B U V X : Nat) (s : HS) : Prop where
  row : w.heap[B]? = some (.cells #[.int .i64 s.vmin, .int .i64 s.trip, .pointer (some ⟨U, 0, none⟩), .pointer (some ⟨V, 0, none⟩), .pointer (some ⟨X, 0, none⟩), .bool s.failed, .bool s.may] 75 (0, 0))
  up : Fl w U s.up
  over : Fl w V s.over
  sick : Fl w X s.sick
theorem Src.cells {w : World} {B U V X : Nat} {s : HS} (h : Src w B U V X s) :
    w.cell? ⟨B, 0, none⟩ = some (.int .i64 s.vmin) ∧ w.cell? ⟨B, 1, none⟩ = some (.int .i64 s.trip) ∧ w.cell? ⟨B, 2, none⟩ = some (.pointer (some ⟨U, 0, none⟩)) ∧ w.cell? ⟨B, 3, none⟩ = some (.pointer (some ⟨V, 0, none⟩)) ∧ w.cell? ⟨B, 4, none⟩ = some (.pointer (some ⟨X, 0, none⟩)) ∧ w.cell? ⟨B, 5, none⟩ = some (.bool s.failed) ∧ w.cell? ⟨B, 6, none⟩ = some (.bool s.may) ∧ ∀ j, w.frozen? ⟨B, j, none⟩ = false := by
  have r := h.row
  refine ⟨?_, ?_, ?_, ?_, ?_, ?_, ?_, fun j => ?_⟩ <;> simp [World.cell?, World.frozen?, r]
theorem Src.below {w w' : World} {B U V X : Nat} {s : HS} (h : Src w B U V X s) (hb : Below w.heap.size w w') : Src w' B U V X s :=
  ⟨(hb.block B (Array.getElem?_eq_some_iff.1 h.row).1).trans h.row, h.up.below hb, h.over.below hb, h.sick.below hb⟩
theorem usableC (B U V X : Nat) (s : HS) (w : World) (h : Src w B U V X s) :
    Calls Try.prog 16 #[.pointer (some ⟨B, 0, none⟩)] w fun e w' => e = .returned (.bool s.usable) ∧ w = w' := by
  have H := Lib.hid h
  obtain ⟨c0, c1, c2, c3, c4, c5, c6, cf⟩ := h.cells
  clear h
  have K1 := Lib.hid fun (w : World) h => stateC U s.up w h
  have K2 := Lib.hid fun (w : World) h => stateC X s.sick w h
  obtain ⟨a, ha⟩ : ∃ a, s.up.s = a := ⟨_, rfl⟩
  obtain ⟨b, hb⟩ : ∃ b, s.sick.s = b := ⟨_, rfl⟩
  obtain ⟨f, hf⟩ : ∃ f, s.failed = f := ⟨_, rfl⟩
  obtain ⟨m, hm⟩ : ∃ m, s.may = m := ⟨_, rfl⟩
  unfold HS.usable
  rw [ha, hb, hf, hm]
  rw [ha] at K1
  rw [hb] at K2
  rw [hf] at c5
  rw [hm] at c6
  clear ha hb hf hm
  cases a
  · go_enter Try.func16, Try.ntmps16
    go_wp2_with fail
    refine (K1.out _ H.out.up).mono ?_
    rintro e w' ⟨rfl, rfl⟩
    go_wp2_with fail
    go_ret
    exact ⟨rfl, rfl⟩
  · cases b <;> cases f <;> cases m
    all_goals
      go_enter Try.func16, Try.ntmps16
      go_wp2_with fail
      refine (K1.out _ H.out.up).mono ?_
      rintro e w' ⟨rfl, rfl⟩
      go_wp2_with fail
      refine (K2.out _ H.out.sick).mono ?_
      rintro e w' ⟨rfl, rfl⟩
      go_wp2_with fail
      go_ret
      exact ⟨rfl, rfl⟩
theorem failedC (B U V X : Nat) (s : HS) (w : World) (h : Src w B U V X s) :
    Calls Try.prog 18 #[.pointer (some ⟨B, 0, none⟩)] w fun e w' => e = .returned (.bool s.failed) ∧ w = w' := by
  obtain ⟨c0, c1, c2, c3, c4, c5, c6, cf⟩ := h.cells
  clear h
  go_enter Try.func18, Try.ntmps18
  go_wp2_with fail
  go_ret
  exact ⟨rfl, rfl⟩
theorem Src.setB {w : World} {B U V X : Nat} {s : HS} (h : Src w B U V X s) (hU : U ≠ B) (hV : V ≠ B) (hX : X ≠ B) (f : Bool) : Src (w.setCell ⟨B, 5, none⟩ (.bool f)) B U V X { s with failed := f } := by
  have r := h.row
  exact ⟨by simp [World.setCell, Array.getElem?_modify, r], (heap_setCell_other _ ⟨_, _, _⟩ _ _ hU).trans h.up, (heap_setCell_other _ ⟨_, _, _⟩ _ _ hV).trans h.over, (heap_setCell_other _ ⟨_, _, _⟩ _ _ hX).trans h.sick⟩
theorem Src.setM {w : World} {B U V X : Nat} {s : HS} (h : Src w B U V X s) (hU : U ≠ B) (hV : V ≠ B) (hX : X ≠ B) (f : Bool) : Src (w.setCell ⟨B, 6, none⟩ (.bool f)) B U V X { s with may := f } := by
  have r := h.row
  exact ⟨by simp [World.setCell, Array.getElem?_modify, r], (heap_setCell_other _ ⟨_, _, _⟩ _ _ hU).trans h.up, (heap_setCell_other _ ⟨_, _, _⟩ _ _ hV).trans h.over, (heap_setCell_other _ ⟨_, _, _⟩ _ _ hX).trans h.sick⟩
theorem failC (B U V X : Nat) (s : HS) (hU : U ≠ B) (hV : V ≠ B) (hX : X ≠ B) (w : World) (h : Src w B U V X s) :
    Calls Try.prog 19 #[.pointer (some ⟨B, 0, none⟩)] w fun e w' => e = .returned (.tuple #[]) ∧ Src w' B U V X { s with failed := true } ∧ Only B w w' := by
  have H := Lib.hid h
  obtain ⟨c0, c1, c2, c3, c4, c5, c6, cf⟩ := h.cells
  clear h
  go_enter Try.func19, Try.ntmps19
  go_wp2_with fail
  go_end0
  exact ⟨rfl, H.out.setB hU hV hX true, Only.set B _ _ _⟩
/-- Filters that were made since w: at each of these blocks one. -/
def Made (W w : World) (n : Int) (l : List Nat) : Prop := Below W.heap.size W w ∧ (∀ x ∈ l, W.heap.size ≤ x ∧ Fl w x ⟨cut1 n, 0, false⟩) ∧ l.Nodup
theorem Made.next {W w w' : World} {n : Int} {l : List Nat} (h : Made W w n l) (hF : Fl w' w.heap.size ⟨cut1 n, 0, false⟩) (hb : Below w.heap.size w w') : Made W w' n (w.heap.size :: l) := by
  refine ⟨h.1.trans (hb.mono h.1.size), fun x hx => ?_, List.nodup_cons.2 ⟨fun hx => ?_, h.2.2⟩⟩
  · rcases List.mem_cons.1 hx with rfl | hx
    · exact ⟨h.1.size, hF⟩
    · exact ⟨(h.2.1 x hx).1, (h.2.1 x hx).2.below hb⟩
  · exact Nat.lt_irrefl _ (h.2.1 _ hx).2.lt
theorem keep3 {w w' : World} {a b c : Addr} {x y z : Value} (h : w.cell? a = some x ∧ w.cell? b = some y ∧ w.cell? c = some z) (hb : Below w.heap.size w w') : w'.cell? a = some x ∧ w'.cell? b = some y ∧ w'.cell? c = some z :=
  ⟨below_cell hb h.1, below_cell hb h.2.1, below_cell hb h.2.2⟩
def newS (c : CF) : HS := ⟨10000, 20000, ⟨cut1 c.B, 0, false⟩, ⟨cut1 c.B, 0, false⟩, ⟨cut1 c.B, 0, false⟩, false, false⟩
theorem newFin {W0 w3 : World} {c : CF} {U V X : Nat} (M : Made W0 w3 c.B [X, V, U]) :
    Src (w3.alloc (.cells #[.int .i64 10000, .int .i64 20000, .pointer (some ⟨U, 0, none⟩), .pointer (some ⟨V, 0, none⟩), .pointer (some ⟨X, 0, none⟩), .bool false, .bool false] 75)) w3.heap.size U V X (newS c) ∧
    (U ≠ w3.heap.size ∧ V ≠ w3.heap.size ∧ X ≠ w3.heap.size ∧ U ≠ V ∧ U ≠ X ∧ V ≠ X) ∧ (W0.heap.size ≤ U ∧ W0.heap.size ≤ V ∧ W0.heap.size ≤ X ∧ W0.heap.size ≤ w3.heap.size) ∧
    Below W0.heap.size W0 (w3.alloc (.cells #[.int .i64 10000, .int .i64 20000, .pointer (some ⟨U, 0, none⟩), .pointer (some ⟨V, 0, none⟩), .pointer (some ⟨X, 0, none⟩), .bool false, .bool false] 75)) := by
  obtain ⟨hb, hm, hn⟩ := M
  have b9 := (Below.refl w3.heap.size w3).alloc (Nat.le_refl _) (.cells #[.int .i64 10000, .int .i64 20000, .pointer (some ⟨U, 0, none⟩), .pointer (some ⟨V, 0, none⟩), .pointer (some ⟨X, 0, none⟩), .bool false, .bool false] 75)
  have mX := hm X (by simp)
  have mV := hm V (by simp)
  have mU := hm U (by simp)
  simp only [List.nodup_cons, List.mem_cons, List.not_mem_nil, or_false, not_or, List.nodup_nil, and_true] at hn
  refine ⟨⟨heap_alloc_new _ _, mU.2.below b9, mV.2.below b9, mX.2.below b9⟩, ⟨Nat.ne_of_lt mU.2.lt, Nat.ne_of_lt mV.2.lt, Nat.ne_of_lt mX.2.lt, fun h => hn.2.1 h.symm, fun h => hn.1.2 h.symm, fun h => hn.1.1 h.symm⟩, ⟨mU.1, mV.1, mX.1, hb.size⟩, hb.trans (b9.mono hb.size)⟩
set_option maxHeartbeats 4000000 in
theorem healthNew (c : CF) (oc fe : Value) (w : World) :
    Calls Try.prog 15 #[.agg (cfgA c oc fe)] w fun e w' => ∃ B U V X, e = .returned (.pointer (some ⟨B, 0, none⟩)) ∧ Src w' B U V X (newS c) ∧ (U ≠ B ∧ V ≠ B ∧ X ≠ B ∧ U ≠ V ∧ U ≠ X ∧ V ≠ X) ∧ (w.heap.size ≤ U ∧ w.heap.size ≤ V ∧ w.heap.size ≤ X ∧ w.heap.size ≤ B) ∧ Below w.heap.size w w' := by
  go_enter Try.func15, Try.ntmps15
  go_upto_region 1 with fail
  generalize hW : World.alloc w _ = W0
  obtain ⟨hrow, hb0, hs0⟩ : W0.heap[w.heap.size]? = some (.cells (cfgA c oc fe) 26 (0, 0)) ∧ Below w.heap.size w W0 ∧ w.heap.size ≤ W0.heap.size := by
    rw [← hW]
    exact ⟨heap_alloc_new _ _, (Below.refl _ _).alloc (Nat.le_refl _) _, by simp⟩
  clear hW
  have c9 : W0.cell? ⟨w.heap.size, 9, none⟩ = some (.int .i64 10000) := cell_of_row W0 _ 9 _ _ _ hrow
  have c8 : W0.cell? ⟨w.heap.size, 8, none⟩ = some (.int .i64 20000) := cell_of_row W0 _ 8 _ _ _ hrow
  have c1 : W0.cell? ⟨w.heap.size, 1, none⟩ = some (.int .i64 c.B) := cell_of_row W0 _ 1 _ _ _ hrow
  have M0 : Made W0 W0.drew c.B [] := ⟨(Below.refl _ _).drew, fun x hx => by simp at hx, List.nodup_nil⟩
  have KN := Lib.hid fun (w : World) => newC c.B w
  have S0 : W0.drew.cell? ⟨w.heap.size, 9, none⟩ = some (.int .i64 10000) ∧ W0.drew.cell? ⟨w.heap.size, 8, none⟩ = some (.int .i64 20000) ∧ W0.drew.cell? ⟨w.heap.size, 1, none⟩ = some (.int .i64 c.B) := ⟨c9, c8, c1⟩
  clear c9 c8 c1 hrow
  go_region_held3 (fun w' => w'.cell? ⟨w.heap.size, 9, none⟩ = some (.int .i64 10000) ∧ w'.cell? ⟨w.heap.size, 8, none⟩ = some (.int .i64 20000) ∧ w'.cell? ⟨w.heap.size, 1, none⟩ = some (.int .i64 c.B)) (first | assumption | exact ⟨cell_alloc (by assumption : _ ∧ _ ∧ _).1 _, cell_alloc (by assumption : _ ∧ _ ∧ _).2.1 _, cell_alloc (by assumption : _ ∧ _ ∧ _).2.2 _⟩)
    (first
      | ((with_reducible refine (KN.out _).mono ?_); rintro e w' ⟨rfl, hF, hb⟩; have M := Made.next (by assumption) hF hb; have S1 := keep3 (by assumption) hb; clear hF hb; dsimp only))
  all_goals
    go_wp2_with fail
    go_ret
    obtain ⟨h1, h2, h3, h4⟩ := newFin M
    exact ⟨_, _, _, _, rfl, h1, h2, ⟨Nat.le_trans hs0 h3.1, Nat.le_trans hs0 h3.2.1, Nat.le_trans hs0 h3.2.2.1, Nat.le_trans hs0 h3.2.2.2⟩, hb0.trans (h4.mono hs0)⟩
structure Only4 (B U V X : Nat) (w w' : World) : Prop where
  os : w'.os = w.os
  tape : w'.tape = w.tape
  output : w'.output = w.output
  size : w.heap.size ≤ w'.heap.size
  block : ∀ k, k < w.heap.size → k ≠ B → k ≠ U → k ≠ V → k ≠ X → w'.heap[k]? = w.heap[k]?
theorem Only4.trans {B U V X : Nat} {a b c : World} (h : Only4 B U V X a b) (g : Only4 B U V X b c) : Only4 B U V X a c :=
  ⟨g.os.trans h.os, g.tape.trans h.tape, g.output.trans h.output, Nat.le_trans h.size g.size, fun k hk h1 h2 h3 h4 => (g.block k (Nat.lt_of_lt_of_le hk h.size) h1 h2 h3 h4).trans (h.block k hk h1 h2 h3 h4)⟩
theorem Only4.of_below {B U V X : Nat} {w w' : World} (h : Below w.heap.size w w') : Only4 B U V X w w' := ⟨h.os, h.tape, h.output, h.size, fun k hk _ _ _ _ => h.block k hk⟩
theorem Only4.ofB {B U V X : Nat} {w w' : World} (h : Only B w w') : Only4 B U V X w w' := ⟨h.os, h.tape, h.output, h.size, fun k hk h1 _ _ _ => h.block k hk h1⟩
theorem Only4.ofU {B U V X : Nat} {w w' : World} (h : Only U w w') : Only4 B U V X w w' := ⟨h.os, h.tape, h.output, h.size, fun k hk _ h1 _ _ => h.block k hk h1⟩
theorem Only4.ofV {B U V X : Nat} {w w' : World} (h : Only V w w') : Only4 B U V X w w' := ⟨h.os, h.tape, h.output, h.size, fun k hk _ _ h1 _ => h.block k hk h1⟩
theorem Only4.ofX {B U V X : Nat} {w w' : World} (h : Only X w w') : Only4 B U V X w w' := ⟨h.os, h.tape, h.output, h.size, fun k hk _ _ _ h1 => h.block k hk h1⟩
theorem Only4.below {B U V X b : Nat} {w w' : World} (h : Only4 B U V X w w') (h1 : b ≤ B) (h2 : b ≤ U) (h3 : b ≤ V) (h4 : b ≤ X) (h5 : b ≤ w.heap.size) : Below b w w' :=
  ⟨h.os, h.tape, h.output, h.size, fun k hk => h.block k (Nat.lt_of_lt_of_le hk h5) (by omega) (by omega) (by omega) (by omega)⟩
theorem Only4.row {B U V X : Nat} {w w' : World} (h : Only4 B U V X w w') {b : Nat} {o : Obj} (hc : w.heap[b]? = some o) (h1 : b ≠ B) (h2 : b ≠ U) (h3 : b ≠ V) (h4 : b ≠ X) : w'.heap[b]? = some o := by
  rw [h.block b (Array.getElem?_eq_some_iff.1 hc).1 h1 h2 h3 h4]; exact hc
/-- What a source's blocks are to each other. -/
def Apart (B U V X : Nat) : Prop := U ≠ B ∧ V ≠ B ∧ X ≠ B ∧ U ≠ V ∧ U ≠ X ∧ V ≠ X
theorem Src.onU {w w' : World} {B U V X : Nat} {s : HS} (h : Src w B U V X s) (ha : Apart B U V X) (ho : Only U w w') (k : FK) (hk : Fl w' U k) : Src w' B U V X { s with up := k } :=
  ⟨ho.row h.row ha.1.symm, hk, h.over.only ho ha.2.2.2.1.symm, h.sick.only ho ha.2.2.2.2.1.symm⟩
theorem Src.onV {w w' : World} {B U V X : Nat} {s : HS} (h : Src w B U V X s) (ha : Apart B U V X) (ho : Only V w w') (k : FK) (hk : Fl w' V k) : Src w' B U V X { s with over := k } :=
  ⟨ho.row h.row ha.2.1.symm, h.up.only ho ha.2.2.2.1, hk, h.sick.only ho ha.2.2.2.2.2.symm⟩
theorem Src.onX {w w' : World} {B U V X : Nat} {s : HS} (h : Src w B U V X s) (ha : Apart B U V X) (ho : Only X w w') (k : FK) (hk : Fl w' X k) : Src w' B U V X { s with sick := k } :=
  ⟨ho.row h.row ha.2.2.1.symm, h.up.only ho ha.2.2.2.2.1, h.over.only ho ha.2.2.2.2.2, hk⟩
/-- What a cycle shows. -/
structure HI where
  vv : Int
  vf : Bool
  av : Int
  af : Bool
  flags : Int
  may : Bool
def HI.v (i : HI) : Value := .agg #[.int .i64 i.vv, .bool i.vf, .int .i64 i.av, .bool i.af, .int .i64 i.flags, .bool i.may]
def badB (f : Int) : Bool := bits .and .i64 f 15 != 0
theorem badC (f : Int) (w : World) : Calls Try.prog 41 #[.int .i64 f] w fun e w' => e = .returned (.bool (badB f)) ∧ w = w' := by
  unfold badB
  go_enter Try.func41, Try.ntmps41
  go_wp2_with fail
  go_ret
  exact ⟨rfl, rfl⟩
end Go.Proofs.Ytcphpaacgkfkbaa
