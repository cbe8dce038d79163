/- LocateOnce holds: each call returns true. Conditions: the arguments are numbers of 64 bits and a slice of threes of samples. -/
import Derived.Test.YtcphpaacgkfkbaaLocR
import Derived.Test.YtcphpaacgkfkbaaFlat
namespace Go.Proofs.Ytcphpaacgkfkbaa
open Go.RowKit
set_option linter.unusedVariables false
/-- Two that saw the same, one of which has bus t locked. -/
structure Tw (t : Nat) (n : Int) (a b : LS) : Prop where
  ta : a.trip = 20000
  tb : b.trip = 20000
  k : a.k = b.k
  at_t : a.l t = true
  l : ∀ j, j ≠ t → a.l j = b.l j
  c : ∀ i, 0 ≤ (a.k i).c ∧ (a.k i).c ≤ n
theorem Tw.one {t : Nat} {n : Int} {a b : LS} (h : Tw t n a b) (hn : 0 ≤ n) (i : Nat) (v : Int) (f : Bool) : Tw t (n + 1) (a.one i v f) (b.one i v f) := by
  obtain ⟨ta, ka, la⟩ := a
  obtain ⟨tb, kb, lb⟩ := b
  obtain ⟨h1, h2, h3, h4, h5, h6⟩ := h
  simp only at h1 h2 h3 h4 h5 h6
  subst h1; subst h2; subst h3
  unfold LS.one
  cases f
  · exact ⟨rfl, rfl, rfl, h4, h5, fun i => by have := h6 i; exact ⟨this.1, show (ka i).c ≤ n + 1 by omega⟩⟩
  · refine ⟨rfl, rfl, rfl, ?_, fun j hj => ?_, fun j => ?_⟩
    · simp only [if_true, updL]
      split
      · rename_i hti; subst hti; rw [h4]; rfl
      · exact h4
    · simp only [if_true, updL]
      split
      · rename_i hji; subst hji; rw [h5 _ hj]
      · exact h5 j hj
    · simp only [if_true, updK]
      split
      · exact FK.bounds _ _ _ (h6 i).1 (h6 i).2
      · have := h6 j; exact ⟨this.1, by omega⟩
theorem Tw.upto {t : Nat} {n : Int} {a b : LS} (h : Tw t n a b) (hn : 0 ≤ n) (v : Nat → Int) (f : Nat → Bool) : Tw t (n + 3) (a.upto v f 3) (b.upto v f 3) := by
  have := ((h.one hn 0 (v 0) (f 0)).one (by omega) 1 (v 1) (f 1)).one (by omega) 2 (v 2) (f 2)
  rw [show n + 1 + 1 + 1 = n + 3 by omega] at this
  exact this
theorem Tw.ok {t : Nat} {n : Int} {a b : LS} (h : Tw t n a b) (hn : n ≤ 1000000) : LOk a ∧ LOk b := by
  refine ⟨fun i _ => ⟨(h.c i).1, Int.le_trans (h.c i).2 hn⟩, fun i _ => ?_⟩
  rw [← h.k]
  exact ⟨(h.c i).1, Int.le_trans (h.c i).2 hn⟩
/-- Two that lie apart. -/
structure LT (B : Nat) (P : Nat → Nat) (C : Nat) (Q : Nat → Nat) (w wr : World) (a b : LS) : Prop where
  one : Loc wr B P a
  two : Loc wr C Q b
  ap1 : LAp B P
  ap2 : LAp C Q
  apart : ∀ x y, (x = B ∨ ∃ i, i < 3 ∧ x = P i) → (y = C ∨ ∃ i, i < 3 ∧ y = Q i) → x ≠ y
  low1 : w.heap.size ≤ B ∧ ∀ i, i < 3 → w.heap.size ≤ P i
  low2 : w.heap.size ≤ C ∧ ∀ i, i < 3 → w.heap.size ≤ Q i
  below : Below w.heap.size w wr
theorem OnlyL.other {B : Nat} {P : Nat → Nat} {w w' : World} (h : OnlyL B P w w') (k : Nat) (hk : k < w.heap.size) (hn : ∀ x, (x = B ∨ ∃ i, i < 3 ∧ x = P i) → x ≠ k) : w'.heap[k]? = w.heap[k]? :=
  Only4.block h k hk (hn B (.inl rfl)).symm (hn (P 0) (.inr ⟨0, by omega, rfl⟩)).symm (hn (P 1) (.inr ⟨1, by omega, rfl⟩)).symm (hn (P 2) (.inr ⟨2, by omega, rfl⟩)).symm
theorem LT.step1 {B : Nat} {P : Nat → Nat} {C : Nat} {Q : Nat → Nat} {w wr w' : World} {a b a' : LS} (h : LT B P C Q w wr a b) (hs : Loc w' B P a') (ho : OnlyL B P wr w') : LT B P C Q w w' a' b := by
  refine ⟨hs, h.two.other fun k hk => ho.other k ?_ fun x hx => h.apart x k hx hk, h.ap1, h.ap2, h.apart, h.low1, h.low2, h.below.trans (ho.below h.low1.1 h.low1.2 h.below.size)⟩
  rcases hk with rfl | ⟨i, hi, rfl⟩
  · exact h.two.lt.1
  · exact h.two.lt.2 i hi
theorem LT.step2 {B : Nat} {P : Nat → Nat} {C : Nat} {Q : Nat → Nat} {w wr w' : World} {a b b' : LS} (h : LT B P C Q w wr a b) (hs : Loc w' C Q b') (ho : OnlyL C Q wr w') : LT B P C Q w w' a b' := by
  refine ⟨h.one.other fun k hk => ho.other k ?_ fun x hx => (h.apart k x hk hx).symm, hs, h.ap1, h.ap2, h.apart, h.low1, h.low2, h.below.trans (ho.below h.low2.1 h.low2.2 h.below.size)⟩
  rcases hk with rfl | ⟨i, hi, rfl⟩
  · exact h.one.lt.1
  · exact h.one.lt.2 i hi
theorem LT.more {B : Nat} {P : Nat → Nat} {C : Nat} {Q : Nat → Nat} {w wr w' : World} {a b : LS} (h : LT B P C Q w wr a b) (hb : Below wr.heap.size wr w') : LT B P C Q w w' a b :=
  ⟨h.one.below hb, h.two.below hb, h.ap1, h.ap2, h.apart, h.low1, h.low2, h.below.trans (hb.mono h.below.size)⟩
theorem outS_at (s : LS) (t : Nat) (ht : t < 3) (w : World) : (Instr.index 43 s.out (.int .i64 t)).run Try.prog w = .ok (.bool (s.l t)) w := by
  obtain rfl | rfl | rfl : t = 0 ∨ t = 1 ∨ t = 2 := by omega
  all_goals kernel_rfl
theorem three_at {w : World} {b : Nat} {s : LS} {t : TypeId} (h : w.heap[b]? = some (.cells #[.bool (s.l 0), .bool (s.l 1), .bool (s.l 2)] t (0, 0))) (k : Nat) (hk : k < 3) : w.cell? ⟨b, k, none⟩ = some (.bool (s.l k)) :=
  (cell_of_row _ _ _ _ _ _ h).trans (by
    obtain rfl | rfl | rfl : k = 0 ∨ k = 1 ∨ k = 2 := by omega
    all_goals rfl)
/-- A three of samples that came in. -/
theorem leaks_of {z : List Value} (h : oks [.int .i64, .bool, .int .i64, .bool, .int .i64, .bool] z) : ∃ (v : Nat → Int) (f : Nat → Bool), z = (leaksA v f).toList := by
  obtain ⟨_, _, rfl, ⟨a, rfl, _⟩, h1⟩ := oks_cons h
  obtain ⟨_, _, rfl, ⟨b, rfl⟩, h2⟩ := oks_cons h1
  obtain ⟨_, _, rfl, ⟨c, rfl, _⟩, h3⟩ := oks_cons h2
  obtain ⟨_, _, rfl, ⟨d, rfl⟩, h4⟩ := oks_cons h3
  obtain ⟨_, _, rfl, ⟨e, rfl, _⟩, h5⟩ := oks_cons h4
  obtain ⟨_, _, rfl, ⟨f, rfl⟩, h6⟩ := oks_cons h5
  obtain rfl := oks_nil h6
  exact ⟨fun k => if k = 0 then a else if k = 1 then c else e, fun k => if k = 0 then b else if k = 1 then d else f, rfl⟩
theorem six_at {w wr : World} {x : Addr} {o : Nat} {v : Nat → Int} {f : Nat → Bool} (hx : ∀ (j : Nat) u, (leaksA v f).toList[j]? = some u → w.cell? (x.add (o + j)) = some u) (hb : Below w.heap.size w wr) :
    wr.cell? (x.add o) = some (.int .i64 (v 0)) ∧ wr.cell? ⟨(x.add o).block, (x.add o).off + 1, none⟩ = some (.bool (f 0)) ∧ wr.cell? ⟨(x.add o).block, (x.add o).off + 2, none⟩ = some (.int .i64 (v 1)) ∧ wr.cell? ⟨(x.add o).block, (x.add o).off + 3, none⟩ = some (.bool (f 1)) ∧ wr.cell? ⟨(x.add o).block, (x.add o).off + 4, none⟩ = some (.int .i64 (v 2)) ∧ wr.cell? ⟨(x.add o).block, (x.add o).off + 5, none⟩ = some (.bool (f 2)) :=
  ⟨below_cell hb (hx 0 _ rfl),
   (show wr.cell? ((x.add o).add 1) = some (.bool (f 0)) by rw [Addr.add_add]; exact below_cell hb (hx 1 _ rfl)),
   (show wr.cell? ((x.add o).add 2) = some (.int .i64 (v 1)) by rw [Addr.add_add]; exact below_cell hb (hx 2 _ rfl)),
   (show wr.cell? ((x.add o).add 3) = some (.bool (f 1)) by rw [Addr.add_add]; exact below_cell hb (hx 3 _ rfl)),
   (show wr.cell? ((x.add o).add 4) = some (.int .i64 (v 2)) by rw [Addr.add_add]; exact below_cell hb (hx 4 _ rfl)),
   (show wr.cell? ((x.add o).add 5) = some (.bool (f 2)) by rw [Addr.add_add]; exact below_cell hb (hx 5 _ rfl))⟩
theorem LT.call1 {B : Nat} {P : Nat → Nat} {C : Nat} {Q : Nat → Nat} {w wr : World} {a b : LS} (h : LT B P C Q w wr a b) (v : Nat → Int) (f : Nat → Bool) (hO : LOk a) (A : Array Value) (hA : A = leaksA v f) :
    Calls Try.prog 22 #[.pointer (some ⟨B, 0, none⟩), .agg A] wr fun e w' => e = .returned (a.upto v f 3).out ∧ LT B P C Q w w' (a.upto v f 3) b := by
  subst hA
  exact (locStep B P a v f h.ap1 hO wr h.one).mono fun e w' h' => ⟨h'.1, h.step1 h'.2.1 h'.2.2⟩
theorem LT.call2 {B : Nat} {P : Nat → Nat} {C : Nat} {Q : Nat → Nat} {w wr : World} {a b : LS} (h : LT B P C Q w wr a b) (v : Nat → Int) (f : Nat → Bool) (hO : LOk b) (A : Array Value) (hA : A = leaksA v f) :
    Calls Try.prog 22 #[.pointer (some ⟨C, 0, none⟩), .agg A] wr fun e w' => e = .returned (b.upto v f 3).out ∧ LT B P C Q w w' a (b.upto v f 3) ∧ OnlyL C Q wr w' := by
  subst hA
  exact (locStep C Q b v f h.ap2 hO wr h.two).mono fun e w' h' => ⟨h'.1, h.step2 h'.2.1 h'.2.2, h'.2.2⟩
set_option maxRecDepth 100000 in
set_option maxHeartbeats 8000000 in
theorem walkLocateOnce (a0 : Int) (a1 : Option Addr) (len1 cap1 : Nat) (z1 : Nat → List Value) (a2 : Int) (a3 : Int) (w : World) (w0 : (Lit.int .i64 a0).wf = true) (w1 : CameS [.int .i64, .bool, .int .i64, .bool, .int .i64, .bool] w a1 len1 cap1 z1) (w2 : (Lit.int .i64 a2).wf = true) (w3 : (Lit.int .i64 a3).wf = true) :
    Calls Try.prog 8 #[.int .i64 a0, .slice a1 len1 cap1, .int .i64 a2, .int .i64 a3] w fun e w' => e = .returned (.bool true) ∧ Below w.heap.size w w' := by
  have C1 := Lib.hid fun i hi => w1.at i hi
  clear w0 w1 w2 w3
  have hB : 1 ≤ (cfgOf (a0 % 1048576) 0 0).B ∧ (cfgOf (a0 % 1048576) 0 0).B ≤ 3 := by unfold cfgOf; simp only; omega
  have N2 := Lib.hid fun (w : World) => numberC a2 3 (by omega) (by omega) w
  have N3 := Lib.hid fun (w : World) => numberC a3 1000 (by omega) (by omega) w
  obtain ⟨t, ht, ht3⟩ : ∃ m : Nat, a2 % 3 = m ∧ m < 3 := ⟨(a2 % 3).toNat, by omega, by omega⟩
  obtain ⟨r, hr, hr3⟩ : ∃ m : Int, a3 % 1000 = m ∧ 0 ≤ m ∧ m < 1000 := ⟨a3 % 1000, rfl, by omega, by omega⟩
  rw [ht] at N2
  rw [hr] at N3
  clear ht hr
  by_cases hl : 60 < len1
  · go_enter Try.func8, Try.ntmps8
    go_wp2_with fail
    refine (first24 _).mono ?_
    rintro e w1 ⟨rfl, hb⟩
    have B1 := Lib.hid hb
    clear hb
    go_wp2_with fail
    go_ret
    exact ⟨rfl, B1.out⟩
  · go_enter Try.func8, Try.ntmps8
    go_wp2_with fail
    refine (first24 _).mono ?_
    rintro e w1 ⟨rfl, hb⟩
    have B1 := Lib.hid hb
    clear hb
    go_wp2_with fail
    refine (configC _ 0 0 _).mono ?_
    rintro e w2 ⟨O, fa, fn, fc, rfl, hO, hv, hb1⟩
    have B2 := Lib.hid (B1.out.trans (hb1.mono B1.out.size))
    clear hb1 hv hO
    simp only [cfgV]
    rw [show (0 : Int) % 1048576 = 0 from rfl]
    generalize cfgOf (a0 % 1048576) 0 0 = c at *
    go_wp2_with fail
    refine upon_fresh (by simp) rfl (cfgA_one rfl rfl) ?_
    intro W1 b1 s1 h1
    have HC := Lib.hid h1
    have B3 := Lib.hid (B2.out.trans (b1.mono B2.out.size))
    clear h1 b1 s1
    go_wp2_with fail
    refine (N2.out _).mono ?_
    rintro e w' ⟨rfl, rfl⟩
    go_wp2_with (refine wpList_load_row_g rfl 26 _ rfl w2.heap.size rfl 26 _ (0, 0) _ HC.out Try.underlying26 rfl (by kernel_rfl) ?_)
    refine (locNew _ _ _ _).mono ?_
    rintro e w3 ⟨B, P, rfl, hS, hA, hL, hb3⟩
    have H3 := Lib.hid (Cfg.below HC.out hb3 (Array.getElem?_eq_some_iff.1 HC.out).1)
    have HS3 := Lib.hid hS
    have HA := Lib.hid hA
    have B4 := Lib.hid (B3.out.trans (hb3.mono B3.out.size))
    have NW := Lib.hid (show w.heap.size ≤ B ∧ ∀ i, i < 3 → w.heap.size ≤ P i from by have := B3.out.size; exact ⟨by have := hL.1; omega, fun i hi => by have := hL.2 i hi; omega⟩)
    clear hS hA hL hb3 HC B3
    go_wp2_with (refine wpList_load_row_g rfl 26 _ rfl w2.heap.size rfl 26 _ (0, 0) _ H3.out Try.underlying26 rfl (by kernel_rfl) ?_)
    refine (locNew _ _ _ _).mono ?_
    rintro e w4 ⟨C, Q, rfl, hS, hA, hL, hb3⟩
    have T0 := Lib.hid (show LT B P C Q w w4 (newL c) (newL c) from
      ⟨HS3.out.below hb3, hS, HA.out, hA, fun x y hx hy => by
        have h1 : x < w3.heap.size := by
          rcases hx with rfl | ⟨i, hi, rfl⟩
          · exact HS3.out.lt.1
          · exact HS3.out.lt.2 i hi
        have h2 : w3.heap.size ≤ y := by
          rcases hy with rfl | ⟨i, hi, rfl⟩
          · exact hL.1
          · exact hL.2 i hi
        omega, NW.out, ⟨Nat.le_trans B4.out.size hL.1, fun i hi => Nat.le_trans B4.out.size (hL.2 i hi)⟩, B4.out.trans (hb3.mono B4.out.size)⟩)
    clear hS hA hL hb3 HS3 HA B4 NW H3
    go_wp2_with fail
    refine (lockC B P _ t ht3 _ rfl T0.out.ap1 _ T0.out.one).mono ?_
    rintro e w5 ⟨rfl, hs, ho⟩
    have T1 := Lib.hid (T0.out.step1 hs (Only4.ofB ho))
    have TW := Lib.hid (show Tw t 0 { newL c with l := updL (newL c).l t true } (newL c) from ⟨rfl, rfl, rfl, by unfold updL; simp, fun j hj => by show updL _ t true j = _; unfold updL; rw [if_neg hj], fun i => ⟨show (0 : Int) ≤ 0 by omega, show (0 : Int) ≤ 0 by omega⟩⟩)
    clear hs ho T0
    generalize ({ newL c with l := updL (newL c).l t true } : LS) = sa at *
    generalize newL c = sb at *
    go_wp2_with fail
    go_loopw [13] (fun v wr => ∃ (i : Nat) (a b : LS), i ≤ len1 ∧ v = .int .i64 i ∧ LT B P C Q w wr a b ∧ Tw t (3 * i) a b) (fun v _ => len1 - (intOf v).toNat)
    case atStart => exact ⟨0, _, _, by omega, rfl, T1.out, TW.out⟩
    case round =>
      obtain ⟨i, a, b, hi, rfl, h, hw⟩ := hrel
      have FH := Lib.hid h
      have FW := Lib.hid hw
      clear h hw T1 TW
      by_cases hlt : i < len1
      · obtain ⟨x, rfl, hz, hx⟩ := C1.out i hlt
        obtain ⟨v, f, hvf⟩ := leaks_of hz
        rw [hvf] at hx
        have HX := Lib.hid (show ∀ (j : Nat) u, (leaksA v f).toList[j]? = some u → w.cell? (x.add (i * 6 + j)) = some u from hx)
        clear hx hz hvf C1
        obtain ⟨e0, e1, e2, e3, e4, e5⟩ := six_at HX.out FH.out.below
        have OK := Lib.hid (FW.out.ok (by omega))
        go_wp2_with fail
        refine (FH.out.call1 v f OK.out.1 _ rfl).mono ?_
        rintro e w6 ⟨rfl, h6⟩
        have F6 := Lib.hid h6
        clear h6 e0 e1 e2 e3 e4 e5 FH
        have FW2 := Lib.hid (show Tw t (3 * ((i + 1 : Nat) : Int)) (a.upto v f 3) (b.upto v f 3) from by
          have := FW.out.upto (by omega) v f
          rwa [show 3 * ((i + 1 : Nat) : Int) = 3 * i + 3 by omega])
        generalize a.upto v f 3 = a' at *
        unfold LS.out
        go_upto_region 16 with fail
        generalize hW : World.alloc w6 _ = W6
        obtain ⟨G1, G2⟩ : Hid (W6.heap[w6.heap.size]? = some (.cells #[.bool (a'.l 0), .bool (a'.l 1), .bool (a'.l 2)] 43 (0, 0))) ∧ Hid (LT B P C Q w W6 a' b) := by
          rw [← hW]
          exact ⟨Lib.hid (heap_alloc_new _ _), Lib.hid (F6.out.more ((Below.refl _ _).alloc (Nat.le_refl _) _))⟩
        have ZN := Lib.hid (show w6.heap.size ≠ C ∧ ∀ i, i < 3 → w6.heap.size ≠ Q i from ⟨Nat.ne_of_gt F6.out.two.lt.1, fun i hi => Nat.ne_of_gt (F6.out.two.lt.2 i hi)⟩)
        clear hW F6
        generalize w6.heap.size = Za at *
        obtain ⟨e0, e1, e2, e3, e4, e5⟩ := six_at HX.out G2.out.below
        go_wp2_with fail
        refine (G2.out.call2 v f OK.out.2 _ rfl).mono ?_
        rintro e w7 ⟨rfl, h7, ho⟩
        have F7 := Lib.hid h7
        have R1 := Lib.hid (show w7.heap[Za]? = some (.cells #[.bool (a'.l 0), .bool (a'.l 1), .bool (a'.l 2)] 43 (0, 0)) from ho.row G1.out ZN.out.1 ZN.out.2)
        clear h7 e0 e1 e2 e3 e4 e5 G2 G1 ho
        generalize b.upto v f 3 = b' at *
        unfold LS.out
        go_upto_region 17 with fail
        generalize hW : World.alloc w7 _ = W8
        obtain ⟨G1, G2, G3⟩ : Hid (W8.heap[Za]? = some (.cells #[.bool (a'.l 0), .bool (a'.l 1), .bool (a'.l 2)] 43 (0, 0))) ∧ Hid (W8.heap[w7.heap.size]? = some (.cells #[.bool (b'.l 0), .bool (b'.l 1), .bool (b'.l 2)] 43 (0, 0))) ∧ Hid (LT B P C Q w W8 a' b') := by
          rw [← hW]
          have al := (Below.refl w7.heap.size w7).alloc (Nat.le_refl _) (.cells #[.bool (b'.l 0), .bool (b'.l 1), .bool (b'.l 2)] 43)
          exact ⟨Lib.hid ((al.block _ (Array.getElem?_eq_some_iff.1 R1.out).1).trans R1.out), Lib.hid (heap_alloc_new _ _), Lib.hid (F7.out.more al)⟩
        clear hW F7 R1
        generalize w7.heap.size = Zb at *
        go_wp2_with fail
        go_loopw [16] (fun v wr => ∃ (k : Nat), k ≤ 3 ∧ v = .int .i64 k ∧ wr.heap[Za]? = some (.cells #[.bool (a'.l 0), .bool (a'.l 1), .bool (a'.l 2)] 43 (0, 0)) ∧ wr.heap[Zb]? = some (.cells #[.bool (b'.l 0), .bool (b'.l 1), .bool (b'.l 2)] 43 (0, 0)) ∧ LT B P C Q w wr a' b') (fun v _ => 3 - (intOf v).toNat)
        case atStart => exact ⟨0, by omega, rfl, G1.out, G2.out, G3.out⟩
        case round =>
          obtain ⟨k, hk, rfl, g1, g2, g3⟩ := hrel
          have F1 := Lib.hid g1
          have F2 := Lib.hid g2
          have F3 := Lib.hid g3
          have lza := (Array.getElem?_eq_some_iff.1 g1).1
          have lzb := (Array.getElem?_eq_some_iff.1 g2).1
          clear g1 g2 g3 G1 G2 G3
          have MORE := Lib.hid fun (d : World) => (show Hid ((reach wr.heap.size wr d).heap[Za]? = some (.cells #[.bool (a'.l 0), .bool (a'.l 1), .bool (a'.l 2)] 43 (0, 0))) ∧ Hid ((reach wr.heap.size wr d).heap[Zb]? = some (.cells #[.bool (b'.l 0), .bool (b'.l 1), .bool (b'.l 2)] 43 (0, 0))) ∧ Hid (LT B P C Q w (reach wr.heap.size wr d) a' b') from by
            have rb := reach_below wr.heap.size wr d
            exact ⟨Lib.hid ((rb.block _ lza).trans F1.out), Lib.hid ((rb.block _ lzb).trans F2.out), Lib.hid (F3.out.more rb)⟩)
          by_cases hl3 : k < 3
          · have pk := fun d => reach_cell (B := wr.heap.size) (three_at F1.out k hl3) lza d
            have qk := fun d => reach_cell (B := wr.heap.size) (three_at F2.out k hl3) lzb d
            by_cases hkt : k = t
            · subst hkt
              rw [FW2.out.at_t] at pk
              go_upto_region 20 with fail
              refine wp_region_reach wr.heap.size (by kernel_rfl) (by kernel_rfl) ?_
              repeat (go_big_quiet_step (fail))
              refine wpQuiet_nil ?_
              rintro w' ⟨d, rfl⟩
              obtain ⟨G1, G2, G3⟩ := MORE.out d
              clear pk qk
              go_wp2_with fail
              go_roundw
              case rel => exact ⟨k + 1, by omega, by go_num, G1.out, G2.out, G3.out⟩
              case measure => simp [intOf]; omega
            · have e1 : ((k : Int) == (t : Int)) = false := by rw [beq_eq_false_iff_ne]; omega
              have e2 : (k == t) = false := by rw [beq_eq_false_iff_ne]; omega
              have e3 : ((k : Int) != (t : Int)) = true := by rw [bne_iff_ne]; omega
              have e4 : (k != t) = true := by rw [bne_iff_ne]; omega
              rw [FW2.out.l k hkt] at pk
              obtain ⟨y, hy⟩ : ∃ y, b'.l k = y := ⟨_, rfl⟩
              rw [hy] at pk qk
              clear hy
              cases y
              · go_upto_region 20 with fail
                refine wp_region_reach wr.heap.size (by kernel_rfl) (by kernel_rfl) ?_
                repeat (go_big_quiet_step (fail))
                refine wpQuiet_nil ?_
                rintro w' ⟨d, rfl⟩
                obtain ⟨G1, G2, G3⟩ := MORE.out d
                clear pk qk
                go_wp2_with fail
                go_roundw
                case rel => exact ⟨k + 1, by omega, by go_num, G1.out, G2.out, G3.out⟩
                case measure => simp [intOf]; omega
              · go_upto_region 20 with fail
                refine wp_region_reach wr.heap.size (by kernel_rfl) (by kernel_rfl) ?_
                repeat (go_big_quiet_step (fail))
                refine wpQuiet_nil ?_
                rintro w' ⟨d, rfl⟩
                obtain ⟨G1, G2, G3⟩ := MORE.out d
                clear pk qk
                go_wp2_with fail
                go_roundw
                case rel => exact ⟨k + 1, by omega, by go_num, G1.out, G2.out, G3.out⟩
                case measure => simp [intOf]; omega
          · obtain rfl : k = 3 := by omega
            go_wp2_with fail
            go_roundw
            case rel => exact ⟨i + 1, _, _, by omega, by go_num, F3.out, FW2.out⟩
            case measure => simp [intOf]; omega
      · obtain rfl : i = len1 := by omega
        have TT := Lib.hid FW.out.at_t
        go_wp2_with fail
        refine (N3.out _).mono ?_
        rintro e w' ⟨rfl, rfl⟩
        go_wp2_with fail
        have ix := outS_at a t ht3
        rw [TT.out] at ix
        have KL := Lib.hid (lockedC B P a _ FH.out.one)
        obtain ⟨ov, hov⟩ : ∃ x, a.out = x := ⟨_, rfl⟩
        rw [hov] at ix KL
        clear hov
        refine KL.out.mono ?_
        rintro e w4 ⟨rfl, hb⟩
        have F4 := Lib.hid (FH.out.below.trans (hb.mono FH.out.below.size))
        clear hb FH KL
        go_wp2_with fail
        refine (lockNo B _ (.inr (by omega)) _).mono ?_
        rintro e w' ⟨rfl, rfl⟩
        go_wp2_with fail
        refine (lockNo B _ (.inl (by omega)) _).mono ?_
        rintro e w' ⟨rfl, rfl⟩
        go_wp2_with fail
        go_ret
        exact ⟨rfl, F4.out⟩
end Go.Proofs.Ytcphpaacgkfkbaa
