/- HealthFails holds: each call returns true. Conditions: the arguments are numbers of 64 bits and a bool. -/
import Derived.Test.YtcphpaacgkfkbaaHealthM
namespace Go.Proofs.Ytcphpaacgkfkbaa
open Go.RowKit
set_option linter.unusedVariables false
/-- A source, whole blocks that lie apart from it, and all that was there. -/
structure HR (B U V X : Nat) (rows : List (Nat × Obj)) (w wr : World) (s : HS) : Prop where
  src : Src wr B U V X s
  ap : Apart B U V X
  rws : ∀ p ∈ rows, wr.heap[p.1]? = some p.2
  off : ∀ p ∈ rows, p.1 ≠ B ∧ p.1 ≠ U ∧ p.1 ≠ V ∧ p.1 ≠ X
  low : w.heap.size ≤ B ∧ w.heap.size ≤ U ∧ w.heap.size ≤ V ∧ w.heap.size ≤ X
  below : Below w.heap.size w wr
theorem HR.step {B U V X : Nat} {rows : List (Nat × Obj)} {w wr w' : World} {s s' : HS} (h : HR B U V X rows w wr s) (hs : Src w' B U V X s') (ho : Only4 B U V X wr w') : HR B U V X rows w w' s' :=
  ⟨hs, h.ap, fun p hp => by have := h.off p hp; exact ho.row (h.rws p hp) this.1 this.2.1 this.2.2.1 this.2.2.2, h.off, h.low, h.below.trans (ho.below h.low.1 h.low.2.1 h.low.2.2.1 h.low.2.2.2 h.below.size)⟩
theorem HR.row {B U V X : Nat} {rows : List (Nat × Obj)} {w wr : World} {s : HS} (h : HR B U V X rows w wr s) (n : Nat) (p : Nat × Obj) (hp : rows[n]? = some p) : wr.heap[p.1]? = some p.2 := h.rws p (List.mem_of_getElem? hp)
theorem HR.call {B U V X : Nat} {rows : List (Nat × Obj)} {w wr : World} {s : HS} (h : HR B U V X rows w wr s) (i : HI) (s' : HS) (u : Bool) (hs : s.step i = s') (hu' : s'.usable = u) (hu : s.up.Ok) (ho : s.over.Ok) (hsk : s.sick.Ok) (ht : -1000000 ≤ s.trip ∧ s.trip ≤ 1000000) :
    Calls Try.prog 17 #[.pointer (some ⟨B, 0, none⟩), i.v] wr fun e w' => e = .returned (.bool u) ∧ HR B U V X rows w w' s' :=
  (step_mk B U V X s s' i u hs hu' h.ap hu ho hsk ht wr h.src).mono fun e w' h' => ⟨h'.1, h.step h'.2.1 h'.2.2⟩
theorem hmg_step (b i : Int) (m : Bool) (h : 0 ≤ i) (hb : 1 ≤ b) : (hm b i m).step ⟨10000, true, 20000, true, 0, true⟩ = hm b (i + 1) true := by
  unfold hm HS.step
  have e1 : upIn 10000 ⟨10000, true, 20000, true, 0, true⟩ = true := rfl
  have e2 : overIn 20000 ⟨10000, true, 20000, true, 0, true⟩ = false := rfl
  have e3 : badB 0 = false := rfl
  simp only [e1, e2, e3]
  unfold FK.step
  by_cases h1 : i < b
  · by_cases h2 : b ≤ i + 1
    · simp [h1, h2, show ¬ i + 1 < b by omega]
    · simp [h1, h2, show i + 1 < b by omega]
  · simp [h1, show ¬ i + 1 < b by omega]
/-- Behind j cycles of amps that are too great. -/
def ff (b j : Int) : HS := ⟨10000, 20000, ⟨b, 0, true⟩, if j < b then ⟨b, j, false⟩ else ⟨b, 0, true⟩, ⟨b, 0, false⟩, decide (b ≤ j), true⟩
theorem ff_zero (b : Int) (hb : 1 ≤ b) : hm b b true = ff b 0 := by
  unfold hm ff
  simp [show (0 : Int) < b by omega, show ¬ b ≤ 0 by omega]
theorem ff_step (b j a : Int) (h : 0 ≤ j) (hb : 1 ≤ b) (ha : a = 20001 ∨ a = -20001) : (ff b j).step ⟨10000, true, a, true, 0, true⟩ = ff b (j + 1) := by
  unfold ff HS.step
  have e1 : upIn 10000 ⟨10000, true, a, true, 0, true⟩ = true := rfl
  have e2 : overIn 20000 ⟨10000, true, a, true, 0, true⟩ = true := by rcases ha with rfl | rfl <;> rfl
  have e3 : badB 0 = false := rfl
  simp only [e1, e2, e3]
  unfold FK.step
  by_cases h1 : j < b
  · by_cases h2 : b ≤ j + 1
    · simp [h1, h2, show ¬ j + 1 < b by omega]
    · simp [h1, h2, show j + 1 < b by omega, show ¬ b ≤ j by omega]
  · simp [h1, show ¬ j + 1 < b by omega, show b ≤ j by omega, show b ≤ j + 1 by omega]
theorem ff_ok (b j : Int) (h : 0 ≤ j) (hb : 1 ≤ b ∧ b ≤ 3) : (ff b j).up.Ok ∧ (ff b j).over.Ok ∧ (ff b j).sick.Ok ∧ (-1000000 ≤ (ff b j).trip ∧ (ff b j).trip ≤ 1000000) := by
  unfold ff FK.Ok
  refine ⟨⟨Int.le_refl _, show (0 : Int) ≤ 1000000 by omega⟩, ?_, ⟨Int.le_refl _, show (0 : Int) ≤ 1000000 by omega⟩, show (-1000000 : Int) ≤ 20000 by omega, show (20000 : Int) ≤ 1000000 by omega⟩
  simp only
  split
  · exact ⟨h, show j ≤ 1000000 by omega⟩
  · exact ⟨show (0 : Int) ≤ 0 by omega, show (0 : Int) ≤ 1000000 by omega⟩
theorem ff_usable (b j : Int) : (ff b j).usable = !decide (b ≤ j) := by unfold ff HS.usable; simp
/-- Whatever good cycles come from then on. -/
structure GG (b : Int) (F : Bool) (s : HS) : Prop where
  vmin : s.vmin = 10000
  trip : s.trip = 20000
  up : s.up = ⟨b, 0, true⟩
  sick : s.sick = ⟨b, 0, false⟩
  failed : s.failed = F
  may : s.may = true
  n : s.over.n = b
  c : 0 ≤ s.over.c ∧ s.over.c ≤ 3
  s : s.over.s = true → F = true
theorem gg_ff (b j : Int) (h : 0 ≤ j) (hb : 1 ≤ b ∧ b ≤ 3) : GG b (decide (b ≤ j)) (ff b j) := by
  unfold ff
  by_cases h1 : j < b
  · simp only [h1, if_true]
    exact ⟨rfl, rfl, rfl, rfl, rfl, rfl, rfl, ⟨h, show j ≤ 3 by omega⟩, fun h => by cases h⟩
  · simp only [h1, if_false]
    exact ⟨rfl, rfl, rfl, rfl, rfl, rfl, rfl, ⟨show (0 : Int) ≤ 0 by omega, show (0 : Int) ≤ 3 by omega⟩, fun _ => by simp; omega⟩
theorem gg_step (b : Int) (F : Bool) (s : HS) (hb : 1 ≤ b ∧ b ≤ 3) (h : GG b F s) : GG b F (s.step ⟨10000, true, 20000, true, 0, true⟩) := by
  obtain ⟨vmin, trip, up, over, sick, failed, may⟩ := s
  obtain ⟨h1, h2, h3, h4, h5, h6, h7, h8, h9⟩ := h
  simp only at h1 h2 h3 h4 h5 h6 h7 h8 h9
  subst h1; subst h2; subst h3; subst h4; subst h5; subst h6
  unfold HS.step
  have e1 : upIn 10000 ⟨10000, true, 20000, true, 0, true⟩ = true := rfl
  have e2 : overIn 20000 ⟨10000, true, 20000, true, 0, true⟩ = false := rfl
  have e3 : badB 0 = false := rfl
  simp only [e1, e2, e3]
  obtain ⟨n, c, s⟩ := over
  simp only at h7 h8 h9
  subst h7
  unfold FK.step
  cases s
  · exact ⟨rfl, rfl, rfl, rfl, by simp, rfl, rfl, ⟨show (0 : Int) ≤ 0 by omega, show (0 : Int) ≤ 3 by omega⟩, fun h => by simp at h⟩
  · have hF := h9 rfl
    subst hF
    by_cases h2 : n ≤ c + 1
    · simp [h2]
      exact ⟨rfl, rfl, rfl, rfl, rfl, rfl, rfl, ⟨show (0 : Int) ≤ 0 by omega, show (0 : Int) ≤ 3 by omega⟩, fun h => rfl⟩
    · simp [h2]
      exact ⟨rfl, rfl, rfl, rfl, rfl, rfl, rfl, ⟨show (0 : Int) ≤ c + 1 by omega, show c + 1 ≤ 3 by omega⟩, fun h => rfl⟩
theorem gg_ok (b : Int) (F : Bool) (s : HS) (h : GG b F s) : s.up.Ok ∧ s.over.Ok ∧ s.sick.Ok ∧ (-1000000 ≤ s.trip ∧ s.trip ≤ 1000000) := by
  unfold FK.Ok
  rw [h.up, h.sick, h.trip]
  have := h.c
  exact ⟨⟨show (0 : Int) ≤ 0 by omega, show (0 : Int) ≤ 1000000 by omega⟩, by omega, ⟨show (0 : Int) ≤ 0 by omega, show (0 : Int) ≤ 1000000 by omega⟩, by omega, by omega⟩
theorem gg_usable (b : Int) (F : Bool) (s : HS) (h : GG b F s) : s.usable = !F := by
  unfold HS.usable
  rw [h.up, h.sick, h.failed, h.may]
  simp
set_option maxRecDepth 100000 in
set_option maxHeartbeats 8000000 in
theorem walkHealthFails (a0 : Int) (a1 : Int) (a2 : Bool) (w : World) (w0 : (Lit.int .i64 a0).wf = true) (w1 : (Lit.int .i64 a1).wf = true) :
    Calls Try.prog 3 #[.int .i64 a0, .int .i64 a1, .bool a2] w fun e w' => e = .returned (.bool true) ∧ Below w.heap.size w w' := by
  clear w0 w1
  have hB : 1 ≤ (cfgOf (a0 % 1048576) 0 0).B ∧ (cfgOf (a0 % 1048576) 0 0).B ≤ 3 := by unfold cfgOf; simp only; omega
  have N1 := Lib.hid fun (w : World) => numberC a1 (2 * (cfgOf (a0 % 1048576) 0 0).B + 1) (by omega) (by omega) w
  obtain ⟨n, hn, hn2⟩ : ∃ n : Nat, a1 % (2 * (cfgOf (a0 % 1048576) 0 0).B + 1) = n ∧ n ≤ 6 := ⟨(a1 % (2 * (cfgOf (a0 % 1048576) 0 0).B + 1)).toNat, by
    have := Int.emod_nonneg a1 (show (2 * (cfgOf (a0 % 1048576) 0 0).B + 1) ≠ 0 by omega)
    omega, by
    have := Int.emod_lt_of_pos a1 (show 0 < (2 * (cfgOf (a0 % 1048576) 0 0).B + 1) by omega)
    omega⟩
  rw [hn] at N1
  clear hn
  go_enter Try.func3, Try.ntmps3
  go_wp2_with fail
  refine (first17 _).mono ?_
  rintro e w1 ⟨rfl, hb⟩
  have B1 := Lib.hid hb
  clear hb
  go_wp2_with fail
  refine (configC _ 0 0 _).mono ?_
  rintro e w2 ⟨O, fa, fl, fc, rfl, hO, hv, hb1⟩
  have B2 := Lib.hid (B1.out.trans (hb1.mono B1.out.size))
  clear hb1 hv hO
  simp only [cfgV]
  rw [show (0 : Int) % 1048576 = 0 from rfl]
  generalize cfgOf (a0 % 1048576) 0 0 = c at *
  go_wp2_with fail
  refine upon_fresh (by simp) rfl (cfgA_one rfl rfl) ?_
  intro W1 b1 s1 h1
  have HC := Lib.hid h1
  have B3 := Lib.hid (B2.out.trans (b1.mono B2.out.size))
  have cB : W1.cell? ⟨w2.heap.size, 1, none⟩ = some (.int .i64 c.B) := cell_of_row W1 _ 1 _ _ _ h1
  clear h1 b1
  go_wp2_with (refine wpList_load_row_g rfl 26 _ rfl w2.heap.size rfl 26 _ (0, 0) _ HC.out Try.underlying26 rfl (by kernel_rfl) ?_)
  refine (N1.out _).mono ?_
  rintro e w' ⟨rfl, rfl⟩
  go_wp2_with (refine wpList_load_row_g rfl 26 _ rfl w2.heap.size rfl 26 _ (0, 0) _ HC.out Try.underlying26 rfl (by kernel_rfl) ?_)
  refine (healthNew _ _ _ _).mono ?_
  rintro e w3 ⟨B, U, V, X, rfl, hS, hA, hL, hb3⟩
  have H3 := Lib.hid (Cfg.below HC.out hb3 (Array.getElem?_eq_some_iff.1 HC.out).1)
  have B4 := Lib.hid (B3.out.trans (hb3.mono B3.out.size))
  have hC := (Array.getElem?_eq_some_iff.1 HC.out).1
  have hws := B3.out.size
  rw [newS_hm c hB] at hS
  have HS3 := Lib.hid hS
  have c8 : w3.cell? ⟨w2.heap.size, 8, none⟩ = some (.int .i64 20000) := cell_of_row w3 _ 8 _ _ _ H3.out
  have c9 : w3.cell? ⟨w2.heap.size, 9, none⟩ = some (.int .i64 10000) := cell_of_row w3 _ 9 _ _ _ H3.out
  have c1 : w3.cell? ⟨w2.heap.size, 1, none⟩ = some (.int .i64 c.B) := cell_of_row w3 _ 1 _ _ _ H3.out
  clear hS hb3 HC B3 s1 cB
  obtain ⟨l1, l2, l3, l4⟩ := HS3.out.lts
  have hCw : w2.heap.size < w3.heap.size := (Array.getElem?_eq_some_iff.1 H3.out).1
  have HA := Lib.hid (show Apart B U V X from hA)
  have WC : w.heap.size ≤ w2.heap.size := B2.out.size
  have hBw : w.heap.size ≤ B ∧ w.heap.size ≤ U ∧ w.heap.size ≤ V ∧ w.heap.size ≤ X := by omega
  have NC : w2.heap.size ≠ B ∧ w2.heap.size ≠ U ∧ w2.heap.size ≠ V ∧ w2.heap.size ≠ X := by omega
  clear hA hL
  go_upto_region 11 with fail
  generalize hW : World.alloc (World.alloc w3 _) _ = W5
  have q5 : W5.heap.size = w3.heap.size + 2 := by rw [← hW]; simp
  have E5 := Lib.hid (show W5.heap[w3.heap.size]? = some (.cells #[.int .i64 10000, .bool true, .int .i64 20000, .bool true, .int .i64 0, .bool true] 34 (0, 0)) ∧ W5.heap[w3.heap.size + 1]? = some (.cells #[.int .i64 10000, .bool true, .int .i64 20000, .bool true, .int .i64 0, .bool true] 34 (0, 0)) ∧ Below w3.heap.size w3 W5 by
    rw [← hW]
    have := boxes2 (w := w3) (A := #[.int .i64 10000, .bool true, .int .i64 20000, .bool true, .int .i64 0, .bool true]) (B := #[.int .i64 10000, .bool true, .int .i64 20000, .bool true, .int .i64 0, .bool true]) (s := 34) (t := 34) (Below.refl _ _)
    exact ⟨this.1, this.2.1, this.2.2.1⟩)
  have d8 := below_cell E5.out.2.2 c8
  have p2 : W5.cell? ⟨w3.heap.size + 1, 2, none⟩ = some (.int .i64 20000) := cell_of_row _ _ 2 _ _ _ E5.out.2.1
  have f2 : W5.frozen? ⟨w3.heap.size + 1, 2, none⟩ = false := by have := E5.out.2.1; simp [World.frozen?, this]
  clear hW c8 c9 c1
  obtain ⟨av, hav⟩ : ∃ av : Int, av = if a2 = true then -20001 else 20001 := ⟨_, rfl⟩
  have AV := Lib.hid (show av = 20001 ∨ av = -20001 by rw [hav]; split; exact .inr rfl; exact .inl rfl)
  have HAV := Lib.hid hav
  clear hav
  cases a2
  all_goals
    go_wp2_with fail
    generalize hW6 : World.setCell _ _ _ = W6
    have ho : ∀ k, k ≠ w3.heap.size + 1 → W6.heap[k]? = W5.heap[k]? := fun k hk => by
      rw [← hW6]
      first
        | exact heap_setCell_other _ ⟨_, _, _⟩ _ _ hk
        | exact (heap_setCell_other _ ⟨_, _, _⟩ _ _ hk).trans (heap_setCell_other _ ⟨_, _, _⟩ _ _ hk)
    have hr : W6.heap[w3.heap.size + 1]? = some (.cells #[.int .i64 10000, .bool true, .int .i64 av, .bool true, .int .i64 0, .bool true] 34 (0, 0)) := by
      rw [← hW6, HAV.out]
      have := E5.out.2.1
      simp [World.setCell, Array.getElem?_modify, this]
    have hbl : Below w.heap.size w W6 := by
      rw [← hW6]
      have b := B4.out.trans (E5.out.2.2.mono B4.out.size)
      first
        | exact b.setCell (p := ⟨w3.heap.size + 1, 2, none⟩) (show w.heap.size ≤ w3.heap.size + 1 by omega) _
        | exact (b.setCell (p := ⟨w3.heap.size + 1, 2, none⟩) (show w.heap.size ≤ w3.heap.size + 1 by omega) _).setCell (p := ⟨w3.heap.size + 1, 2, none⟩) (show w.heap.size ≤ w3.heap.size + 1 by omega) _
    clear hW6
    have H6 : HR B U V X [(w2.heap.size, .cells (cfgA c (.slice (some ⟨O, 0, none⟩) 4 4) (.slice fa fl fc)) 26 (0, 0)), (w3.heap.size, .cells #[.int .i64 10000, .bool true, .int .i64 20000, .bool true, .int .i64 0, .bool true] 34 (0, 0)), (w3.heap.size + 1, .cells #[.int .i64 10000, .bool true, .int .i64 av, .bool true, .int .i64 0, .bool true] 34 (0, 0))] w W6 (hm c.B 0 false) := by
      refine ⟨(HS3.out.below E5.out.2.2).other fun k hk => ho k (by omega), HA.out, ?_, ?_, hBw, hbl⟩
      · intro p hp
        simp only [List.mem_cons, List.not_mem_nil, or_false] at hp
        rcases hp with rfl | rfl | rfl
        · exact (ho _ (show w2.heap.size ≠ w3.heap.size + 1 by omega)).trans (Cfg.below H3.out E5.out.2.2 hCw)
        · exact (ho _ (show w3.heap.size ≠ w3.heap.size + 1 by omega)).trans E5.out.1
        · exact hr
      · intro p hp
        simp only [List.mem_cons, List.not_mem_nil, or_false] at hp
        rcases hp with rfl | rfl | rfl
        · exact NC
        · show w3.heap.size ≠ B ∧ w3.heap.size ≠ U ∧ w3.heap.size ≠ V ∧ w3.heap.size ≠ X
          omega
        · show w3.heap.size + 1 ≠ B ∧ w3.heap.size + 1 ≠ U ∧ w3.heap.size + 1 ≠ V ∧ w3.heap.size + 1 ≠ X
          omega
    obtain ⟨rs, RS0, RS1, RS2, H7⟩ : ∃ rs : List (Nat × Obj), Hid (rs[0]? = some (w2.heap.size, .cells (cfgA c (.slice (some ⟨O, 0, none⟩) 4 4) (.slice fa fl fc)) 26 (0, 0))) ∧ Hid (rs[1]? = some (w3.heap.size, .cells #[.int .i64 10000, .bool true, .int .i64 20000, .bool true, .int .i64 0, .bool true] 34 (0, 0))) ∧ Hid (rs[2]? = some (w3.heap.size + 1, .cells #[.int .i64 10000, .bool true, .int .i64 av, .bool true, .int .i64 0, .bool true] 34 (0, 0))) ∧ Hid (HR B U V X rs w W6 (hm c.B 0 false)) := ⟨_, Lib.hid rfl, Lib.hid rfl, Lib.hid rfl, Lib.hid H6⟩
    clear H6 ho hr hbl HAV
    have L1 := Lib.hid fun (wr : World) (s : HS) (h : HR B U V X rs w wr s) => (show wr.cell? ⟨w2.heap.size, 1, none⟩ = some (.int .i64 c.B) from cell_of_row _ _ 1 _ _ _ (h.row 0 _ RS0.out))
    have L2 := Lib.hid fun (wr : World) (s : HS) (h : HR B U V X rs w wr s) => (show wr.heap[w3.heap.size]? = some (.cells #[.int .i64 10000, .bool true, .int .i64 20000, .bool true, .int .i64 0, .bool true] 34 (0, 0)) from h.row 1 _ RS1.out)
    have L3 := Lib.hid fun (wr : World) (s : HS) (h : HR B U V X rs w wr s) => (show wr.heap[w3.heap.size + 1]? = some (.cells #[.int .i64 10000, .bool true, .int .i64 av, .bool true, .int .i64 0, .bool true] 34 (0, 0)) from h.row 2 _ RS2.out)
    obtain ⟨b, hb, hbn⟩ : ∃ b : Nat, c.B = b ∧ 1 ≤ b ∧ b ≤ 3 := ⟨c.B.toNat, by omega, by omega, by omega⟩
    rw [hb] at L1 H7 hB
    rw [hb]
    clear hb
    go_loopw [12] (fun v wr => ∃ (i : Nat) (m : Bool), i ≤ b ∧ v = .int .i64 i ∧ HR B U V X rs w wr (hm b i m) ∧ (i = b → m = true)) (fun v _ => b - (intOf v).toNat)
    case atStart => exact ⟨0, false, by omega, rfl, H7.out, fun h => by omega⟩
    case round =>
      obtain ⟨i, m, hi, rfl, h, hm'⟩ := hrel
      have FH := Lib.hid h
      have FM := Lib.hid hm'
      clear h hm' H7
      have c1 := L1.out _ _ FH.out
      have OK := hm_ok b i m (by omega) hB
      by_cases hlt : i < b
      · go_wp2_with fail
        refine (usableC B U V X _ _ FH.out.src).mono ?_
        rw [show (hm b i m).usable = false by rw [hm_usable]; simp; omega]
        rintro e w' ⟨rfl, rfl⟩
        go_wp2_with (refine wpList_load_row_g rfl 34 _ rfl w3.heap.size rfl 34 _ (0, 0) _ (L2.out _ _ FH.out) Try.underlying34 rfl (by kernel_rfl) ?_)
        refine (FH.out.call ⟨10000, true, 20000, true, 0, true⟩ _ _ (hmg_step _ _ _ (by omega) hB.1) rfl OK.1 OK.2.1 OK.2.2.1 OK.2.2.2).mono ?_
        rintro e w4 ⟨rfl, h4⟩
        have F4 := Lib.hid h4
        clear h4 c1 FH
        go_wp2_with fail
        go_roundw
        case rel => exact ⟨i + 1, true, by omega, by go_num, by simpa using F4.out, fun _ => rfl⟩
        case measure => simp [intOf]; omega
      · obtain rfl : i = b := by omega
        obtain rfl := FM.out rfl
        rw [ff_zero _ hB.1] at FH
        go_wp2_with fail
        refine (usableC B U V X _ _ FH.out.src).mono ?_
        rw [show (ff i 0).usable = true by rw [ff_usable]; simp; omega]
        rintro e w' ⟨rfl, rfl⟩
        go_wp2_with fail
        clear c1 OK
        go_loopw [13] (fun v wr => ∃ j : Nat, j ≤ n ∧ v = .int .i64 j ∧ HR B U V X rs w wr (ff i j)) (fun v _ => n - (intOf v).toNat)
        case atStart => exact ⟨0, by omega, rfl, FH.out⟩
        case round =>
          obtain ⟨j, hj, rfl, h⟩ := hrel
          have GH := Lib.hid h
          clear h FH
          have OK := ff_ok i j (by omega) hB
          by_cases hl2 : j < n
          · go_wp2_with (refine wpList_load_row_g rfl 34 _ rfl (w3.heap.size + 1) rfl 34 _ (0, 0) _ (L3.out _ _ GH.out) Try.underlying34 rfl (by kernel_rfl) ?_)
            refine (GH.out.call ⟨10000, true, av, true, 0, true⟩ _ _ (ff_step _ _ _ (by omega) hB.1 AV.out) rfl OK.1 OK.2.1 OK.2.2.1 OK.2.2.2).mono ?_
            rintro e w4 ⟨rfl, h4⟩
            have F4 := Lib.hid h4
            clear h4 GH
            go_wp2_with fail
            go_roundw
            case rel => exact ⟨j + 1, by omega, by go_num, by simpa using F4.out⟩
            case measure => simp [intOf]; omega
          · obtain rfl : j = n := by omega
            have c1 := L1.out _ _ GH.out
            have EF : (ff i j).failed = decide ((i : Int) ≤ j) := rfl
            have EU := ff_usable i j
            have hG := gg_ff i j (by omega) hB
            obtain ⟨F, hF⟩ : ∃ F, decide (i ≤ j) = F := ⟨_, rfl⟩
            rw [show decide ((i : Int) ≤ j) = F by rw [← hF]; exact decide_eq_decide.2 (by omega)] at EF EU hG
            have HG := Lib.hid hG
            have KU := Lib.hid fun (w : World) h => usableC B U V X (ff i j) w h
            have KF := Lib.hid fun (w : World) h => failedC B U V X (ff i j) w h
            rw [EU] at KU
            rw [EF] at KF
            clear EF EU hG
            generalize ff i j = s0 at *
            cases F
            · go_wp2_with fail
              refine (KF.out _ GH.out.src).mono ?_
              rintro e w' ⟨rfl, rfl⟩
              go_wp2_with fail
              refine (KU.out _ GH.out.src).mono ?_
              rintro e w' ⟨rfl, rfl⟩
              go_wp2_with fail
              clear c1 KU KF OK
              go_loopw [15] (fun v wr => ∃ (k : Nat) (s : HS), k ≤ 3 * i ∧ v = .int .i64 k ∧ HR B U V X rs w wr s ∧ GG i false s) (fun v _ => 3 * i - (intOf v).toNat)
              case atStart => exact ⟨0, _, by omega, rfl, GH.out, HG.out⟩
              case round =>
                obtain ⟨k, s, hk, rfl, h, hg⟩ := hrel
                have PH := Lib.hid h
                have PG := Lib.hid hg
                clear h hg GH HG
                have c1 := L1.out _ _ PH.out
                have OK := gg_ok _ _ _ PG.out
                by_cases hl3 : k < 3 * i
                · go_wp2_with (refine wpList_load_row_g rfl 34 _ rfl w3.heap.size rfl 34 _ (0, 0) _ (L2.out _ _ PH.out) Try.underlying34 rfl (by kernel_rfl) ?_)
                  refine (PH.out.call ⟨10000, true, 20000, true, 0, true⟩ _ _ rfl rfl OK.1 OK.2.1 OK.2.2.1 OK.2.2.2).mono ?_
                  rintro e w4 ⟨rfl, h4⟩
                  have F4 := Lib.hid h4
                  have F5 := Lib.hid (gg_step _ _ _ hB PG.out)
                  clear h4 c1 PH PG
                  go_wp2_with fail
                  go_roundw
                  case rel => exact ⟨k + 1, _, by omega, by go_num, F4.out, F5.out⟩
                  case measure => simp [intOf]; omega
                · have EF := PG.out.failed
                  have EU := gg_usable _ _ _ PG.out
                  have KU := Lib.hid fun (w : World) h => usableC B U V X s w h
                  have KF := Lib.hid fun (w : World) h => failedC B U V X s w h
                  rw [EU] at KU
                  rw [EF] at KF
                  clear EF EU
                  go_wp2_with fail
                  refine (KF.out _ PH.out.src).mono ?_
                  rintro e w' ⟨rfl, rfl⟩
                  go_wp2_with fail
                  refine (KU.out _ PH.out.src).mono ?_
                  rintro e w' ⟨rfl, rfl⟩
                  go_wp2_with fail
                  go_ret
                  exact ⟨rfl, PH.out.below⟩
            · go_wp2_with fail
              refine (KF.out _ GH.out.src).mono ?_
              rintro e w' ⟨rfl, rfl⟩
              go_wp2_with fail
              refine (KU.out _ GH.out.src).mono ?_
              rintro e w' ⟨rfl, rfl⟩
              go_wp2_with fail
              clear c1 KU KF OK
              go_loopw [15] (fun v wr => ∃ (k : Nat) (s : HS), k ≤ 3 * i ∧ v = .int .i64 k ∧ HR B U V X rs w wr s ∧ GG i true s) (fun v _ => 3 * i - (intOf v).toNat)
              case atStart => exact ⟨0, _, by omega, rfl, GH.out, HG.out⟩
              case round =>
                obtain ⟨k, s, hk, rfl, h, hg⟩ := hrel
                have PH := Lib.hid h
                have PG := Lib.hid hg
                clear h hg GH HG
                have c1 := L1.out _ _ PH.out
                have OK := gg_ok _ _ _ PG.out
                by_cases hl3 : k < 3 * i
                · go_wp2_with (refine wpList_load_row_g rfl 34 _ rfl w3.heap.size rfl 34 _ (0, 0) _ (L2.out _ _ PH.out) Try.underlying34 rfl (by kernel_rfl) ?_)
                  refine (PH.out.call ⟨10000, true, 20000, true, 0, true⟩ _ _ rfl rfl OK.1 OK.2.1 OK.2.2.1 OK.2.2.2).mono ?_
                  rintro e w4 ⟨rfl, h4⟩
                  have F4 := Lib.hid h4
                  have F5 := Lib.hid (gg_step _ _ _ hB PG.out)
                  clear h4 c1 PH PG
                  go_wp2_with fail
                  go_roundw
                  case rel => exact ⟨k + 1, _, by omega, by go_num, F4.out, F5.out⟩
                  case measure => simp [intOf]; omega
                · have EF := PG.out.failed
                  have EU := gg_usable _ _ _ PG.out
                  have KU := Lib.hid fun (w : World) h => usableC B U V X s w h
                  have KF := Lib.hid fun (w : World) h => failedC B U V X s w h
                  rw [EU] at KU
                  rw [EF] at KF
                  clear EF EU
                  go_wp2_with fail
                  refine (KF.out _ PH.out.src).mono ?_
                  rintro e w' ⟨rfl, rfl⟩
                  go_wp2_with fail
                  refine (KU.out _ PH.out.src).mono ?_
                  rintro e w' ⟨rfl, rfl⟩
                  go_wp2_with fail
                  go_ret
                  exact ⟨rfl, PH.out.below⟩
end Go.Proofs.Ytcphpaacgkfkbaa
