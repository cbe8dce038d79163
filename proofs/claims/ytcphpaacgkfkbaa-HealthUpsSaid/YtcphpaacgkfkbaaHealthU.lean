/- HealthUps holds: each call returns true. Conditions: the arguments are numbers of 64 bits. -/
import Derived.Test.YtcphpaacgkfkbaaHealthF
import Derived.Deep.CutBlock
namespace Go.Proofs.Ytcphpaacgkfkbaa
open Go.RowKit
set_option linter.unusedVariables false
theorem hmu_step (b i : Int) (m : Bool) (h : 0 ≤ i) (hb : 1 ≤ b) : (hm b i m).step ⟨10000, true, 0, false, 16, true⟩ = hm b (i + 1) true := by
  unfold hm HS.step
  have e1 : upIn 10000 ⟨10000, true, 0, false, 16, true⟩ = true := rfl
  have e2 : overIn 20000 ⟨10000, true, 0, false, 16, true⟩ = false := rfl
  have e3 : badB 16 = false := rfl
  simp only [e1, e2, e3]
  unfold FK.step
  by_cases h1 : i < b
  · by_cases h2 : b ≤ i + 1
    · simp [h1, h2, show ¬ i + 1 < b by omega]
    · simp [h1, h2, show i + 1 < b by omega]
  · simp [h1, show ¬ i + 1 < b by omega]
theorem HR.reach {B U V X : Nat} {rows : List (Nat × Obj)} {w wr : World} {s : HS} (h : HR B U V X rows w wr s) (d : World) : HR B U V X rows w (reach wr.heap.size wr d) s :=
  h.step (h.src.below (reach_below _ _ d)) (Only4.of_below (reach_below _ _ d))
/-- Behind j cycles of volts, or cells, that are not well. -/
def ub (q : Bool) (b j : Int) : HS := ⟨10000, 20000, if q = true then ⟨b, 0, true⟩ else if j < b then ⟨b, j, true⟩ else ⟨b, 0, false⟩, ⟨b, 0, false⟩, if q = true then (if j < b then ⟨b, j, false⟩ else ⟨b, 0, true⟩) else ⟨b, 0, false⟩, false, true⟩
theorem ub_zero (q : Bool) (b : Int) (hb : 1 ≤ b) : hm b b true = ub q b 0 := by
  unfold hm ub
  cases q <;> simp [show (0 : Int) < b by omega]
/-- What is not well. -/
structure Ill (q : Bool) (i : HI) : Prop where
  up : upIn 10000 i = q
  over : overIn 20000 i = false
  sick : badB i.flags = q
  may : i.may = true
theorem ub_step (q : Bool) (b j : Int) (i : HI) (h : 0 ≤ j) (hb : 1 ≤ b) (hi : Ill q i) : (ub q b j).step i = ub q b (j + 1) := by
  unfold ub HS.step
  simp only [hi.up, hi.over, hi.sick, hi.may]
  unfold FK.step
  cases q <;> by_cases h1 : j < b
  · by_cases h2 : b ≤ j + 1
    · simp [h1, h2, show ¬ j + 1 < b by omega]
    · simp [h1, h2, show j + 1 < b by omega]
  · simp [h1, show ¬ j + 1 < b by omega]
  · by_cases h2 : b ≤ j + 1
    · simp [h1, h2, show ¬ j + 1 < b by omega]
    · simp [h1, h2, show j + 1 < b by omega]
  · simp [h1, show ¬ j + 1 < b by omega]
theorem ub_ok (q : Bool) (b j : Int) (h : 0 ≤ j) (hb : 1 ≤ b ∧ b ≤ 3) : (ub q b j).up.Ok ∧ (ub q b j).over.Ok ∧ (ub q b j).sick.Ok ∧ (-1000000 ≤ (ub q b j).trip ∧ (ub q b j).trip ≤ 1000000) := by
  unfold ub FK.Ok
  refine ⟨?_, ⟨Int.le_refl _, show (0 : Int) ≤ 1000000 by omega⟩, ?_, show (-1000000 : Int) ≤ 20000 by omega, show (20000 : Int) ≤ 1000000 by omega⟩
  all_goals
    simp only
    (repeat' split) <;> first | exact ⟨h, show j ≤ 1000000 by omega⟩ | exact ⟨show (0 : Int) ≤ 0 by omega, show (0 : Int) ≤ 1000000 by omega⟩
theorem ub_usable (q : Bool) (b j : Int) : (ub q b j).usable = decide (j < b) := by
  unfold ub HS.usable
  cases q <;> by_cases h1 : j < b <;> simp [h1]
/-- A filter that goes to what is asked of it. -/
structure Goes (b k : Int) (want : Bool) (f : FK) : Prop where
  n : f.n = b
  c : 0 ≤ f.c ∧ f.c ≤ 3
  s : f.s = want ∨ (f = ⟨b, k, !want⟩ ∧ k < b)
theorem Goes.step {b k : Int} {want : Bool} {f : FK} (h : Goes b k want f) (hb : 1 ≤ b ∧ b ≤ 3) (hk : 0 ≤ k) : Goes b (k + 1) want (f.step want) := by
  obtain ⟨n, c, s⟩ := f
  obtain ⟨h1, h2, h3⟩ := h
  simp only at h1 h2 h3
  subst h1
  unfold FK.step
  rcases h3 with rfl | ⟨h3, h4⟩
  · simp
    exact ⟨rfl, ⟨show (0 : Int) ≤ 0 by omega, show (0 : Int) ≤ 3 by omega⟩, .inl rfl⟩
  · simp only [FK.mk.injEq, true_and] at h3
    obtain ⟨rfl, rfl⟩ := h3
    by_cases h5 : n ≤ c + 1
    · simp [h5]
      exact ⟨rfl, ⟨show (0 : Int) ≤ 0 by omega, show (0 : Int) ≤ 3 by omega⟩, .inl rfl⟩
    · simp [h5]
      exact ⟨rfl, ⟨show (0 : Int) ≤ c + 1 by omega, show c + 1 ≤ 3 by omega⟩, .inr ⟨rfl, by omega⟩⟩
/-- Good cycles behind it. -/
structure Heals (b k : Int) (s : HS) : Prop where
  vmin : s.vmin = 10000
  trip : s.trip = 20000
  up : Goes b k true s.up
  over : s.over = ⟨b, 0, false⟩
  sick : Goes b k false s.sick
  failed : s.failed = false
  may : s.may = true
theorem heals_ub (q : Bool) (b j : Int) (h : 0 ≤ j) (hb : 1 ≤ b ∧ b ≤ 3) : Heals b 0 (ub q b j) := by
  unfold ub
  have z : Goes b 0 true ⟨b, 0, true⟩ := ⟨rfl, ⟨show (0 : Int) ≤ 0 by omega, show (0 : Int) ≤ 3 by omega⟩, .inl rfl⟩
  have z' : Goes b 0 false ⟨b, 0, false⟩ := ⟨rfl, ⟨show (0 : Int) ≤ 0 by omega, show (0 : Int) ≤ 3 by omega⟩, .inl rfl⟩
  have y : Goes b 0 true ⟨b, 0, false⟩ := ⟨rfl, ⟨show (0 : Int) ≤ 0 by omega, show (0 : Int) ≤ 3 by omega⟩, .inr ⟨rfl, by omega⟩⟩
  have y' : Goes b 0 false ⟨b, 0, true⟩ := ⟨rfl, ⟨show (0 : Int) ≤ 0 by omega, show (0 : Int) ≤ 3 by omega⟩, .inr ⟨rfl, by omega⟩⟩
  cases q <;> by_cases h1 : j < b <;> simp only [h1, if_true, if_false, Bool.false_eq_true]
  · exact ⟨rfl, rfl, ⟨rfl, ⟨h, show j ≤ 3 by omega⟩, .inl rfl⟩, rfl, z', rfl, rfl⟩
  · exact ⟨rfl, rfl, y, rfl, z', rfl, rfl⟩
  · exact ⟨rfl, rfl, z, rfl, ⟨rfl, ⟨h, show j ≤ 3 by omega⟩, .inl rfl⟩, rfl, rfl⟩
  · exact ⟨rfl, rfl, z, rfl, y', rfl, rfl⟩
theorem heals_step (b k : Int) (s : HS) (hb : 1 ≤ b ∧ b ≤ 3) (hk : 0 ≤ k) (h : Heals b k s) : Heals b (k + 1) (s.step ⟨10000, true, 0, false, 16, true⟩) := by
  obtain ⟨vmin, trip, up, over, sick, failed, may⟩ := s
  obtain ⟨h1, h2, h3, h4, h5, h6, h7⟩ := h
  simp only at h1 h2 h3 h4 h5 h6 h7
  subst h1; subst h2; subst h4; subst h6; subst h7
  unfold HS.step
  have e1 : upIn 10000 ⟨10000, true, 0, false, 16, true⟩ = true := rfl
  have e2 : overIn 20000 ⟨10000, true, 0, false, 16, true⟩ = false := rfl
  have e3 : badB 16 = false := rfl
  have e4 : FK.step ⟨b, 0, false⟩ false = ⟨b, 0, false⟩ := rfl
  simp only [e1, e2, e3, e4]
  exact ⟨rfl, rfl, h3.step hb hk, rfl, h5.step hb hk, rfl, rfl⟩
theorem heals_ok (b k : Int) (s : HS) (h : Heals b k s) : s.up.Ok ∧ s.over.Ok ∧ s.sick.Ok ∧ (-1000000 ≤ s.trip ∧ s.trip ≤ 1000000) := by
  unfold FK.Ok
  rw [h.over, h.trip]
  have := h.up.c
  have := h.sick.c
  exact ⟨by omega, ⟨show (0 : Int) ≤ 0 by omega, show (0 : Int) ≤ 1000000 by omega⟩, by omega, by omega, by omega⟩
theorem heals_usable (b k : Int) (s : HS) (hk : b ≤ k) (h : Heals b k s) : s.usable = true := by
  unfold HS.usable
  have h1 : s.up.s = true := by rcases h.up.s with h | ⟨_, h⟩; exact h; omega
  have h2 : s.sick.s = false := by rcases h.sick.s with h | ⟨_, h⟩; exact h; omega
  rw [h1, h2, h.failed, h.may]
  rfl
set_option maxRecDepth 100000 in
set_option maxHeartbeats 8000000 in
theorem walkHealthUps (a0 : Int) (a1 : Int) (a2 : Int) (a3 : Int) (w : World) (w0 : (Lit.int .i64 a0).wf = true) (w1 : (Lit.int .i64 a1).wf = true) (w2 : (Lit.int .i64 a2).wf = true) (w3 : (Lit.int .i64 a3).wf = true) :
    Calls Try.prog 4 #[.int .i64 a0, .int .i64 a1, .int .i64 a2, .int .i64 a3] w fun e w' => e = .returned (.bool true) ∧ Below w.heap.size w w' := by
  clear w0 w1 w2 w3
  have hB : 1 ≤ (cfgOf (a0 % 1048576) 0 0).B ∧ (cfgOf (a0 % 1048576) 0 0).B ≤ 3 := by unfold cfgOf; simp only; omega
  have N3 := Lib.hid fun (w : World) => numberC a3 (2 * (cfgOf (a0 % 1048576) 0 0).B + 1) (by omega) (by omega) w
  have N2 := Lib.hid fun (w : World) => numberC a2 3 (by omega) (by omega) w
  have N1 := Lib.hid fun (x : Int) (w : World) => numberC x 9000 (by omega) (by omega) w
  obtain ⟨n, hn, hn2⟩ : ∃ n : Nat, a3 % (2 * (cfgOf (a0 % 1048576) 0 0).B + 1) = n ∧ n ≤ 6 := ⟨(a3 % (2 * (cfgOf (a0 % 1048576) 0 0).B + 1)).toNat, by
    have := Int.emod_nonneg a3 (show (2 * (cfgOf (a0 % 1048576) 0 0).B + 1) ≠ 0 by omega)
    omega, by
    have := Int.emod_lt_of_pos a3 (show 0 < (2 * (cfgOf (a0 % 1048576) 0 0).B + 1) by omega)
    omega⟩
  rw [hn] at N3
  clear hn
  have k1 := Int.emod_nonneg a2 (show (3 : Int) ≠ 0 by omega)
  have k2 := Int.emod_lt_of_pos a2 (show (0 : Int) < 3 by omega)
  obtain ⟨kind, hkind⟩ : ∃ x, a2 % 3 = x := ⟨_, rfl⟩
  rw [hkind] at N2 k1 k2
  clear hkind
  go_enter Try.func4, Try.ntmps4
  go_wp2_with fail
  refine (first17 _).mono ?_
  rintro e w1 ⟨rfl, hb⟩
  have B1 := Lib.hid hb
  clear hb
  go_wp2_with fail
  refine (configC _ 0 0 _).mono ?_
  rintro e w2 ⟨O, fa, fl, fc, rfl, hO, hv, hb1⟩
  have B2 := Lib.hid (B1.out.trans (hb1.mono B1.out.size))
  clear hb1 hv hO
  simp only [cfgV]
  rw [show (0 : Int) % 1048576 = 0 from rfl]
  generalize cfgOf (a0 % 1048576) 0 0 = c at *
  go_wp2_with fail
  refine upon_fresh (by simp) rfl (cfgA_one rfl rfl) ?_
  intro W1 b1 s1 h1
  have HC := Lib.hid h1
  have B3 := Lib.hid (B2.out.trans (b1.mono B2.out.size))
  clear h1 b1
  go_wp2_with (refine wpList_load_row_g rfl 26 _ rfl w2.heap.size rfl 26 _ (0, 0) _ HC.out Try.underlying26 rfl (by kernel_rfl) ?_)
  refine (healthNew _ _ _ _).mono ?_
  rintro e w3 ⟨B, U, V, X, rfl, hS, hA, hL, hb3⟩
  have H3 := Lib.hid (Cfg.below HC.out hb3 (Array.getElem?_eq_some_iff.1 HC.out).1)
  have B4 := Lib.hid (B3.out.trans (hb3.mono B3.out.size))
  have hC := (Array.getElem?_eq_some_iff.1 HC.out).1
  have hws := B3.out.size
  rw [newS_hm c hB] at hS
  have HS3 := Lib.hid hS
  have c9 : w3.cell? ⟨w2.heap.size, 9, none⟩ = some (.int .i64 10000) := cell_of_row w3 _ 9 _ _ _ H3.out
  clear hS hb3 HC B3 s1
  obtain ⟨l1, l2, l3, l4⟩ := HS3.out.lts
  have hCw : w2.heap.size < w3.heap.size := (Array.getElem?_eq_some_iff.1 H3.out).1
  have HA := Lib.hid (show Apart B U V X from hA)
  have WC : w.heap.size ≤ w2.heap.size := B2.out.size
  have hBw : w.heap.size ≤ B ∧ w.heap.size ≤ U ∧ w.heap.size ≤ V ∧ w.heap.size ≤ X := by omega
  have NC : w2.heap.size ≠ B ∧ w2.heap.size ≠ U ∧ w2.heap.size ≠ V ∧ w2.heap.size ≠ X := by omega
  clear hA hL
  go_wp2_with fail
  generalize hW : World.alloc w3 _ = W5
  have q5 : W5.heap.size = w3.heap.size + 1 := by rw [← hW]; simp
  have E5 := Lib.hid (show W5.heap[w3.heap.size]? = some (.cells #[.int .i64 10000, .bool true, .int .i64 0, .bool false, .int .i64 16, .bool true] 34 (0, 0)) ∧ Below w3.heap.size w3 W5 by
    rw [← hW]
    exact ⟨heap_alloc_new _ _, (Below.refl _ _).alloc (Nat.le_refl _) _⟩)
  clear hW c9
  have H6 : HR B U V X [(w2.heap.size, .cells (cfgA c (.slice (some ⟨O, 0, none⟩) 4 4) (.slice fa fl fc)) 26 (0, 0)), (w3.heap.size, .cells #[.int .i64 10000, .bool true, .int .i64 0, .bool false, .int .i64 16, .bool true] 34 (0, 0))] w W5 (hm c.B 0 false) := by
    refine ⟨HS3.out.below E5.out.2, HA.out, ?_, ?_, hBw, B4.out.trans (E5.out.2.mono B4.out.size)⟩
    · intro p hp
      simp only [List.mem_cons, List.not_mem_nil, or_false] at hp
      rcases hp with rfl | rfl
      · exact Cfg.below H3.out E5.out.2 hCw
      · exact E5.out.1
    · intro p hp
      simp only [List.mem_cons, List.not_mem_nil, or_false] at hp
      rcases hp with rfl | rfl
      · exact NC
      · show w3.heap.size ≠ B ∧ w3.heap.size ≠ U ∧ w3.heap.size ≠ V ∧ w3.heap.size ≠ X
        omega
  obtain ⟨rs, RS0, RS1, H7⟩ : ∃ rs : List (Nat × Obj), Hid (rs[0]? = some (w2.heap.size, .cells (cfgA c (.slice (some ⟨O, 0, none⟩) 4 4) (.slice fa fl fc)) 26 (0, 0))) ∧ Hid (rs[1]? = some (w3.heap.size, .cells #[.int .i64 10000, .bool true, .int .i64 0, .bool false, .int .i64 16, .bool true] 34 (0, 0))) ∧ Hid (HR B U V X rs w W5 (hm c.B 0 false)) := ⟨_, Lib.hid rfl, Lib.hid rfl, Lib.hid H6⟩
  clear H6 E5 HS3 H3 B4
  have L1 := Lib.hid fun (wr : World) (s : HS) (h : HR B U V X rs w wr s) => (show wr.cell? ⟨w2.heap.size, 1, none⟩ = some (.int .i64 c.B) from cell_of_row _ _ 1 _ _ _ (h.row 0 _ RS0.out))
  have L9 := Lib.hid fun (wr : World) (s : HS) (h : HR B U V X rs w wr s) => (show wr.cell? ⟨w2.heap.size, 9, none⟩ = some (.int .i64 10000) from cell_of_row _ _ 9 _ _ _ (h.row 0 _ RS0.out))
  have L2 := Lib.hid fun (wr : World) (s : HS) (h : HR B U V X rs w wr s) => (show wr.heap[w3.heap.size]? = some (.cells #[.int .i64 10000, .bool true, .int .i64 0, .bool false, .int .i64 16, .bool true] 34 (0, 0)) from h.row 1 _ RS1.out)
  obtain ⟨b, hb, hbn⟩ : ∃ b : Nat, c.B = b ∧ 1 ≤ b ∧ b ≤ 3 := ⟨c.B.toNat, by omega, by omega, by omega⟩
  rw [hb] at L1 H7 hB N3
  have HCB := Lib.hid hb
  clear hb
  go_loopw [13] (fun v wr => ∃ (i : Nat) (m : Bool), i ≤ b ∧ v = .int .i64 i ∧ HR B U V X rs w wr (hm b i m) ∧ (i = b → m = true)) (fun v _ => b - (intOf v).toNat)
  case atStart => exact ⟨0, false, by omega, rfl, H7.out, fun h => by omega⟩
  case round =>
    obtain ⟨i, m, hi, rfl, h, hm'⟩ := hrel
    have FH := Lib.hid h
    have FM := Lib.hid hm'
    clear h hm' H7
    have c1 := L1.out _ _ FH.out
    have OK := hm_ok b i m (by omega) hB
    by_cases hlt : i < b
    · go_upto_region 12 with fail
      have FD := Lib.hid (show HR B U V X rs w wr.drew (hm b i m) from ⟨FH.out.src.other fun _ _ => rfl, FH.out.ap, FH.out.rws, FH.out.off, FH.out.low, FH.out.below.drew⟩)
      have hU : (hm b i m).usable = false := by rw [hm_usable]; simp; omega
      have KU := Lib.hid (usableC B U V X _ _ FD.out.src)
      rw [hU] at KU
      obtain ⟨R, RR⟩ : ∃ R : World → Prop, Hid (∀ w', R w' ↔ HR B U V X rs w w' (hm b (i + 1) true)) := ⟨_, fun _ => Iff.rfl⟩
      have HM := Lib.hid (pick_ind (w0 := wr.drew) (R := R) (M := fun w' => ∃ s, HR B U V X rs w w' s) ⟨_, FD.out⟩ (fun w' h => ⟨_, (RR.out w').1 h⟩))
      have cb : ∀ d, (pickE R wr.drew d).cell? ⟨w2.heap.size, 1, none⟩ = some (.int .i64 b) := fun d => let ⟨s, h⟩ := HM.out d; L1.out _ _ h
      have gr : ∀ d, (pickE R wr.drew d).heap[w3.heap.size]? = some (.cells #[.int .i64 10000, .bool true, .int .i64 0, .bool false, .int .i64 16, .bool true] 34 (0, 0)) := fun d => let ⟨s, h⟩ := HM.out d; L2.out _ _ h
      have y0 : ∀ d, (pickE R wr.drew d).cell? ⟨w3.heap.size, 0, none⟩ = some (.int .i64 10000) := fun d => cell_of_row _ _ 0 _ _ _ (gr d)
      have y1 : ∀ d, (pickE R wr.drew d).cell? ⟨w3.heap.size, 1, none⟩ = some (.bool true) := fun d => cell_of_row _ _ 1 _ _ _ (gr d)
      have y2 : ∀ d, (pickE R wr.drew d).cell? ⟨w3.heap.size, 2, none⟩ = some (.int .i64 0) := fun d => cell_of_row _ _ 2 _ _ _ (gr d)
      have y3 : ∀ d, (pickE R wr.drew d).cell? ⟨w3.heap.size, 3, none⟩ = some (.bool false) := fun d => cell_of_row _ _ 3 _ _ _ (gr d)
      have y4 : ∀ d, (pickE R wr.drew d).cell? ⟨w3.heap.size, 4, none⟩ = some (.int .i64 16) := fun d => cell_of_row _ _ 4 _ _ _ (gr d)
      have y5 : ∀ d, (pickE R wr.drew d).cell? ⟨w3.heap.size, 5, none⟩ = some (.bool true) := fun d => cell_of_row _ _ 5 _ _ _ (gr d)
      have KS := Lib.hid fun (u : Bool) (hu : (hm b (i + 1) true).usable = u) => (FD.out.call ⟨10000, true, 0, false, 16, true⟩ _ _ (hmu_step _ _ _ (by omega) hB.1) hu OK.1 OK.2.1 OK.2.2.1 OK.2.2.2).mono fun e w' h => (⟨h.1, (RR.out w').2 h.2⟩ : e = .returned (.bool u) ∧ R w')
      clear gr
      refine wp_region_ph2 5 99 (one wr.drew R) (by kernel_rfl) (by kernel_rfl) (by kernel_rfl) (by kernel_rfl) rfl ?_
      iterate 1 (refine ph_val one_pick (by kernel_rfl) (by kernel_rfl) (by kernel_rfl) (by kernel_rfl) ?_; intro K hK; go_big_quiet_op; go_big_quiet_on)
      refine ph_call1 3 (.bool false) (by kernel_rfl) (by kernel_rfl) (by kernel_rfl) (by kernel_rfl) (fun c' w' hw' => ?_) ?_
      · obtain rfl : w' = wr.drew := hw'
        exact phAt_call Try.func16 (by kernel_rfl) (by kernel_rfl) #[.pointer (some ⟨B, 0, none⟩)] (by kernel_rfl) (KU.out.mono fun e w' h => ⟨h.1, h.2.symm⟩)
      simp only [Act.put, List.setIfInBounds_toArray, List.set_cons_succ, List.set_cons_zero]
      iterate 3 (refine ph_val one_pick (by kernel_rfl) (by kernel_rfl) (by kernel_rfl) (by kernel_rfl) ?_; intro K hK; go_big_quiet_op; go_big_quiet_on)
      by_cases hla : i + 1 = b
      · have he : ((i : Int) == (b : Int) - 1) = true := by rw [beq_iff_eq]; omega
        refine ph_w1 (.bool true) (by kernel_rfl) (by kernel_rfl) (by kernel_rfl) (by kernel_rfl) (fun c' w' hw' => ?_) ?_
        · obtain rfl : w' = wr.drew := hw'
          exact phAt_call Try.func17 (by kernel_rfl) (by kernel_rfl) #[.pointer (some ⟨B, 0, none⟩), .agg #[.int .i64 10000, .bool true, .int .i64 0, .bool false, .int .i64 16, .bool true]] (by kernel_rfl) (KS.out true (by rw [hm_usable]; simp; omega))
        simp only [Act.put, List.setIfInBounds_toArray, List.set_cons_succ, List.set_cons_zero]
        iterate 7 (refine ph_val one_pick (by kernel_rfl) (by kernel_rfl) (by kernel_rfl) (by kernel_rfl) ?_; intro K hK; go_big_quiet_op; go_big_quiet_on)
        refine ph_end ?_
        intro w' hw'
        have G5 := Lib.hid ((RR.out w').1 hw')
        clear y0 y1 y2 y3 y4 y5 cb hw' he
        go_wp2_with fail
        go_roundw
        case rel => exact ⟨i + 1, true, by omega, by go_num, by simpa using G5.out, fun _ => rfl⟩
        case measure => simp [intOf]; omega
      · have he : ((i : Int) == (b : Int) - 1) = false := by rw [beq_eq_false_iff_ne]; omega
        refine ph_w1 (.bool false) (by kernel_rfl) (by kernel_rfl) (by kernel_rfl) (by kernel_rfl) (fun c' w' hw' => ?_) ?_
        · obtain rfl : w' = wr.drew := hw'
          exact phAt_call Try.func17 (by kernel_rfl) (by kernel_rfl) #[.pointer (some ⟨B, 0, none⟩), .agg #[.int .i64 10000, .bool true, .int .i64 0, .bool false, .int .i64 16, .bool true]] (by kernel_rfl) (KS.out false (by rw [hm_usable]; simp; omega))
        simp only [Act.put, List.setIfInBounds_toArray, List.set_cons_succ, List.set_cons_zero]
        iterate 7 (refine ph_val one_pick (by kernel_rfl) (by kernel_rfl) (by kernel_rfl) (by kernel_rfl) ?_; intro K hK; go_big_quiet_op; go_big_quiet_on)
        refine ph_end ?_
        intro w' hw'
        have G5 := Lib.hid ((RR.out w').1 hw')
        clear y0 y1 y2 y3 y4 y5 cb hw' he
        go_wp2_with fail
        go_roundw
        case rel => exact ⟨i + 1, true, by omega, by go_num, by simpa using G5.out, fun _ => rfl⟩
        case measure => simp [intOf]; omega
    · obtain rfl : i = b := by omega
      obtain rfl := FM.out rfl
      have c9 := L9.out _ _ FH.out
      clear FM
      go_wp2_with (refine wpList_load_row_g rfl 34 _ rfl w3.heap.size rfl 34 _ (0, 0) _ (L2.out _ _ FH.out) Try.underlying34 rfl (by kernel_rfl) ?_)
      refine (N2.out _).mono ?_
      rintro e w' ⟨rfl, rfl⟩
      generalize hW6 : World.alloc wr _ = W6
      have E6 := Lib.hid (show W6.heap[wr.heap.size]? = some (.cells #[.int .i64 10000, .bool true, .int .i64 0, .bool false, .int .i64 16, .bool true] 34 (0, 0)) ∧ Below wr.heap.size wr W6 by
        rw [← hW6]
        exact ⟨heap_alloc_new _ _, (Below.refl _ _).alloc (Nat.le_refl _) _⟩)
      clear hW6
      have hz := (Array.getElem?_eq_some_iff.1 E6.out.1).1
      have hcz : w2.heap.size < wr.heap.size := (Array.getElem?_eq_some_iff.1 (FH.out.row 0 _ RS0.out)).1
      have hrz : ∀ p ∈ rs, p.1 < wr.heap.size := fun p hp => (Array.getElem?_eq_some_iff.1 (FH.out.rws p hp)).1
      have HRZ := Lib.hid hrz
      clear hrz c1
      obtain ⟨m1, m2, m3, m4⟩ := FH.out.src.lts
      have hlz := FH.out.below.size
      have F6 := Lib.hid (show HR B U V X rs w W6 (hm i i true) from ⟨FH.out.src.below E6.out.2, FH.out.ap, fun p hp => (E6.out.2.block _ (HRZ.out p hp)).trans (FH.out.rws p hp), FH.out.off, FH.out.low, FH.out.below.trans (E6.out.2.mono hlz)⟩)
      generalize wr.heap.size = Z at *
      go_upto_block 2 with fail
      go_cut [] (fun wx => ∃ (ib : HI) (q : Bool), Ill q ib ∧ inRow ib wx Z ∧ HR B U V X rs w wx (hm i i true))
      case first =>
        have FIN := Lib.hid (show ∀ (ib : HI) (q : Bool) (W7 W8 : World) (o : Nat) (v : Value), Ill q ib → Below W6.heap.size W6 W7 → W7.setCell ⟨Z, o, none⟩ v = W8 → inRow ib W8 Z → ∃ (ib : HI) (q : Bool), Ill q ib ∧ inRow ib W8 Z ∧ HR B U V X rs w W8 (hm i i true) from fun ib q W7 W8 o v hq hb7 h8 hr8 => by
          subst h8
          refine ⟨ib, q, hq, hr8, (F6.out.src.below hb7).other fun k hk => heap_setCell_other _ ⟨Z, o, none⟩ _ _ (show k ≠ Z by rcases hk with rfl | rfl | rfl | rfl <;> omega), F6.out.ap, fun p hp => (heap_setCell_other _ ⟨_, _, _⟩ _ _ (Nat.ne_of_lt (HRZ.out p hp))).trans ((hb7.block _ (Nat.lt_trans (HRZ.out p hp) hz)).trans (F6.out.rws p hp)), F6.out.off, F6.out.low, (F6.out.below.trans (hb7.mono F6.out.below.size)).setCell (p := ⟨Z, o, none⟩) hlz _⟩)
        have row0 : ∀ (W7 : World) (o : Nat) (v : Value), Below W6.heap.size W6 W7 → (W7.setCell ⟨Z, o, none⟩ v).heap[Z]? = some (.cells (Array.setIfInBounds #[.int .i64 10000, .bool true, .int .i64 0, .bool false, .int .i64 16, .bool true] o v) 34 (0, 0)) := fun W7 o v hb7 => by
          have := (hb7.block _ hz).trans E6.out.1
          simp [World.setCell, Array.getElem?_modify, this]
        have RW := Lib.hid row0
        clear row0
        obtain rfl | rfl | rfl : kind = 0 ∨ kind = 1 ∨ kind = 2 := by omega
        · have d9 : W6.cell? ⟨w2.heap.size, 9, none⟩ = some (.int .i64 10000) := L9.out _ _ F6.out
          have p0 : W6.cell? ⟨Z, 0, none⟩ = some (.int .i64 10000) := cell_of_row _ _ 0 _ _ _ E6.out.1
          have K1 := Lib.hid (N1.out (bits .and .i64 a1 65535))
          have x1 := Int.emod_nonneg (bits .and .i64 a1 65535) (show (9000 : Int) ≠ 0 by omega)
          have x2 := Int.emod_lt_of_pos (bits .and .i64 a1 65535) (show (0 : Int) < 9000 by omega)
          generalize bits .and .i64 a1 65535 % 9000 = x at *
          go_upto_region 18 with fail
          refine wp_region_tailR W6.heap.size 9 (by kernel_rfl) (by kernel_rfl) ?_
          have d9' := fun d => reach_cell (B := W6.heap.size) d9 (Nat.lt_trans hcz hz) d
          have p0' := fun d => reach_cell (B := W6.heap.size) p0 hz d
          have f0' : ∀ d, (reach W6.heap.size W6 d).frozen? ⟨Z, 0, none⟩ = false := fun d => by have := ((reach_below W6.heap.size W6 d).block _ hz).trans E6.out.1; simp [World.frozen?, this]
          simp only [List.take_succ_cons, List.take_zero, List.drop_succ_cons, List.drop_zero]
          repeat (go_big_quiet_step ((go_at_call 14; with_reducible exact reach_call0 (K1.out _))))
          refine wpQuiet_nil ?_
          rintro w' ⟨d, rfl⟩
          go_wp2_with fail
          go_meet
          exact FIN.out ⟨9999 - x, true, 0, false, 16, true⟩ false _ _ _ _ ⟨by unfold upIn; simp; omega, rfl, show badB 16 = false from rfl, rfl⟩ (reach_below _ _ d) rfl (RW.out _ _ _ (reach_below _ _ d))
        · have p1 : W6.cell? ⟨Z, 1, none⟩ = some (.bool true) := cell_of_row _ _ 1 _ _ _ E6.out.1
          have f1 : W6.frozen? ⟨Z, 1, none⟩ = false := by have := E6.out.1; simp [World.frozen?, this]
          go_wp2_with fail
          go_meet
          exact FIN.out ⟨10000, false, 0, false, 16, true⟩ false _ _ _ _ ⟨rfl, rfl, rfl, rfl⟩ (Below.refl _ _) rfl (RW.out _ _ _ (Below.refl _ _))
        · have p4 : W6.cell? ⟨Z, 4, none⟩ = some (.int .i64 16) := cell_of_row _ _ 4 _ _ _ E6.out.1
          have f4 : W6.frozen? ⟨Z, 4, none⟩ = false := by have := E6.out.1; simp [World.frozen?, this]
          go_wp2_with fail
          go_meet
          exact FIN.out ⟨10000, true, 0, false, 8, true⟩ true _ _ _ _ ⟨rfl, rfl, rfl, rfl⟩ (Below.refl _ _) rfl (RW.out _ _ _ (Below.refl _ _))
      case rest =>
      obtain ⟨ib, q, hq, hr7, h7⟩ := hcut
      have hZo : Z ≠ B ∧ Z ≠ U ∧ Z ≠ V ∧ Z ≠ X := by omega
      have H8 : HR B U V X ((Z, .cells #[.int .i64 ib.vv, .bool ib.vf, .int .i64 ib.av, .bool ib.af, .int .i64 ib.flags, .bool ib.may] 34 (0, 0)) :: rs) w wc (hm i i true) := by
        refine ⟨h7.src, h7.ap, fun p hp => ?_, fun p hp => ?_, h7.low, h7.below⟩
        · rcases List.mem_cons.1 hp with rfl | hp
          · exact hr7
          · exact h7.rws p hp
        · rcases List.mem_cons.1 hp with rfl | hp
          · exact hZo
          · exact h7.off p hp
      rw [ub_zero q _ hB.1] at H8
      have HQ := Lib.hid hq
      obtain ⟨r2, R2, R3, R4, H9⟩ : ∃ r2 : List (Nat × Obj), Hid (r2[0]? = some (Z, .cells #[.int .i64 ib.vv, .bool ib.vf, .int .i64 ib.av, .bool ib.af, .int .i64 ib.flags, .bool ib.may] 34 (0, 0))) ∧ Hid (r2[1]? = some (w2.heap.size, .cells (cfgA c (.slice (some ⟨O, 0, none⟩) 4 4) (.slice fa fl fc)) 26 (0, 0))) ∧ Hid (r2[2]? = some (w3.heap.size, .cells #[.int .i64 10000, .bool true, .int .i64 0, .bool false, .int .i64 16, .bool true] 34 (0, 0))) ∧ Hid (HR B U V X r2 w wc (ub q i 0)) := ⟨_, Lib.hid rfl, Lib.hid RS0.out, Lib.hid RS1.out, Lib.hid H8⟩
      clear hq hr7 h7 H8 F6 E6 HRZ FH RS0 RS1 L1 L2 L9 OK c9 m1 m2 m3 m4 hz hcz hlz hZo
      have L1 := Lib.hid fun (wr : World) (s : HS) (h : HR B U V X r2 w wr s) => (show wr.cell? ⟨w2.heap.size, 1, none⟩ = some (.int .i64 i) from by rw [← HCB.out]; exact cell_of_row _ _ 1 _ _ _ (h.row 1 _ R3.out))
      have L2 := Lib.hid fun (wr : World) (s : HS) (h : HR B U V X r2 w wr s) => (show wr.heap[w3.heap.size]? = some (.cells #[.int .i64 10000, .bool true, .int .i64 0, .bool false, .int .i64 16, .bool true] 34 (0, 0)) from h.row 2 _ R4.out)
      have L3 := Lib.hid fun (wr : World) (s : HS) (h : HR B U V X r2 w wr s) => (show wr.heap[Z]? = some (.cells #[.int .i64 ib.vv, .bool ib.vf, .int .i64 ib.av, .bool ib.af, .int .i64 ib.flags, .bool ib.may] 34 (0, 0)) from h.row 0 _ R2.out)
      have c1 := L1.out _ _ H9.out
      go_wp2_with fail
      refine (N3.out _).mono ?_
      rintro e w' ⟨rfl, rfl⟩
      go_wp2_with fail
      go_loopw [15] (fun v wr => ∃ j : Nat, j ≤ n ∧ v = .int .i64 j ∧ HR B U V X r2 w wr (ub q i j)) (fun v _ => n - (intOf v).toNat)
      case atStart => exact ⟨0, by omega, rfl, H9.out⟩
      case round =>
        obtain ⟨j, hj, rfl, h⟩ := hrel
        have GH := Lib.hid h
        clear h H9 c1
        have OK := ub_ok q i j (by omega) hB
        by_cases hl2 : j < n
        · go_wp2_with (refine wpList_load_row_g rfl 34 _ rfl Z rfl 34 _ (0, 0) _ (L3.out _ _ GH.out) Try.underlying34 rfl (by kernel_rfl) ?_)
          refine (GH.out.call ib _ _ (ub_step q _ _ ib (by omega) hB.1 HQ.out) rfl OK.1 OK.2.1 OK.2.2.1 OK.2.2.2).mono ?_
          rintro e w4 ⟨rfl, h4⟩
          have F4 := Lib.hid h4
          have c1 := L1.out _ _ h4
          clear h4 GH
          have KU := Lib.hid fun (w : World) h => usableC B U V X (ub q i (j + 1)) w h
          rw [ub_usable] at KU
          obtain ⟨t, ht⟩ : ∃ t, decide (((j : Int) + 1) < (i : Int)) = t := ⟨_, rfl⟩
          rw [ht] at KU
          have hcz : w2.heap.size < w4.heap.size := (Array.getElem?_eq_some_iff.1 (F4.out.row 1 _ R3.out)).1
          cases t
          all_goals
            go_upto_region 26 with fail
            have c1' := fun d => reach_cell (B := w4.heap.size) c1 hcz d
            have KU' := Lib.hid fun d => KU.out _ (F4.out.reach d).src
            refine wp_region_reach w4.heap.size (by kernel_rfl) (by kernel_rfl) ?_
            repeat (go_big_quiet_step ((go_at_call 16; with_reducible exact reach_call0 (KU'.out _))))
            refine wpQuiet_nil ?_
            rintro w' ⟨d, rfl⟩
            have F5 := Lib.hid (F4.out.reach d)
            clear c1' KU' KU F4
            go_wp2_with fail
            go_roundw
            case rel => exact ⟨j + 1, by omega, by go_num, by simpa using F5.out⟩
            case measure => simp [intOf]; omega
        · obtain rfl : j = n := by omega
          have HG := Lib.hid (heals_ub q i j (by omega) hB)
          clear OK
          generalize ub q i j = s0 at *
          go_wp2_with fail
          go_loopw [16] (fun v wr => ∃ (k : Nat) (s : HS), k ≤ 2 * i ∧ v = .int .i64 k ∧ HR B U V X r2 w wr s ∧ Heals i k s) (fun v _ => 2 * i - (intOf v).toNat)
          case atStart => exact ⟨0, _, by omega, rfl, GH.out, HG.out⟩
          case round =>
            obtain ⟨k, s, hk, rfl, h, hg⟩ := hrel
            have PH := Lib.hid h
            have PG := Lib.hid hg
            clear h hg GH HG
            have c1 := L1.out _ _ PH.out
            have OK := heals_ok _ _ _ PG.out
            by_cases hl3 : k < 2 * i
            · go_wp2_with (refine wpList_load_row_g rfl 34 _ rfl w3.heap.size rfl 34 _ (0, 0) _ (L2.out _ _ PH.out) Try.underlying34 rfl (by kernel_rfl) ?_)
              refine (PH.out.call ⟨10000, true, 0, false, 16, true⟩ _ _ rfl rfl OK.1 OK.2.1 OK.2.2.1 OK.2.2.2).mono ?_
              rintro e w4 ⟨rfl, h4⟩
              have F4 := Lib.hid h4
              have F5 := Lib.hid (heals_step _ _ _ hB (by omega) PG.out)
              clear h4 c1 PH PG
              go_wp2_with fail
              go_roundw
              case rel => exact ⟨k + 1, _, by omega, by go_num, F4.out, by simpa using F5.out⟩
              case measure => simp [intOf]; omega
            · have EF := PG.out.failed
              have EU := heals_usable _ _ _ (by omega) PG.out
              have KU := Lib.hid fun (w : World) h => usableC B U V X s w h
              have KF := Lib.hid fun (w : World) h => failedC B U V X s w h
              rw [EU] at KU
              rw [EF] at KF
              clear EF EU
              go_wp2_with fail
              refine (KU.out _ PH.out.src).mono ?_
              rintro e w' ⟨rfl, rfl⟩
              go_wp2_with fail
              refine (KF.out _ PH.out.src).mono ?_
              rintro e w' ⟨rfl, rfl⟩
              go_wp2_with fail
              go_ret
              exact ⟨rfl, PH.out.below⟩
end Go.Proofs.Ytcphpaacgkfkbaa
