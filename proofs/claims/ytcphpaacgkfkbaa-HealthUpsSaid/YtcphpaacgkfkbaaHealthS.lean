/- A source's step, by plain definitions. Conditions: the filters' counts and the trip are small. -/
import Derived.Test.YtcphpaacgkfkbaaHealth
import Derived.Test.YtcphpaacgkfkbaaTail
import Derived.BigQuiet
import Derived.Deep.DeepCutAuto
set_option linter.unusedVariables false
namespace Go.Proofs.Ytcphpaacgkfkbaa
open Go.RowKit
def upIn (vmin : Int) (i : HI) : Bool := i.vf && decide (vmin ≤ i.vv)
def overIn (trip : Int) (i : HI) : Bool := i.af && (decide (trip < i.av) || decide (i.av < -trip))
def HS.step (s : HS) (i : HI) : HS := ⟨s.vmin, s.trip, s.up.step (upIn s.vmin i), s.over.step (overIn s.trip i), s.sick.step (badB i.flags), s.failed || (s.over.step (overIn s.trip i)).s, i.may⟩
theorem Src.lts {w : World} {B U V X : Nat} {s : HS} (h : Src w B U V X s) : B < w.heap.size ∧ U < w.heap.size ∧ V < w.heap.size ∧ X < w.heap.size :=
  ⟨(Array.getElem?_eq_some_iff.1 h.row).1, h.up.lt, h.over.lt, h.sick.lt⟩
def FK.Ok (k : FK) : Prop := 0 ≤ k.c ∧ k.c ≤ 1000000
def inRow (i : HI) (w : World) (b : Nat) : Prop := w.heap[b]? = some (.cells #[.int .i64 i.vv, .bool i.vf, .int .i64 i.av, .bool i.af, .int .i64 i.flags, .bool i.may] 34 (0, 0))
/-- On the way through a step: the source, what was there, what the cycle shows. -/
structure HW (B U V X Z : Nat) (i : HI) (w wx : World) (s : HS) : Prop where
  src : Src wx B U V X s
  only : Only4 B U V X w wx
  row : inRow i wx Z
theorem HW.reach {B U V X Z : Nat} {i : HI} {w W0 : World} {s : HS} (h : HW B U V X Z i w W0 s) (d : World) : HW B U V X Z i w (reach W0.heap.size W0 d) s :=
  ⟨h.src.below (reach_below _ _ d), h.only.trans (Only4.of_below (reach_below _ _ d)), ((reach_below _ _ d).block _ (Array.getElem?_eq_some_iff.1 h.row).1).trans h.row⟩
theorem HW.cells {B U V X Z : Nat} {i : HI} {w W : World} {s : HS} (h : HW B U V X Z i w W s) :
    W.cell? ⟨B, 0, none⟩ = some (.int .i64 s.vmin) ∧ W.cell? ⟨B, 1, none⟩ = some (.int .i64 s.trip) ∧ W.cell? ⟨B, 2, none⟩ = some (.pointer (some ⟨U, 0, none⟩)) ∧ W.cell? ⟨B, 3, none⟩ = some (.pointer (some ⟨V, 0, none⟩)) ∧ W.cell? ⟨B, 4, none⟩ = some (.pointer (some ⟨X, 0, none⟩)) ∧ W.frozen? ⟨B, 6, none⟩ = false ∧
    W.cell? ⟨Z, 0, none⟩ = some (.int .i64 i.vv) ∧ W.cell? ⟨Z, 1, none⟩ = some (.bool i.vf) ∧ W.cell? ⟨Z, 2, none⟩ = some (.int .i64 i.av) ∧ W.cell? ⟨Z, 3, none⟩ = some (.bool i.af) ∧ W.cell? ⟨Z, 4, none⟩ = some (.int .i64 i.flags) ∧ W.cell? ⟨Z, 5, none⟩ = some (.bool i.may) := by
  obtain ⟨c0, c1, c2, c3, c4, c5, c6, cf⟩ := h.src.cells
  exact ⟨c0, c1, c2, c3, c4, cf 6, cell_of_row W _ 0 _ _ _ h.row, cell_of_row W _ 1 _ _ _ h.row, cell_of_row W _ 2 _ _ _ h.row, cell_of_row W _ 3 _ _ _ h.row, cell_of_row W _ 4 _ _ _ h.row, cell_of_row W _ 5 _ _ _ h.row⟩
theorem HW.onU {B U V X Z : Nat} {i : HI} {w W W' : World} {s : HS} (h : HW B U V X Z i w W s) (hA : Apart B U V X) (hZ : Z ≠ U) (ho : Only U W W') (k : FK) (hk : Fl W' U k) : HW B U V X Z i w W' { s with up := k } :=
  ⟨h.src.onU hA ho k hk, h.only.trans (Only4.ofU ho), ho.row h.row hZ⟩
theorem HW.onV {B U V X Z : Nat} {i : HI} {w W W' : World} {s : HS} (h : HW B U V X Z i w W s) (hA : Apart B U V X) (hZ : Z ≠ V) (ho : Only V W W') (k : FK) (hk : Fl W' V k) : HW B U V X Z i w W' { s with over := k } :=
  ⟨h.src.onV hA ho k hk, h.only.trans (Only4.ofV ho), ho.row h.row hZ⟩
theorem HW.onX {B U V X Z : Nat} {i : HI} {w W W' : World} {s : HS} (h : HW B U V X Z i w W s) (hA : Apart B U V X) (hZ : Z ≠ X) (ho : Only X W W') (k : FK) (hk : Fl W' X k) : HW B U V X Z i w W' { s with sick := k } :=
  ⟨h.src.onX hA ho k hk, h.only.trans (Only4.ofX ho), ho.row h.row hZ⟩
set_option maxHeartbeats 8000000 in
theorem healthStep (B U V X : Nat) (s : HS) (i : HI) (hA : Apart B U V X) (hu : s.up.Ok) (ho : s.over.Ok) (hs : s.sick.Ok) (ht : -1000000 ≤ s.trip ∧ s.trip ≤ 1000000) (w : World) (h : Src w B U V X s) :
    Calls Try.prog 17 #[.pointer (some ⟨B, 0, none⟩), i.v] w fun e w' => e = .returned (.bool (s.step i).usable) ∧ Src w' B U V X (s.step i) ∧ Only4 B U V X w w' := by
  unfold HI.v
  go_enter Try.func17, Try.ntmps17
  go_upto_region 1 with fail
  generalize hW : World.alloc w _ = W0
  obtain ⟨hrow, hb0⟩ : inRow i W0 w.heap.size ∧ Below w.heap.size w W0 := by
    rw [← hW]
    exact ⟨heap_alloc_new _ _, (Below.refl _ _).alloc (Nat.le_refl _) _⟩
  clear hW
  obtain ⟨l1, l2, l3, l4⟩ := h.lts
  have N1 : w.heap.size ≠ B := by omega
  have N2 : w.heap.size ≠ U := by omega
  have N3 : w.heap.size ≠ V := by omega
  have N4 : w.heap.size ≠ X := by omega
  have HH := Lib.hid (show HW B U V X w.heap.size i w W0 s from ⟨h.below hb0, Only4.of_below hb0, hrow⟩)
  clear hb0 h l1 l2 l3 l4 hrow
  generalize w.heap.size = Z at *
  go_cut [] (fun wx => HW B U V X Z i w wx { s with up := s.up.step (upIn s.vmin i) })
  case first =>
    have K := Lib.hid fun (b : Bool) (w : World) h => stepC U s.up b hu.1 hu.2 w h
    have FIN := Lib.hid (show upIn s.vmin i = (i.vf && decide (s.vmin ≤ i.vv)) from rfl)
    have y1 := fun d => (HH.out.reach d).cells.2.2.2.2.2.2.2.1
    obtain ⟨t, hvf⟩ : ∃ t, i.vf = t := ⟨_, rfl⟩
    rw [hvf] at FIN
    simp only [hvf] at y1
    clear hvf
    have x0 := fun d => (HH.out.reach d).cells.1
    have x2 := fun d => (HH.out.reach d).cells.2.2.1
    have y0 := fun d => (HH.out.reach d).cells.2.2.2.2.2.2.1
    cases t
    all_goals
      simp only [Bool.false_and, Bool.true_and] at FIN
      refine wp_region_tailR W0.heap.size 17 (by kernel_rfl) (by kernel_rfl) ?_
      simp only [List.take_succ_cons, List.take_zero, List.drop_succ_cons, List.drop_zero]
      repeat (go_big_quiet_step (fail))
      refine wpQuiet_nil ?_
      rintro w' ⟨d, rfl⟩
      go_wp2_with fail
      refine (K.out _ _ (HH.out.reach d).src.up).mono ?_
      rintro e w1 ⟨rfl, hF, hO⟩
      have hQ := (HH.out.reach d).onU hA N2 hO _ hF
      clear hF hO
      go_wp2_with fail
      go_meet
      rw [FIN.out]
      exact hQ
  case rest =>
  have H1 := Lib.hid hcut
  clear hcut HH
  obtain ⟨up', hup⟩ : ∃ k, s.up.step (upIn s.vmin i) = k := ⟨_, rfl⟩
  rw [hup] at H1
  have HUP := Lib.hid hup
  clear hup
  go_upto_region 2 with fail
  go_cut [] (fun wx => HW B U V X Z i w wx { s with up := up', sick := s.sick.step (badB i.flags) })
  case first =>
    have K := Lib.hid fun (b : Bool) (w : World) h => stepC X s.sick b hs.1 hs.2 w h
    have KB := Lib.hid fun (w : World) => badC i.flags w
    generalize badB i.flags = bb at *
    have x4 := fun d => (H1.out.reach d).cells.2.2.2.2.1
    have y4 := fun d => (H1.out.reach d).cells.2.2.2.2.2.2.2.2.2.2.1
    refine wp_region_tailR wc.heap.size 7 (by kernel_rfl) (by kernel_rfl) ?_
    simp only [List.take_succ_cons, List.take_zero, List.drop_succ_cons, List.drop_zero]
    repeat (go_big_quiet_step ((go_at_call 41; with_reducible exact reach_call0 (KB.out _))))
    refine wpQuiet_nil ?_
    rintro w' ⟨d, rfl⟩
    go_wp2_with fail
    refine (K.out _ _ (H1.out.reach d).src.sick).mono ?_
    rintro e w1 ⟨rfl, hF, hO⟩
    have hQ := (H1.out.reach d).onX hA N4 hO _ hF
    clear hF hO
    go_wp2_with fail
    go_meet
    exact hQ
  case rest =>
  have H2 := Lib.hid hcut
  clear hcut H1
  obtain ⟨sick', hsk⟩ : ∃ k, s.sick.step (badB i.flags) = k := ⟨_, rfl⟩
  rw [hsk] at H2
  have HSK := Lib.hid hsk
  clear hsk
  go_upto_region 3 with fail
  go_cut [59] (fun b wx => b = .bool (s.over.step (overIn s.trip i)).s ∧ HW B U V X Z i w wx { s with up := up', sick := sick', over := s.over.step (overIn s.trip i) })
  case first =>
    have K := Lib.hid fun (b : Bool) (w : World) h => stepC V s.over b ho.1 ho.2 w h
    have FIN := Lib.hid (show overIn s.trip i = (i.af && (decide (s.trip < i.av) || decide (i.av < -s.trip))) from rfl)
    have y3 := fun d => (H2.out.reach d).cells.2.2.2.2.2.2.2.2.2.1
    obtain ⟨t, hvf⟩ : ∃ t, i.af = t := ⟨_, rfl⟩
    rw [hvf] at FIN
    simp only [hvf] at y3
    clear hvf
    have x1 := fun d => (H2.out.reach d).cells.2.1
    have x3 := fun d => (H2.out.reach d).cells.2.2.2.1
    have y2 := fun d => (H2.out.reach d).cells.2.2.2.2.2.2.2.2.1
    have nb : -1000000 ≤ -s.trip ∧ -s.trip ≤ 1000000 := by omega
    cases t
    · simp only [Bool.false_and] at FIN
      refine wp_region_tailR wc.heap.size 28 (by kernel_rfl) (by kernel_rfl) ?_
      simp only [List.take_succ_cons, List.take_zero, List.drop_succ_cons, List.drop_zero]
      repeat (go_big_quiet_step (fail))
      refine wpQuiet_nil ?_
      rintro w' ⟨d, rfl⟩
      go_wp2_with fail
      refine (K.out _ _ (H2.out.reach d).src.over).mono ?_
      rintro e w1 ⟨rfl, hF, hO⟩
      have hQ := (H2.out.reach d).onV hA N3 hO _ hF
      clear hF hO
      go_wp2_with fail
      go_meet
      rw [FIN.out]
      exact ⟨rfl, hQ⟩
    · simp only [Bool.true_and] at FIN
      by_cases hgt : s.trip < i.av
      · rw [decide_eq_true hgt, Bool.true_or] at FIN
        refine wp_region_tailR wc.heap.size 28 (by kernel_rfl) (by kernel_rfl) ?_
        simp only [List.take_succ_cons, List.take_zero, List.drop_succ_cons, List.drop_zero]
        repeat (go_big_quiet_step (fail))
        refine wpQuiet_nil ?_
        rintro w' ⟨d, rfl⟩
        go_wp2_with fail
        refine (K.out _ _ (H2.out.reach d).src.over).mono ?_
        rintro e w1 ⟨rfl, hF, hO⟩
        have hQ := (H2.out.reach d).onV hA N3 hO _ hF
        clear hF hO
        go_wp2_with fail
        go_meet
        rw [FIN.out]
        exact ⟨rfl, hQ⟩
      · have hd : decide (s.trip < i.av) = false := decide_eq_false hgt
        rw [hd, Bool.false_or] at FIN
        refine wp_region_tailR wc.heap.size 28 (by kernel_rfl) (by kernel_rfl) ?_
        simp only [List.take_succ_cons, List.take_zero, List.drop_succ_cons, List.drop_zero]
        repeat (go_big_quiet_step (fail))
        refine wpQuiet_nil ?_
        rintro w' ⟨d, rfl⟩
        go_wp2_with fail
        refine (K.out _ _ (H2.out.reach d).src.over).mono ?_
        rintro e w1 ⟨rfl, hF, hO⟩
        have hQ := (H2.out.reach d).onV hA N3 hO _ hF
        clear hF hO
        go_wp2_with fail
        go_meet
        rw [FIN.out]
        exact ⟨rfl, hQ⟩
  case rest =>
  obtain ⟨rfl, h3⟩ := hcut
  have H3 := Lib.hid h3
  have HE := Lib.hid (show s.step i = ⟨s.vmin, s.trip, s.up.step (upIn s.vmin i), s.over.step (overIn s.trip i), s.sick.step (badB i.flags), s.failed || (s.over.step (overIn s.trip i)).s, i.may⟩ from rfl)
  clear h3 H2
  rw [HUP.out, HSK.out] at HE
  obtain ⟨ov, hov⟩ : ∃ k, s.over.step (overIn s.trip i) = k := ⟨_, rfl⟩
  rw [hov] at HE H3
  rw [hov]
  clear hov
  obtain ⟨b, hb⟩ : ∃ b, ov.s = b := ⟨_, rfl⟩
  rw [hb] at HE
  rw [hb]
  clear hb
  cases b
  · rw [Bool.or_false] at HE
    have y5 := H3.out.cells.2.2.2.2.2.2.2.2.2.2.2
    have f6 := H3.out.cells.2.2.2.2.2.1
    have c6 := H3.out.src.cells.2.2.2.2.2.2.1
    have H4 := Lib.hid (H3.out.src.setM hA.1 hA.2.1 hA.2.2.1 i.may)
    have O4 := Lib.hid (H3.out.only.trans (Only4.ofB (Only.set B 6 wc (.bool i.may))))
    clear H3
    go_wp2_with fail
    refine (usableC B U V X _ _ H4.out).mono ?_
    rintro e w' ⟨rfl, rfl⟩
    go_wp2_with fail
    go_ret
    rw [HE.out]
    exact ⟨rfl, H4.out, O4.out⟩
  · rw [Bool.or_true] at HE
    go_wp2_with fail
    refine (failC B U V X _ hA.1 hA.2.1 hA.2.2.1 _ H3.out.src).mono ?_
    rintro e w2 ⟨rfl, hS, hO⟩
    have H4 := Lib.hid (show HW B U V X Z i w w2 ⟨s.vmin, s.trip, up', ov, sick', true, s.may⟩ from ⟨hS, H3.out.only.trans (Only4.ofB hO), hO.row H3.out.row N1⟩)
    have y5 := H4.out.cells.2.2.2.2.2.2.2.2.2.2.2
    have f6 := H4.out.cells.2.2.2.2.2.1
    have c6 := H4.out.src.cells.2.2.2.2.2.2.1
    have H5 := Lib.hid (H4.out.src.setM hA.1 hA.2.1 hA.2.2.1 i.may)
    have O5 := Lib.hid (H4.out.only.trans (Only4.ofB (Only.set B 6 w2 (.bool i.may))))
    clear H3 H4 hS hO
    go_wp2_with fail
    refine (usableC B U V X _ _ H5.out).mono ?_
    rintro e w' ⟨rfl, rfl⟩
    go_wp2_with fail
    go_ret
    rw [HE.out]
    exact ⟨rfl, H5.out, O5.out⟩
end Go.Proofs.Ytcphpaacgkfkbaa
