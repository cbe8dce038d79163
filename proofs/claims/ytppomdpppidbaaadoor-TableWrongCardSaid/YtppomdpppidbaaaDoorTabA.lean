/- Where a right table's line stands, by a plain definition. Conditions: every number is small. -/
import Derived.Test.YtppomdpppidbaaaDoorTab
import Derived.Test.YtppomdpppidbaaaDoorNum
import Derived.Deep.RegionHeld3
namespace Go.Proofs.YtppomdpppidbaaaDoor
open Go.RowKit
set_option linter.unusedVariables false
/-- The first from i on whose x is not below v; f: how many are tried. -/
def segF (x : Nat → Int) (v : Int) : Nat → Nat → Nat
  | 0, i => i
  | f + 1, i => if x i < v then segF x v f (i + 1) else i
theorem segF_eq {x : Nat → Int} {v : Int} {i : Nat} (hs : ¬ x i < v) : ∀ (f a : Nat), a ≤ i → i ≤ a + f → (∀ k, a ≤ k → k < i → x k < v) → segF x v f a = i
  | 0, a, h1, h2, _ => by unfold segF; omega
  | f + 1, a, h1, h2, h3 => by
    unfold segF
    by_cases h : a = i
    · subst h; rw [if_neg hs]
    · rw [if_pos (h3 a (Nat.le_refl a) (by omega))]
      exact segF_eq hs f (a + 1) (by omega) (by omega) fun k hk hk2 => h3 k (by omega) hk2
def riseI (x y : Nat → Int) (v : Int) (i : Nat) : Int := (v - x (i - 1)) * (y i - y (i - 1))
def runI (x : Nat → Int) (i : Nat) : Int := x i - x (i - 1)
def atLo (n : Nat) (x y : Nat → Int) (v : Int) : Int := if v ≤ x 0 then y 0 else if x (n - 1) ≤ v then y (n - 1) else y (segF x v n 1 - 1) + downI (riseI x y v (segF x v n 1)) (runI x (segF x v n 1))
def atHi (n : Nat) (x y : Nat → Int) (v : Int) : Int := if v ≤ x 0 then y 0 else if x (n - 1) ≤ v then y (n - 1) else y (segF x v n 1 - 1) + upI (riseI x y v (segF x v n 1)) (runI x (segF x v n 1))
/-- A part of a line: its rise, and what it comes to over its run. -/
theorem part_facts (a b r : Int) (h1 : 0 ≤ a) (h2 : a ≤ r) (h3 : 0 ≤ b) (hr : 1 ≤ r) : 0 ≤ a * b ∧ a * b ≤ r * b ∧ 0 ≤ downI (a * b) r ∧ downI (a * b) r ≤ b ∧ 0 ≤ upI (a * b) r ∧ upI (a * b) r ≤ b := by
  have e0 : 0 ≤ a * b := Int.mul_nonneg h1 h3
  have e1 : a * b ≤ r * b := Int.mul_le_mul_of_nonneg_right h2 h3
  have e2 : b * r = r * b := Int.mul_comm _ _
  unfold downI upI
  rw [if_neg (by omega), if_neg (by omega)]
  have d1 : 0 ≤ a * b / r := Int.ediv_nonneg e0 (by omega)
  have d2 : a * b / r ≤ b := by
    have : a * b / r < b + 1 := (Int.ediv_lt_iff_lt_mul (by omega)).2 (by rw [Int.add_mul]; omega)
    omega
  have d3 : -b ≤ -(a * b) / r := (Int.le_ediv_iff_mul_le (by omega)).2 (by rw [Int.neg_mul]; omega)
  have d4 : -(a * b) / r < 1 := (Int.ediv_lt_iff_lt_mul (by omega)).2 (by omega)
  refine ⟨e0, e1, d1, d2, ?_, ?_⟩ <;> omega
theorem two_new1 (w : World) (A C : Array Value) (t u : TypeId) : ((w.alloc (.cells A t)).alloc (.cells C u)).drew.heap[w.heap.size]? = some (.cells A t (0, 0)) :=
  ((((Below.refl (w.alloc (.cells A t)).heap.size (w.alloc (.cells A t))).alloc (Nat.le_refl _) (.cells C u)).block w.heap.size (by simp)).trans (heap_alloc_new _ _) : ((w.alloc (.cells A t)).alloc (.cells C u)).heap[w.heap.size]? = _)
theorem two_new2 (w : World) (A C : Array Value) (t u : TypeId) : ((w.alloc (.cells A t)).alloc (.cells C u)).drew.heap[w.heap.size + 1]? = some (.cells C u (0, 0)) := by
  have := heap_alloc_new (w.alloc (.cells A t)) (.cells C u)
  have e : (w.alloc (.cells A t)).heap.size = w.heap.size + 1 := by simp
  rw [e] at this
  exact this
theorem two_below (w : World) (A C : Obj) : Below w.heap.size w ((w.alloc A).alloc C).drew :=
  (((Below.refl _ _).alloc (Nat.le_refl _) A).alloc (by simp) C).drew
theorem add_0 (a : Addr) : a.add 0 = a := by
  obtain ⟨b, o, s⟩ := a
  unfold Addr.add
  split <;> simp_all
set_option maxHeartbeats 4000000 in
set_option maxRecDepth 20000 in
theorem atC (a : Addr) (n cap : Nat) (x y : Nat → Int) (v : Int) (T : TabOk n x y) (w : World) (h : Pts w a n x y) :
    Calls Tryd.prog 23 #[.slice (some a) n cap, .int .i64 v] w fun e w' => e = .returned (.agg #[.int .i64 (atLo n x y v), .int .i64 (atHi n x y v)]) ∧ Below w.heap.size w w' := by
  have n2 := T.n2
  have n3 := T.n3
  obtain ⟨m, rfl⟩ : ∃ m, n = m + 1 := ⟨n - 1, by omega⟩
  have H := Lib.hid h
  have T1 := Lib.hid T
  clear h T
  go_enter Tryd.func23, Tryd.ntmps23
  go_upto_region 2 with fail
  generalize hW : World.alloc w _ = W
  have hrow : W.heap[w.heap.size]? = some (.cells #[.int .i64 0, .int .i64 0] 27 (0, 0)) := by rw [← hW]; exact heap_alloc_new _ _
  have hbw : Below w.heap.size w W := by rw [← hW]; exact (Below.refl _ _).alloc (Nat.le_refl _) _
  clear hW
  have P := Lib.hid (H.out.below hbw)
  obtain ⟨c0, c1⟩ := P.out 0 (by omega)
  obtain ⟨l0, l1⟩ := P.out m (by omega)
  rw [Nat.zero_mul, add_0] at c0 c1
  have z0 : W.cell? ⟨w.heap.size, 0, none⟩ = some (.int .i64 0) := cell_of_row _ _ 0 _ _ _ hrow
  have z1 : W.cell? ⟨w.heap.size, 1, none⟩ = some (.int .i64 0) := cell_of_row _ _ 1 _ _ _ hrow
  have zf : ∀ j, W.frozen? ⟨w.heap.size, j, none⟩ = false := fun j => by simp [World.frozen?, hrow]
  have HB := Lib.hid hbw
  have HROW := Lib.hid hrow
  clear hbw hrow H
  by_cases h1 : v ≤ x 0
  · have EL := Lib.hid (show atLo (m + 1) x y v = y 0 by unfold atLo; rw [if_pos h1])
    have EH := Lib.hid (show atHi (m + 1) x y v = y 0 by unfold atHi; rw [if_pos h1])
    have y0 := fun d => below_cell (reach_below W.heap.size W d) c1
    have y1 := 0
    go_upto_region 3 with fail
    refine wp_region_tailR W.heap.size 9 (by kernel_rfl) (by kernel_rfl) ?_
    simp only [List.take_succ_cons, List.take_zero, List.drop_succ_cons, List.drop_zero]
    repeat (go_big_quiet_step (fail))
    refine wpQuiet_nil ?_
    rintro w' ⟨d, rfl⟩
    have hr2 := ((reach_below W.heap.size W d).block _ (Array.getElem?_eq_some_iff.1 HROW.out).1).trans HROW.out
    have x0 := cell_of_row _ _ 0 _ _ _ hr2
    have x1 := cell_of_row _ _ 1 _ _ _ hr2
    have xf : ∀ j, (reach W.heap.size W d).frozen? ⟨w.heap.size, j, none⟩ = false := fun j => by simp [World.frozen?, hr2]
    have HB2 := Lib.hid (HB.out.trans ((reach_below W.heap.size W d).mono HB.out.size))
    have HR2 := Lib.hid hr2
    clear hr2 y0 y1
    go_wp2_with fail
    have hr3 : (((reach W.heap.size W d).setCell ⟨w.heap.size, 0, none⟩ (.int .i64 (y 0))).setCell ⟨w.heap.size, 1, none⟩ (.int .i64 (y 0))).heap[w.heap.size]? = some (.cells #[.int .i64 (y 0), .int .i64 (y 0)] 27 (0, 0)) := by
      simp [World.setCell, Array.getElem?_modify, HR2.out]
    have HB3 := Lib.hid ((HB2.out.setCell (Nat.le_refl _) (p := ⟨w.heap.size, 0, none⟩) (.int .i64 (y 0))).setCell (Nat.le_refl _) (p := ⟨w.heap.size, 1, none⟩) (.int .i64 (y 0)))
    clear x0 x1 xf HB2 HR2
    generalize World.setCell _ _ _ = W3 at *
    have q0 : W3.cell? ⟨w.heap.size, 0, none⟩ = some (.int .i64 (y 0)) := cell_of_row _ _ 0 _ _ _ hr3
    have q1 : W3.cell? ⟨w.heap.size, 1, none⟩ = some (.int .i64 (y 0)) := cell_of_row _ _ 1 _ _ _ hr3
    refine bodyPost_ret (v := .agg #[.int .i64 (y 0), .int .i64 (y 0)]) (by simp [results, Tryd.results23, go_sem, q0, q1]) rfl ⟨by rw [EL.out, EH.out], ?_⟩
    exact HB3.out
  by_cases h2 : x m ≤ v
  · have EL := Lib.hid (show atLo (m + 1) x y v = y m by unfold atLo; rw [if_neg h1]; exact if_pos h2)
    have EH := Lib.hid (show atHi (m + 1) x y v = y m by unfold atHi; rw [if_neg h1]; exact if_pos h2)
    have y0 := fun d => below_cell (reach_below W.heap.size W d) l1
    have y1 := 0
    go_upto_region 5 with fail
    refine wp_region_tailR W.heap.size 11 (by kernel_rfl) (by kernel_rfl) ?_
    simp only [List.take_succ_cons, List.take_zero, List.drop_succ_cons, List.drop_zero]
    repeat (go_big_quiet_step (fail))
    refine wpQuiet_nil ?_
    rintro w' ⟨d, rfl⟩
    have hr2 := ((reach_below W.heap.size W d).block _ (Array.getElem?_eq_some_iff.1 HROW.out).1).trans HROW.out
    have x0 := cell_of_row _ _ 0 _ _ _ hr2
    have x1 := cell_of_row _ _ 1 _ _ _ hr2
    have xf : ∀ j, (reach W.heap.size W d).frozen? ⟨w.heap.size, j, none⟩ = false := fun j => by simp [World.frozen?, hr2]
    have HB2 := Lib.hid (HB.out.trans ((reach_below W.heap.size W d).mono HB.out.size))
    have HR2 := Lib.hid hr2
    clear hr2 y0 y1
    go_wp2_with fail
    have hr3 : (((reach W.heap.size W d).setCell ⟨w.heap.size, 0, none⟩ (.int .i64 (y m))).setCell ⟨w.heap.size, 1, none⟩ (.int .i64 (y m))).heap[w.heap.size]? = some (.cells #[.int .i64 (y m), .int .i64 (y m)] 27 (0, 0)) := by
      simp [World.setCell, Array.getElem?_modify, HR2.out]
    have HB3 := Lib.hid ((HB2.out.setCell (Nat.le_refl _) (p := ⟨w.heap.size, 0, none⟩) (.int .i64 (y m))).setCell (Nat.le_refl _) (p := ⟨w.heap.size, 1, none⟩) (.int .i64 (y m)))
    clear x0 x1 xf HB2 HR2
    generalize World.setCell _ _ _ = W3 at *
    have q0 : W3.cell? ⟨w.heap.size, 0, none⟩ = some (.int .i64 (y m)) := cell_of_row _ _ 0 _ _ _ hr3
    have q1 : W3.cell? ⟨w.heap.size, 1, none⟩ = some (.int .i64 (y m)) := cell_of_row _ _ 1 _ _ _ hr3
    refine bodyPost_ret (v := .agg #[.int .i64 (y m), .int .i64 (y m)]) (by simp [results, Tryd.results23, go_sem, q0, q1]) rfl ⟨by rw [EL.out, EH.out], ?_⟩
    exact HB3.out
  have EL := Lib.hid (show atLo (m + 1) x y v = y (segF x v (m + 1) 1 - 1) + downI (riseI x y v (segF x v (m + 1) 1)) (runI x (segF x v (m + 1) 1)) by unfold atLo; rw [if_neg h1]; exact if_neg h2)
  have EH := Lib.hid (show atHi (m + 1) x y v = y (segF x v (m + 1) 1 - 1) + upI (riseI x y v (segF x v (m + 1) 1)) (runI x (segF x v (m + 1) 1)) by unfold atHi; rw [if_neg h1]; exact if_neg h2)
  go_wp2_with fail
  go_loopw [6] (fun s wr => ∃ i : Nat, 1 ≤ i ∧ i ≤ m ∧ s = .int .i64 i ∧ (∀ k, 1 ≤ k → k < i → x k < v) ∧ wr = W) (fun s _ => m - (intOf s).toNat)
  case atStart => exact ⟨1, by omega, by omega, rfl, fun k h1 h2 => by omega, rfl⟩
  case round =>
    obtain ⟨i, hi1, hi2, rfl, hk, rfl⟩ := hrel
    have HK := Lib.hid hk
    clear hk c0 c1 l0 l1 z0 z1 zf
    obtain ⟨d0, d1⟩ := P.out i (by omega)
    by_cases hl : x i < v
    · have hm : i ≠ m := by rintro rfl; omega
      go_wp2_with fail
      go_roundw
      case rel => exact ⟨i + 1, by omega, by omega, by go_num, fun k h3 h4 => by
        by_cases h : k = i
        · rw [h]; exact hl
        · exact HK.out k h3 (by omega), trivial⟩
      case measure => simp [intOf]; omega
    · have SG := Lib.hid (segF_eq hl (m + 1) 1 hi1 (by omega) HK.out)
      rw [SG.out] at EL EH
      obtain ⟨k, rfl⟩ : ∃ k, i = k + 1 := ⟨i - 1, by omega⟩
      obtain ⟨e0, e1⟩ := P.out k (by omega)
      have i1 : (k : Int) < (m : Int) + 1 := by omega
      have i2 : (k : Int) + 1 < (m : Int) + 1 := by omega
      have i3 : 0 ≤ (k : Int) := by omega
      have i4 : 0 ≤ (k : Int) + 1 := by omega
      have i5 : k < m + 1 := by omega
      have i12 : IntKind.i64.wrap (k : Int) = (k : Int) := IntWalk.i64_in _ (by omega)
      have i11 : IntKind.i64.wrap ((k : Int) + 1 - 1) = (k : Int) := by rw [show (k : Int) + 1 - 1 = k by omega]; exact i12
      have i13 : IntKind.i64.wrap ((k : Int) + 1) = (k : Int) + 1 := IntWalk.i64_in _ (by omega)
      have i7 : (k : Int) ≤ (m : Int) := by omega
      have i8 : (k : Int) + 1 ≤ (m : Int) := by omega
      have i9 : ¬ (m : Int) + 1 ≤ (k : Int) := by omega
      have i10 : ¬ (k : Int) < 0 := by omega
      have i6 : k + 1 < m + 1 := by omega
      have n0 := World.new_ne wr _ d0
      have n1 := World.new_ne wr _ e0
      go_upto_region 9 with fail
      go_cut [7, 8] (fun p q wx => ∃ Zp Zq : Nat, p = .pointer (some ⟨Zp, 0, none⟩) ∧ q = .pointer (some ⟨Zq, 0, none⟩) ∧ wx.heap[Zp]? = some (.cells #[.int .i64 (x k), .int .i64 (y k)] 24 (0, 0)) ∧ wx.heap[Zq]? = some (.cells #[.int .i64 (x (k + 1)), .int .i64 (y (k + 1))] 24 (0, 0)) ∧ Below wr.heap.size wr wx)
      case first =>
        go_region_held3 (fun w' => w'.cell? (a.add (k * 2)) = some (.int .i64 (x k)) ∧ w'.cell? ⟨(a.add (k * 2)).block, (a.add (k * 2)).off + 1, none⟩ = some (.int .i64 (y k)) ∧ w'.cell? (a.add ((k + 1) * 2)) = some (.int .i64 (x (k + 1))) ∧ w'.cell? ⟨(a.add ((k + 1) * 2)).block, (a.add ((k + 1) * 2)).off + 1, none⟩ = some (.int .i64 (y (k + 1)))) (go_keep) (fail)
        all_goals
          go_wp2_with fail
          go_meet
          first
            | exact ⟨_, _, rfl, rfl, two_new1 _ _ _ _ _, two_new2 _ _ _ _ _, two_below _ _ _⟩
            | exact ⟨_, _, rfl, rfl, two_new2 _ _ _ _ _, two_new1 _ _ _ _ _, two_below _ _ _⟩
      case rest =>
      obtain ⟨Zp, Zq, rfl, rfl, rp, rq, hbx⟩ := hcut
      have px : wc.cell? ⟨Zp, 0, none⟩ = some (.int .i64 (x k)) := cell_of_row _ _ 0 _ _ _ rp
      have py : wc.cell? ⟨Zp, 1, none⟩ = some (.int .i64 (y k)) := cell_of_row _ _ 1 _ _ _ rp
      have qx : wc.cell? ⟨Zq, 0, none⟩ = some (.int .i64 (x (k + 1))) := cell_of_row _ _ 0 _ _ _ rq
      have qy : wc.cell? ⟨Zq, 1, none⟩ = some (.int .i64 (y (k + 1))) := cell_of_row _ _ 1 _ _ _ rq
      have HBX := Lib.hid hbx
      have LP := (Array.getElem?_eq_some_iff.1 rp).1
      clear rp rq hbx d0 d1 e0 e1 n0 n1 i12 i11 i13
      have hvk : x k < v := by
        by_cases h : k = 0
        · subst h; exact h1
        · exact HK.out k (by omega) (by omega)
      have bx0 := T1.out.bx k (by omega)
      have bx1 := T1.out.bx (k + 1) (by omega)
      have by0 := T1.out.by' k (by omega)
      have by1 := T1.out.by' (k + 1) (by omega)
      have my := T1.out.my k (by omega)
      have PF := part_facts (v - x k) (y (k + 1) - y k) (x (k + 1) - x k) (by omega) (by omega) (by omega) (by omega)
      have w1 : IntKind.i64.wrap (v - x k) = v - x k := IntWalk.i64_in _ (by omega)
      have w2 : IntKind.i64.wrap (y (k + 1) - y k) = y (k + 1) - y k := IntWalk.i64_in _ (by omega)
      have w3 : IntKind.i64.wrap (x (k + 1) - x k) = x (k + 1) - x k := IntWalk.i64_in _ (by omega)
      have hR : (x (k + 1) - x k) * (y (k + 1) - y k) ≤ 2147483648 * 2147483648 := Int.mul_le_mul (by omega) (by omega) (by omega) (by omega)
      have w4 : IntKind.i64.wrap ((v - x k) * (y (k + 1) - y k)) = (v - x k) * (y (k + 1) - y k) := IntWalk.i64_in _ (by omega)
      have IP : I64 ((v - x k) * (y (k + 1) - y k)) := by unfold I64; omega
      obtain ⟨PP, hPP⟩ : ∃ p, (v - x k) * (y (k + 1) - y k) = p := ⟨_, rfl⟩
      have rx := fun d => below_cell (reach_below wc.heap.size wc d) px
      have ry := fun d => below_cell (reach_below wc.heap.size wc d) py
      have sx := fun d => below_cell (reach_below wc.heap.size wc d) qx
      have sy := fun d => below_cell (reach_below wc.heap.size wc d) qy
      go_upto_region 10 with fail
      refine wp_region_reach wc.heap.size (by kernel_rfl) (by kernel_rfl) ?_
      repeat (go_big_quiet_step (fail))
      refine wpQuiet_nil ?_
      rintro w' ⟨d, rfl⟩
      clear rx ry sx sy px qx qy
      go_upto_region 11 with fail
      have HB5 := Lib.hid (HB.out.trans ((HBX.out.trans ((reach_below wc.heap.size wc d).mono HBX.out.size)).mono HB.out.size))
      have HROW5 := Lib.hid ((((HBX.out.trans ((reach_below wc.heap.size wc d).mono HBX.out.size))).block _ (Array.getElem?_eq_some_iff.1 HROW.out).1).trans HROW.out)
      have py5 := below_cell (reach_below wc.heap.size wc d) py
      clear HB HROW HBX py LP P
      generalize reach wc.heap.size wc d = W5 at *
      have HB := Lib.hid HB5.out
      have HROW := Lib.hid HROW5.out
      clear HB5 HROW5
      rw [hPP] at PF IP
      have EL2 := Lib.hid (EL.out.trans (show y (k + 1 - 1) + downI (riseI x y v (k + 1)) (runI x (k + 1)) = y k + downI PP (x (k + 1) - x k) by rw [← hPP]; rfl))
      have EH2 := Lib.hid (EH.out.trans (show y (k + 1 - 1) + upI (riseI x y v (k + 1)) (runI x (k + 1)) = y k + upI PP (x (k + 1) - x k) by rw [← hPP]; rfl))
      clear EL EH SG
      have EL := Lib.hid EL2.out
      have EH := Lib.hid EH2.out
      clear EL2 EH2 hPP w4
      have KD := Lib.hid fun (w : World) => fixedDown PP (x (k + 1) - x k) IP w
      have KU := Lib.hid fun (w : World) => fixedUp PP (x (k + 1) - x k) IP w
      have w5 : IntKind.i64.wrap (y k + downI PP (x (k + 1) - x k)) = y k + downI PP (x (k + 1) - x k) := IntWalk.i64_in _ (by omega)
      have w6 : IntKind.i64.wrap (y k + upI PP (x (k + 1) - x k)) = y k + upI PP (x (k + 1) - x k) := IntWalk.i64_in _ (by omega)
      have b5 : y k + downI PP (x (k + 1) - x k) ≤ 1073741824 := by omega
      have b6 : y k + upI PP (x (k + 1) - x k) ≤ 1073741824 := by omega
      have b7 : -1073741824 ≤ y k + downI PP (x (k + 1) - x k) := by omega
      have b8 : -1073741824 ≤ y k + upI PP (x (k + 1) - x k) := by omega
      clear PF IP w1 w2 w3
      generalize downI PP (x (k + 1) - x k) = DD at *
      generalize upI PP (x (k + 1) - x k) = UU at *
      have y0 := fun d => below_cell (reach_below W5.heap.size W5 d) py5
      have y1 := 0
      refine wp_region_tailR W5.heap.size 13 (by kernel_rfl) (by kernel_rfl) ?_
      simp only [List.take_succ_cons, List.take_zero, List.drop_succ_cons, List.drop_zero]
      repeat (go_big_quiet_step (first | (go_at_call 34; with_reducible exact reach_call0 (KD.out _)) | (go_at_call 35; with_reducible exact reach_call0 (KU.out _))))
      refine wpQuiet_nil ?_
      rintro w' ⟨d, rfl⟩
      have hr2 := ((reach_below W5.heap.size W5 d).block _ (Array.getElem?_eq_some_iff.1 HROW.out).1).trans HROW.out
      have x0 := cell_of_row _ _ 0 _ _ _ hr2
      have x1 := cell_of_row _ _ 1 _ _ _ hr2
      have xf : ∀ j, (reach W5.heap.size W5 d).frozen? ⟨w.heap.size, j, none⟩ = false := fun j => by simp [World.frozen?, hr2]
      have HB2 := Lib.hid (HB.out.trans ((reach_below W5.heap.size W5 d).mono HB.out.size))
      have HR2 := Lib.hid hr2
      clear hr2 y0 y1
      go_wp2_with fail
      have hr3 : (((reach W5.heap.size W5 d).setCell ⟨w.heap.size, 0, none⟩ (.int .i64 (y k + DD))).setCell ⟨w.heap.size, 1, none⟩ (.int .i64 (y k + UU))).heap[w.heap.size]? = some (.cells #[.int .i64 (y k + DD), .int .i64 (y k + UU)] 27 (0, 0)) := by
        simp [World.setCell, Array.getElem?_modify, HR2.out]
      have HB3 := Lib.hid ((HB2.out.setCell (Nat.le_refl _) (p := ⟨w.heap.size, 0, none⟩) (.int .i64 (y k + DD))).setCell (Nat.le_refl _) (p := ⟨w.heap.size, 1, none⟩) (.int .i64 (y k + UU)))
      clear x0 x1 xf HB2 HR2
      generalize World.setCell _ _ _ = W3 at *
      have q0 : W3.cell? ⟨w.heap.size, 0, none⟩ = some (.int .i64 (y k + DD)) := cell_of_row _ _ 0 _ _ _ hr3
      have q1 : W3.cell? ⟨w.heap.size, 1, none⟩ = some (.int .i64 (y k + UU)) := cell_of_row _ _ 1 _ _ _ hr3
      refine bodyPost_ret (v := .agg #[.int .i64 (y k + DD), .int .i64 (y k + UU)]) (by simp [results, Tryd.results23, go_sem, q0, q1]) rfl ⟨by rw [EL.out, EH.out], ?_⟩
      exact HB3.out
end Go.Proofs.YtppomdpppidbaaaDoor
