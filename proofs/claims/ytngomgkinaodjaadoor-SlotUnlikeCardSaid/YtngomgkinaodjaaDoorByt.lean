/- Frames as arguments; whether bytes, frames are the same. Conditions: none. -/
import Derived.Test.YtngomgkinaodjaaDoorErrF
import Derived.Test.YtngomgkinaodjaaDoorBox2
import Derived.Test.YtngomgkinaodjaaDoorFlat
import Derived.Test.YtngomgkinaodjaaDoorReach
import Derived.Test.YtngomgkinaodjaaDoorLex
import Derived.Test.YtngomgkinaodjaaDoorTail
import Derived.Test.YtngomgkinaodjaaDoorCame
import Derived.ChangeSlices
namespace Go.Proofs.YtngomgkinaodjaaDoor
open Go Go.RowKit
set_option linter.unusedVariables false
set_option maxRecDepth 20000
theorem frame_of {H : Type} {enc : TypeId × Value → H} {w : World} {held : Bool} {fuel : Nat} {cs : List Value} {x : DataW H × List MemPlace} (h : DataW.trod enc Tryd.prog w 0 (fun _ => true) held fuel 24 cs = some x) :
    ∃ (id sq : Int) (a : Option Addr) (n cp : Nat) (z : List Int), cs = [.int .u8 id, .int .u8 sq, .slice a n cp] ∧ (Lit.int .u8 id).wf = true ∧ (Lit.int .u8 sq).wf = true ∧ CameI .u8 w a n cp z := by
  obtain ⟨xs, n, _, _, hl, hlen, hf⟩ := DataW.trod_struct Tryd.underlying24 h
  rw [show Tryd.prog.cellsOf 24 = 3 by kernel_rfl] at hl
  have hl2 : xs.length = 3 := hlen
  match cs, hl with
  | [c0, c1, c2], _ =>
    have e0 := hf 0 _ rfl
    rw [List.getElem?_eq_getElem (by omega)] at e0
    obtain ⟨_, _, q0, ⟨v0, rfl, k0⟩, r0⟩ := oks_cons (flat_ok 1 5 [.int .u8] (by kernel_rfl) _ [c0] _ e0)
    obtain ⟨rfl, rfl⟩ := List.cons.inj q0
    clear e0 q0 r0
    have e1 := hf 1 _ rfl
    rw [List.getElem?_eq_getElem (by omega)] at e1
    obtain ⟨_, _, q1, ⟨v1, rfl, k1⟩, r1⟩ := oks_cons (flat_ok 1 5 [.int .u8] (by kernel_rfl) _ [c1] _ e1)
    obtain ⟨rfl, rfl⟩ := List.cons.inj q1
    clear e1 q1 r1
    have e2 := hf 2 _ rfl
    rw [List.getElem?_eq_getElem (by omega)] at e2
    rcases Go.ChangeShapes.open_ints (cs := [c2]) Tryd.underlying22 Tryd.underlying5 (by kernel_rfl) e2 with ⟨hcs, _⟩ | ⟨x, l, c, zs, hcs, _, hl, hm, hz, _, hcell, hwz⟩
    · simp at hcs
      subst hcs
      exact ⟨v0, v1, none, 0, 0, [], rfl, k0, k1, .inl ⟨rfl, rfl, rfl, rfl⟩⟩
    · simp at hcs
      subst hcs
      exact ⟨v0, v1, some x, l, c, zs, rfl, k0, k1, .inr ⟨_, rfl, hl, hm, by simpa using hz, hcell, hwz⟩⟩
/-- The bytes behind a slice. -/
def Byt (w : World) (a : Option Addr) (n : Nat) (f : Nat → Int) : Prop := ∀ i, i < n → ∃ x, a = some x ∧ w.cell? (x.add i) = some (.int .u8 (f i))
theorem Byt.below {w w' : World} {a : Option Addr} {n : Nat} {f : Nat → Int} (h : Byt w a n f) (hb : Below w.heap.size w w') : Byt w' a n f := fun i hi => by
  obtain ⟨x, rfl, hc⟩ := h i hi
  exact ⟨x, rfl, below_cell hb hc⟩
theorem Byt.came {w : World} {a : Option Addr} {n cap : Nat} {z : List Int} (h : CameI .u8 w a n cap z) : Byt w a n fun i => z.getD i 0 := fun i hi => h.at i hi
def sameB (n m : Nat) (f g : Nat → Int) : Bool := decide (n = m) && (List.range n).all fun i => f i == g i
set_option maxHeartbeats 4000000 in
theorem sameBytesC {a b : Option Addr} {n ca m cb : Nat} {f g : Nat → Int} (hn : n ≤ 100000) (w : World) (ha : Byt w a n f) (hb : Byt w b m g) :
    Calls Tryd.prog 18 #[.slice a n ca, .slice b m cb] w fun e w' => e = .returned (.bool (sameB n m f g)) ∧ Below w.heap.size w w' := by
  have HA := Lib.hid ha
  have HB := Lib.hid hb
  clear ha hb
  unfold sameB
  by_cases hnm : n = m
  · subst hnm
    have e1 : ((n : Int) != (n : Int)) = false := by simp
    obtain ⟨r, hr⟩ : ∃ r : Nat → Bool, (fun k => (List.range k).all fun i => f i == g i) = r := ⟨_, rfl⟩
    have R0 := Lib.hid (show r 0 = true by rw [← hr]; rfl)
    have RS := Lib.hid (show ∀ k, r (k + 1) = (r k && (f k == g k)) from fun k => by rw [← hr]; simp [List.range_succ])
    have RN := Lib.hid (show ∀ k, k ≤ n → r k = false → r n = false from fun k hk h => by
      rw [← hr] at h ⊢
      simp only [List.all_eq_false] at h ⊢
      obtain ⟨x, hx, hv⟩ := h
      exact ⟨x, by simp at hx ⊢; omega, hv⟩)
    rw [show (List.range n).all (fun i => f i == g i) = r n from congrFun hr n, decide_eq_true rfl, Bool.true_and]
    clear hr
    go_enter Tryd.func18, Tryd.ntmps18
    go_wp2_with fail
    go_loopw [5, 6] (fun v v6 wr => ∃ k : Nat, k ≤ n ∧ v = .int .i64 k ∧ r k = true ∧ Below w.heap.size w wr) (fun v _ _ => n - (intOf v).toNat)
    case atStart => exact ⟨0, by omega, rfl, R0.out, Below.refl _ _⟩
    case round =>
      obtain ⟨k, hk, rfl, hr, hb⟩ := hrel
      have HR := Lib.hid hr
      have HL := Lib.hid hb
      clear hr hb
      by_cases hl : k < n
      · have i1 : (k : Int) < (n : Int) := by omega
        obtain ⟨x, rfl, cx⟩ := HA.out k hl
        obtain ⟨y, rfl, cy⟩ := HB.out k hl
        have RK := Lib.hid (RS.out k)
        obtain ⟨q, hg⟩ : ∃ q, (f k == g k) = q := ⟨_, rfl⟩
        go_upto_region 6 with fail
        have sx := fun d => below_cell (HL.out.trans ((reach_below wr.heap.size wr d).mono HL.out.size)) cx
        have sy := fun d => below_cell (HL.out.trans ((reach_below wr.heap.size wr d).mono HL.out.size)) cy
        clear cx cy
        refine wp_region_reach wr.heap.size (by kernel_rfl) (by kernel_rfl) ?_
        repeat (go_big_quiet_step (fail))
        refine wpQuiet_nil ?_
        rintro w' ⟨d, rfl⟩
        have HD := Lib.hid (HL.out.trans ((reach_below wr.heap.size wr d).mono HL.out.size))
        clear sx sy
        generalize reach wr.heap.size wr d = w5 at *
        cases q
        · have RF := Lib.hid (RN.out (k + 1) (by omega) (by rw [RK.out, hg, Bool.and_false]))
          go_wp2_with fail
          go_returns
          exact ⟨by rw [RF.out]; rfl, HD.out⟩
        · have RT := Lib.hid (show r (k + 1) = true by rw [RK.out, hg, HR.out]; rfl)
          go_wp2_with fail
          go_roundw
          case rel => exact ⟨k + 1, by omega, by go_num, RT.out, HD.out⟩
          case measure => simp [intOf]; omega
      · obtain rfl : k = n := by omega
        go_wp2_with fail
        go_returns
        exact ⟨by rw [HR.out]; rfl, HL.out⟩
  · have e1 : ((n : Int) != (m : Int)) = true := by simp; omega
    rw [decide_eq_false hnm, Bool.false_and]
    go_enter Tryd.func18, Tryd.ntmps18
    go_wp2_with fail
    go_returns
    exact ⟨rfl, Below.refl _ _⟩
set_option maxHeartbeats 4000000 in
theorem sameFrameC {i j s t : Int} {a b : Option Addr} {n ca m cb : Nat} {f g : Nat → Int} (hn : n ≤ 100000) (w : World) (ha : Byt w a n f) (hb : Byt w b m g) :
    Calls Tryd.prog 23 #[.agg #[.int .u8 i, .int .u8 s, .slice a n ca], .agg #[.int .u8 j, .int .u8 t, .slice b m cb]] w fun e w' => e = .returned (.bool ((i == j) && ((s == t) && sameB n m f g))) ∧ Below w.heap.size w w' := by
  have HA := Lib.hid ha
  have HB := Lib.hid hb
  clear ha hb
  obtain ⟨p, hp⟩ : ∃ p, (i == j) = p := ⟨_, rfl⟩
  obtain ⟨q, hq⟩ : ∃ q, (s == t) = q := ⟨_, rfl⟩
  obtain ⟨r, hr⟩ : ∃ r, sameB n m f g = r := ⟨_, rfl⟩
  rw [hp, hq, hr]
  go_enter Tryd.func23, Tryd.ntmps23
  go_upto_region 1 with fail
  have B0 := Lib.hid (Bx2.new w #[.int .u8 i, .int .u8 s, .slice a n ca] 24 #[.int .u8 j, .int .u8 t, .slice b m cb] 24)
  generalize World.alloc (World.alloc w _) _ = W at *
  have y0 : W.cell? ⟨w.heap.size, 0, none⟩ = some (.int .u8 i) := B0.out.cell1 0 rfl
  have y1 : W.cell? ⟨w.heap.size, 1, none⟩ = some (.int .u8 s) := B0.out.cell1 1 rfl
  have y2 : W.cell? ⟨w.heap.size, 2, none⟩ = some (.slice a n ca) := B0.out.cell1 2 rfl
  have x0 : W.cell? ⟨w.heap.size + 1, 0, none⟩ = some (.int .u8 j) := B0.out.cell2 0 rfl
  have x1 : W.cell? ⟨w.heap.size + 1, 1, none⟩ = some (.int .u8 t) := B0.out.cell2 1 rfl
  have x2 : W.cell? ⟨w.heap.size + 1, 2, none⟩ = some (.slice b m cb) := B0.out.cell2 2 rfl
  have K0 := (sameBytesC (ca := ca) (cb := cb) hn W (HA.out.below B0.out.lo) (HB.out.below B0.out.lo))
  rw [hr] at K0
  have K := Lib.hid K0
  have LO := Lib.hid B0.out.lo
  cases p
  · go_wp2_with fail
    go_returns
    exact ⟨rfl, LO.out⟩
  · cases q
    · go_wp2_with fail
      go_returns
      exact ⟨rfl, LO.out⟩
    · go_wp2_with fail
      refine K.out.mono ?_
      rintro e w1 ⟨rfl, hb⟩
      have L1 := Lib.hid (LO.out.trans (hb.mono LO.out.size))
      go_wp2_with fail
      go_returns
      exact ⟨rfl, L1.out⟩
end Go.Proofs.YtngomgkinaodjaaDoor
