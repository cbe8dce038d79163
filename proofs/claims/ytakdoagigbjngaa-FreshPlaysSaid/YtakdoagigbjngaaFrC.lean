/- What a bank of the code does, for every channel; its block alone changes. Conditions: the ages are small. -/
import Derived.Test.YtakdoagigbjngaaFresh
import Derived.Deep.DeepCutAuto
namespace Go.Proofs.Ytakdoagigbjngaa
open Go.RowKit
set_option linter.unusedVariables false
def aged (s : Smp) : Smp := { s with age := min (s.age + 1) 1000 }
def tickTo (f : Nat → Smp) (i : Nat) : Nat → Smp := fun k => if k < i then aged (f k) else f k
theorem tickTo_next (f : Nat → Smp) (i : Nat) : upd (tickTo f i) i { tickTo f i i with age := min ((tickTo f i i).age + 1) 1000 } = tickTo f (i + 1) := by
  funext k
  by_cases h : k = i
  · subst h
    have e : tickTo f k k = f k := if_neg (Nat.lt_irrefl k)
    show (if k = k then _ else _) = (if k < k + 1 then aged (f k) else f k)
    rw [if_pos rfl, if_pos (by omega), e]
    rfl
  · show (if k = i then _ else (if k < i then aged (f k) else f k)) = (if k < i + 1 then aged (f k) else f k)
    rw [if_neg h]
    by_cases h2 : k < i
    · rw [if_pos h2, if_pos (by omega)]
    · rw [if_neg h2, if_neg (by omega)]
theorem Bk.drew {w : World} {B : Nat} {st : Int} {f : Nat → Smp} (h : Bk w B st f) : Bk w.drew B st f := ⟨h.row⟩
theorem tickC (B : Nat) (st : Int) (f : Nat → Smp) (hf : ∀ k, k < 48 → 0 ≤ (f k).age ∧ (f k).age ≤ 1000) (w : World) (h : Bk w B st f) :
    Calls Try.prog 10 #[.pointer (some ⟨B, 0, none⟩)] w fun e w' => e = .returned (.tuple #[]) ∧ Bk w' B st (tickTo f 48) ∧ Only B w w' := by
  have H := Lib.hid h
  clear h
  go_enter Try.func10, Try.ntmps10
  go_wp2_with fail
  go_loopw [3] (fun v wr => ∃ i : Nat, i ≤ 48 ∧ v = .int .i64 i ∧ Bk wr B st (tickTo f i) ∧ Only B w wr) (fun v _ => 48 - (intOf v).toNat)
  case atStart => exact ⟨0, by omega, rfl, by rw [show tickTo f 0 = f from funext fun k => if_neg (by omega)]; exact H.out, Only.refl _ _⟩
  case round =>
    obtain ⟨i, hi, rfl, hk, ho⟩ := hrel
    have FK := Lib.hid hk
    have FO := Lib.hid ho
    clear hk ho H
    by_cases hl : i < 48
    · obtain ⟨c0, c1, c2, c3, c4, fz⟩ := FK.out.cells i hl
      have ha := hf i hl
      have e : (tickTo f i i).age = (f i).age := by unfold tickTo; rw [if_neg (by omega)]
      rw [← e] at ha
      have HT := Lib.hid (tickTo_next f i)
      generalize htk : tickTo f i = g at *
      clear e htk hf
      have c4' : wr.drew.cell? ⟨B, 1 + i * 4 + 3, none⟩ = some (.int .i64 (g i).age) := c4
      have hu : ∀ a : Int, a = min ((g i).age + 1) 1000 → Bk (wr.setCell ⟨B, 1 + i * 4 + 3, none⟩ (.int .i64 a)) B st (upd g i { g i with age := min ((g i).age + 1) 1000 }) := fun a e => by
        rw [← e]; exact FK.out.age i hl _
      rw [HT.out] at hu
      have HU := Lib.hid hu
      clear hu
      go_upto_region 3 with fail
      go_region_with (fail)
      all_goals
        go_wp2_with fail
        go_roundw
        case rel => exact ⟨i + 1, by omega, by go_num, Bk.drew (HU.out _ (by first | omega | (split <;> omega))), (FO.out.trans (Only.set B _ _ _)).trans (Only.of_below B (Below.refl _ _).drew)⟩
        case measure => simp [intOf]; omega
    · obtain rfl : i = 48 := by omega
      go_wp2_with fail
      go_end0
      exact ⟨rfl, FK.out, FO.out⟩
theorem ageI (B : Nat) (st : Int) (f : Nat → Smp) (ch : Int) (h1 : 1 ≤ ch) (h2 : ch < 48) (hz : (f ch.toNat).there = true) (w : World) (h : Bk w B st f) :
    Calls Try.prog 14 #[.pointer (some ⟨B, 0, none⟩), .int .i64 ch] w fun e w' => e = .returned (.int .i64 (f ch.toNat).age) ∧ Below w.heap.size w w' := by
  have := ageC B st f ch.toNat (by omega) (by omega) hz w h
  rwa [Int.toNat_of_nonneg (by omega)] at this
theorem ageN (B : Nat) (st : Int) (f : Nat → Smp) (ch : Int) (h1 : 1 ≤ ch) (h2 : ch < 48) (hz : (f ch.toNat).there = false) (w : World) (h : Bk w B st f) :
    Calls Try.prog 14 #[.pointer (some ⟨B, 0, none⟩), .int .i64 ch] w fun e w' => e = .returned (.int .i64 1000) ∧ Below w.heap.size w w' := by
  obtain ⟨c, rfl⟩ := Int.eq_ofNat_of_zero_le (show 0 ≤ ch by omega)
  have h1' : 1 ≤ c := by omega
  have h2' : c < 48 := by omega
  simp only [Int.toNat_natCast] at hz
  have H := Lib.hid h
  clear h h1 h2
  go_enter Try.func14, Try.ntmps14
  go_wp2_with fail
  refine (chanC c h1' h2' _).mono ?_
  rintro e w1 ⟨rfl, hb⟩
  have H1 := Lib.hid (H.out.below hb H.out.lt)
  obtain ⟨c0, c1, c2, c3, c4, fz⟩ := H1.out.cells c h2'
  rw [hz] at c1
  have HB := Lib.hid hb
  clear hb H
  go_wp2_with fail
  go_ret
  exact ⟨rfl, HB.out⟩
theorem chanX (ch : Int) (h : (rangeI ch).2.2 = false) (w : World) :
    Calls Try.prog 29 #[.int .i64 ch] w fun e w' => e = .returned (.bool false) ∧ Below w.heap.size w w' := by
  have K := rangeC ch w
  rw [h] at K
  go_enter Try.func29, Try.ntmps29
  go_wp2_with fail
  refine K.mono ?_
  rintro e w1 ⟨rfl, hb⟩
  go_wp2_with fail
  go_ret
  exact ⟨rfl, hb.alloc hb.size _⟩
theorem putX (B : Nat) (ch s v : Int) (h : (rangeI ch).2.2 = false) (w : World) :
    Calls Try.prog 8 #[.pointer (some ⟨B, 0, none⟩), .int .i64 ch, .int .u8 s, .int .i64 v] w fun e w' => e = .returned (.bool false) ∧ Below w.heap.size w w' := by
  go_enter Try.func8, Try.ntmps8
  go_wp2_with fail
  refine (chanX ch h _).mono ?_
  rintro e w1 ⟨rfl, hb⟩
  have HB := Lib.hid hb
  clear hb
  go_wp2_with fail
  go_ret
  exact ⟨rfl, HB.out⟩
theorem putI (B : Nat) (st : Int) (f : Nat → Smp) (ch : Int) (h1 : 1 ≤ ch) (h2 : ch < 48) (s v : Int) (w : World) (h : Bk w B st f) :
    Calls Try.prog 8 #[.pointer (some ⟨B, 0, none⟩), .int .i64 ch, .int .u8 s, .int .i64 v] w fun e w' => e = .returned (.bool (putB f ch.toNat s)) ∧ Bk w' B st (putF f ch.toNat s v) ∧ Only B w w' := by
  have := putC B st f ch.toNat (by omega) (by omega) s v w h
  rwa [Int.toNat_of_nonneg (by omega)] at this
theorem getI (B : Nat) (st : Int) (f : Nat → Smp) (ch : Int) (h1 : 1 ≤ ch) (h2 : ch < 48) (w : World) (h : Bk w B st f) :
    Calls Try.prog 12 #[.pointer (some ⟨B, 0, none⟩), .int .i64 ch] w fun e w' => e = .returned (.tuple #[.int .i64 (f ch.toNat).v, .bool ((f ch.toNat).there && decide ((f ch.toNat).age ≤ st))]) ∧ Below w.heap.size w w' := by
  have := getC B st f ch.toNat (by omega) (by omega) w h
  rwa [Int.toNat_of_nonneg (by omega)] at this
theorem getX (B : Nat) (ch : Int) (h : (rangeI ch).2.2 = false) (w : World) :
    Calls Try.prog 12 #[.pointer (some ⟨B, 0, none⟩), .int .i64 ch] w fun e w' => e = .returned (.tuple #[.int .i64 0, .bool false]) ∧ Below w.heap.size w w' := by
  go_enter Try.func12, Try.ntmps12
  go_wp2_with fail
  refine (chanX ch h _).mono ?_
  rintro e w1 ⟨rfl, hb⟩
  have HB := Lib.hid hb
  clear hb
  go_wp2_with fail
  go_returns
  exact ⟨rfl, HB.out⟩
theorem ageX (B : Nat) (ch : Int) (h : (rangeI ch).2.2 = false) (w : World) :
    Calls Try.prog 14 #[.pointer (some ⟨B, 0, none⟩), .int .i64 ch] w fun e w' => e = .returned (.int .i64 1000) ∧ Below w.heap.size w w' := by
  go_enter Try.func14, Try.ntmps14
  go_wp2_with fail
  refine (chanX ch h _).mono ?_
  rintro e w1 ⟨rfl, hb⟩
  have HB := Lib.hid hb
  clear hb
  go_wp2_with fail
  go_ret
  exact ⟨rfl, HB.out⟩
/-- Is there such a channel? -/
def inCh (ch : Int) : Bool := decide (1 ≤ ch) && decide (ch < 48)
theorem inCh_no {ch : Int} (h : ¬(1 ≤ ch ∧ ch < 48)) : (rangeI ch).2.2 = false := by
  rcases (show ch < 1 ∨ 48 ≤ ch by omega) with h | h
  · unfold rangeI; rw [if_pos h]
  · unfold rangeI; repeat (first | rw [if_pos (by omega)] | rw [if_neg (by omega)])
def bPut (f : Nat → Smp) (ch s : Int) : Bool := if 1 ≤ ch ∧ ch < 48 then putB f ch.toNat s else false
def fPut (f : Nat → Smp) (ch s v : Int) : Nat → Smp := if 1 ≤ ch ∧ ch < 48 then putF f ch.toNat s v else f
def vGet (f : Nat → Smp) (ch : Int) : Int := if 1 ≤ ch ∧ ch < 48 then (f ch.toNat).v else 0
def fGet (st : Int) (f : Nat → Smp) (ch : Int) : Bool := if 1 ≤ ch ∧ ch < 48 then (f ch.toNat).there && decide ((f ch.toNat).age ≤ st) else false
def aGet (f : Nat → Smp) (ch : Int) : Int := if 1 ≤ ch ∧ ch < 48 then (if (f ch.toNat).there = true then (f ch.toNat).age else 1000) else 1000
theorem putG (B : Nat) (st : Int) (f : Nat → Smp) (ch s v : Int) (w : World) (h : Bk w B st f) :
    Calls Try.prog 8 #[.pointer (some ⟨B, 0, none⟩), .int .i64 ch, .int .u8 s, .int .i64 v] w fun e w' => e = .returned (.bool (bPut f ch s)) ∧ Bk w' B st (fPut f ch s v) ∧ Only B w w' := by
  unfold bPut fPut
  by_cases hc : 1 ≤ ch ∧ ch < 48
  · rw [if_pos hc, if_pos hc]; exact putI B st f ch hc.1 hc.2 s v w h
  · rw [if_neg hc, if_neg hc]
    exact (putX B ch s v (inCh_no hc) w).mono fun e w' h' => ⟨h'.1, h.below h'.2 h.lt, Only.of_below _ h'.2⟩
theorem getG (B : Nat) (st : Int) (f : Nat → Smp) (ch : Int) (w : World) (h : Bk w B st f) :
    Calls Try.prog 12 #[.pointer (some ⟨B, 0, none⟩), .int .i64 ch] w fun e w' => e = .returned (.tuple #[.int .i64 (vGet f ch), .bool (fGet st f ch)]) ∧ Below w.heap.size w w' := by
  unfold vGet fGet
  by_cases hc : 1 ≤ ch ∧ ch < 48
  · rw [if_pos hc, if_pos hc]; exact getI B st f ch hc.1 hc.2 w h
  · rw [if_neg hc, if_neg hc]; exact getX B ch (inCh_no hc) w
theorem ageG (B : Nat) (st : Int) (f : Nat → Smp) (ch : Int) (w : World) (h : Bk w B st f) :
    Calls Try.prog 14 #[.pointer (some ⟨B, 0, none⟩), .int .i64 ch] w fun e w' => e = .returned (.int .i64 (aGet f ch)) ∧ Below w.heap.size w w' := by
  unfold aGet
  by_cases hc : 1 ≤ ch ∧ ch < 48
  · rw [if_pos hc]
    by_cases hz : (f ch.toNat).there = true
    · rw [if_pos hz]; exact ageI B st f ch hc.1 hc.2 hz w h
    · rw [if_neg hz]; exact ageN B st f ch hc.1 hc.2 (Bool.eq_false_iff.2 hz) w h
  · rw [if_neg hc]; exact ageX B ch (inCh_no hc) w
end Go.Proofs.Ytakdoagigbjngaa
