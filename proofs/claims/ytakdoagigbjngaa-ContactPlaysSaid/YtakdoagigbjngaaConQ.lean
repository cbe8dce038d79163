/- A contactor that is made; the first examples. No condition. -/
import Derived.Test.YtakdoagigbjngaaCs
import Derived.Test.YtakdoagigbjngaaCame
namespace Go.Proofs.Ytakdoagigbjngaa
open Go.RowKit
set_option linter.unusedVariables false
theorem ret_ci {a b : Int} (h : a = b) : Ending.returned (.int .i64 a) = .returned (.int .i64 b) := by rw [h]
def cutc (n : Int) : Int := max (min n 1000) 1
theorem cutc_in (n : Int) (h1 : 1 ≤ n) (h2 : n ≤ 1000) : cutc n = n := by unfold cutc; omega
theorem cyclesC (n : Int) (w : World) :
    Calls Try.prog 31 #[.int .i64 n] w fun e w' => e = .returned (.int .i64 (cutc n)) ∧ w = w' := by
  unfold cutc
  by_cases h1 : n ≤ 1000
  · by_cases h2 : 1 ≤ n
    · rw [show max (min n 1000) 1 = n by omega]
      go_enter Try.func31, Try.ntmps31
      go_wp2
      all_goals
        go_ret
        exact ⟨ret_ci (by omega), rfl⟩
    · rw [show max (min n 1000) 1 = 1 by omega]
      go_enter Try.func31, Try.ntmps31
      go_wp2
      all_goals
        go_ret
        exact ⟨ret_ci (by omega), rfl⟩
  · rw [show max (min n 1000) 1 = 1000 by omega]
    go_enter Try.func31, Try.ntmps31
    go_wp2
    all_goals
      go_ret
      exact ⟨ret_ci (by omega), rfl⟩
theorem newC (d b : Int) (w : World) :
    Calls Try.prog 17 #[.int .i64 d, .int .i64 b] w fun e w' => e = .returned (.pointer (some ⟨w.heap.size, 0, none⟩)) ∧ Ct w' w.heap.size ⟨cutc d, cutc b, false, -2, 0, 0, false, false, false⟩ ∧ Below w.heap.size w w' := by
  go_enter Try.func17, Try.ntmps17
  go_wp2_with fail
  refine (cyclesC d _).mono ?_
  rintro e w' ⟨rfl, rfl⟩
  go_wp2_with fail
  refine (cyclesC b _).mono ?_
  rintro e w' ⟨rfl, rfl⟩
  go_wp2_with fail
  go_ret
  refine ⟨rfl, ?_, (Below.refl _ _).alloc (Nat.le_refl _) _⟩
  unfold Ct
  show (w.heap.push _)[w.heap.size]? = _
  simp
theorem Ct.drew {W : World} {B : Nat} {k : CK} (h : Ct W B k) : Ct W.drew B k := h
/-- A sample that lies at block S. -/
def Sm (w : World) (S : Nat) (v : Int) (f : Bool) : Prop := w.heap[S]? = some (.cells #[.int .i64 v, .bool f] 35 (0, 0))
theorem Sm.cells {w : World} {S : Nat} {v : Int} {f : Bool} (h : Sm w S v f) : w.cell? ⟨S, 0, none⟩ = some (.int .i64 v) ∧ w.cell? ⟨S, 1, none⟩ = some (.bool f) ∧ w.frozen? ⟨S, 0, none⟩ = false ∧ w.frozen? ⟨S, 1, none⟩ = false ∧ S < w.heap.size := by
  have hl := (Array.getElem?_eq_some_iff.1 h).1
  unfold Sm at h
  refine ⟨?_, ?_, ?_, ?_, hl⟩ <;> simp [World.cell?, World.frozen?, h]
theorem Sm.only {w w' : World} {B S : Nat} {v : Int} {f : Bool} (h : Sm w S v f) (hb : Only B w w') (hn : S ≠ B) : Sm w' S v f := hb.row h hn
theorem Sm.below {w w' : World} {S : Nat} {v : Int} {f : Bool} (h : Sm w S v f) (hb : Below w.heap.size w w') : Sm w' S v f := by
  unfold Sm at *
  rw [hb.block S (Array.getElem?_eq_some_iff.1 h).1]; exact h
theorem Sm.new (w : World) (v : Int) (f : Bool) : Sm (w.alloc (.cells #[.int .i64 v, .bool f] 35)) w.heap.size v f := by
  unfold Sm
  show (w.heap.push _)[w.heap.size]? = _
  simp
theorem Sm.setV {w : World} {S : Nat} {v : Int} {f : Bool} (h : Sm w S v f) (x : Int) : Sm (w.setCell ⟨S, 0, none⟩ (.int .i64 x)) S x f := by
  unfold Sm at *; simp [World.setCell, Array.getElem?_modify, h]
theorem CK.run (k : CK) (t : Bool) (v : Int) (f : Bool) (hs : -2 ≤ k.s) (hs2 : k.s ≤ 1000) (hg : 0 ≤ k.g) :
    -2 ≤ (k.step t v f).s ∧ (k.step t v f).s ≤ 1000 ∧ 0 ≤ (k.step t v f).g ∧ (k.step t v f).g ≤ k.g + 1 ∧ (k.step t v f).D = k.D ∧ (k.step t v f).L = k.L := by
  obtain ⟨D, L, c, s, g, v0, f0, p, q⟩ := k
  simp only [] at hs hs2 hg
  unfold CK.step CK.judge CK.tell CK.look
  repeat' split
  all_goals (refine ⟨?_, ?_, ?_, ?_, rfl, rfl⟩ <;> (simp only []; omega))
theorem CK.calm (k : CK) (t : Bool) (v : Int) (f : Bool) (hl : k.g + 1 < k.L) (hl0 : 1 < k.L) : (k.step t v f).p = k.p ∧ (k.step t v f).q = k.q := by
  obtain ⟨D, L, c, s, g, v0, f0, p, q⟩ := k
  simp only [] at hl hl0
  unfold CK.step CK.judge CK.tell CK.look
  repeat' split
  all_goals first
    | exact ⟨rfl, rfl⟩
    | (rename_i h; simp only [] at h; omega)
theorem CK.blind (k : CK) (t : Bool) (v : Int) (hg : k.g = 0) : (k.step t v false).p = k.p ∧ (k.step t v false).q = k.q ∧ (k.step t v false).op = false ∧ (k.step t v false).cl = false ∧ (k.step t v false).g = 0 := by
  have e : k.step t v false = (k.tell t).look v false := by
    unfold CK.step CK.judge
    exact if_pos rfl
  rw [e]
  obtain ⟨D, L, c, s, g, v0, f0, p, q⟩ := k
  simp only [] at hg
  unfold CK.tell CK.look CK.op CK.cl
  split
  · exact ⟨rfl, rfl, by simp, rfl, hg⟩
  · exact ⟨rfl, rfl, by simp, rfl, rfl⟩
theorem first16 (w : World) : Calls Try.prog 16 #[] w fun e w' => e = .returned (.bool true) ∧ Below w.heap.size w w' := by
  go_enter Try.func16, Try.ntmps16
  go_wp2_with fail
  refine (newC 1 1 _).mono ?_
  rintro e w1 ⟨rfl, H1, hb⟩
  have F := Lib.hid H1
  have T := Lib.hid hb
  have SB := Lib.hid (Nat.le_refl w.heap.size)
  clear H1 hb
  obtain ⟨B, hB⟩ : ∃ B, w.heap.size = B := ⟨_, rfl⟩
  have SB := Lib.hid (Nat.le_of_eq hB)
  rw [hB] at F ⊢
  clear hB
  have F0 : Hid (Ct w1 B ⟨1, 1, false, -2, 0, 0, false, false, false⟩) := F
  clear F
  have F := F0
  clear F0
  go_wp2_with fail
  refine (openC B _ _ F.out).mono ?_
  rintro e w1 ⟨he, hb⟩
  rw [show CK.op ⟨1, 1, false, -2, 0, 0, false, false, false⟩ = false from rfl] at he
  subst he
  have T' := Lib.hid (T.out.trans (hb.mono T.out.size))
  have F' := Lib.hid (F.out.below hb)
  clear hb T F
  have T := T'
  have F := F'
  clear T' F'
  go_wp2_with fail
  refine (stepC B ⟨1, 1, false, -2, 0, 0, false, false, false⟩ false 0 true (by decide) (by decide) (by decide) (by decide) _ F.out).mono ?_
  rintro e w1 ⟨rfl, H1, hb⟩
  rw [show CK.step ⟨1, 1, false, -2, 0, 0, false, false, false⟩ false 0 true = ⟨1, 1, false, -1, 0, 0, true, false, false⟩ from rfl] at H1
  have F' := Lib.hid H1
  have T' := Lib.hid (T.out.trans (hb.below SB.out T.out.size))
  clear H1 hb T F
  have T := T'
  have F := F'
  clear T' F'
  go_wp2_with fail
  refine (stepC B ⟨1, 1, false, -1, 0, 0, true, false, false⟩ false 0 true (by decide) (by decide) (by decide) (by decide) _ F.out).mono ?_
  rintro e w1 ⟨rfl, H1, hb⟩
  rw [show CK.step ⟨1, 1, false, -1, 0, 0, true, false, false⟩ false 0 true = ⟨1, 1, false, 0, 0, 0, true, false, false⟩ from rfl] at H1
  have F' := Lib.hid H1
  have T' := Lib.hid (T.out.trans (hb.below SB.out T.out.size))
  clear H1 hb T F
  have T := T'
  have F := F'
  clear T' F'
  go_wp2_with fail
  refine (openC B _ _ F.out).mono ?_
  rintro e w1 ⟨he, hb⟩
  rw [show CK.op ⟨1, 1, false, 0, 0, 0, true, false, false⟩ = false from rfl] at he
  subst he
  have T' := Lib.hid (T.out.trans (hb.mono T.out.size))
  have F' := Lib.hid (F.out.below hb)
  clear hb T F
  have T := T'
  have F := F'
  clear T' F'
  go_wp2_with fail
  refine (stepC B ⟨1, 1, false, 0, 0, 0, true, false, false⟩ false 0 true (by decide) (by decide) (by decide) (by decide) _ F.out).mono ?_
  rintro e w1 ⟨rfl, H1, hb⟩
  rw [show CK.step ⟨1, 1, false, 0, 0, 0, true, false, false⟩ false 0 true = ⟨1, 1, false, 1, 0, 0, true, false, false⟩ from rfl] at H1
  have F' := Lib.hid H1
  have T' := Lib.hid (T.out.trans (hb.below SB.out T.out.size))
  clear H1 hb T F
  have T := T'
  have F := F'
  clear T' F'
  go_wp2_with fail
  refine (openC B _ _ F.out).mono ?_
  rintro e w1 ⟨he, hb⟩
  rw [show CK.op ⟨1, 1, false, 1, 0, 0, true, false, false⟩ = true from rfl] at he
  subst he
  have T' := Lib.hid (T.out.trans (hb.mono T.out.size))
  have F' := Lib.hid (F.out.below hb)
  clear hb T F
  have T := T'
  have F := F'
  clear T' F'
  go_wp2_with fail
  refine (closedC B _ _ F.out).mono ?_
  rintro e w1 ⟨he, rfl⟩
  rw [show CK.cl ⟨1, 1, false, 1, 0, 0, true, false, false⟩ = false from rfl] at he
  subst he
  go_wp2_with fail
  go_ret
  exact ⟨rfl, T.out⟩
end Go.Proofs.Ytakdoagigbjngaa
