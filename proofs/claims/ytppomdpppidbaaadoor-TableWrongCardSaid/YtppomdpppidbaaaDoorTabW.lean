/- The least number that is so. -/
import Derived.Test.YtppomdpppidbaaaDoorTabA
import Derived.ScopeJumps
namespace Go.Proofs.YtppomdpppidbaaaDoor
open Go.RowKit
set_option linter.unusedVariables false
theorem jump_ret {l : Nat} {J : Act → World → Prop} {Q : Exit → Act → World → Prop} {a : Act} {w : World} : Exit.jump l J Q .ret a w = Q .ret a w := rfl
theorem jump_goto {l : Nat} {J : Act → World → Prop} {Q : Exit → Act → World → Prop} {a : Act} {w : World} (h : J a w) : Exit.jump l J Q (.goto l) a w := ⟨rfl, h⟩
theorem firstC1 (lo hi : Int) (p q : Addr) (so : Int → Bool) (w : World) (h1 : -1073741824 ≤ lo) (h2 : hi ≤ 1073741824) (h3 : lo ≤ hi + 1)
    (hm : ∀ c d, lo ≤ c → c ≤ d → d ≤ hi → so c = true → so d = true)
    (hk : ∀ mid, lo ≤ mid → mid ≤ hi → ∀ wx, Below w.heap.size w wx → Calls Tryd.prog 22 #[.int .i64 mid, .pointer (some p), .pointer (some q)] wx fun e w' => e = .returned (.bool (so mid)) ∧ Below wx.heap.size wx w') :
    Calls Tryd.prog 21 #[.int .i64 lo, .int .i64 hi, .func (.func 22) #[] #[.pointer (some p), .pointer (some q)]] w fun e w' => ∃ r : Int, e = .returned (.int .i64 r) ∧ lo ≤ r ∧ r ≤ hi + 1 ∧ (∀ k, lo ≤ k → k < r → so k = false) ∧ (∀ k, r ≤ k → k ≤ hi → so k = true) ∧ Below w.heap.size w w' := by
  have HM := Lib.hid hm
  have HK := Lib.hid hk
  clear hm hk
  go_enter Tryd.func21, Tryd.ntmps21
  go_wp2_with fail
  refine wp_scope_jumps 0 (fun a w' => ∃ (l h : Int) (v3 v4 v5 v6 v7 v8 v9 v10 v11 v12 v13 v14 v15 v16 v17 v18 v19 v20 v21 v22 v23 v24 : Value), a = ⟨#[.int .i64 l, .int .i64 h, .func (.func 22) #[] #[.pointer (some p), .pointer (some q)], v3, v4, v5, v6, v7, v8, v9, v10, v11, v12, v13, v14, v15, v16, v17, v18, v19, v20, v21, v22, v23, v24], []⟩ ∧ lo ≤ l ∧ h ≤ hi ∧ l ≤ h + 1 ∧ (∀ k, lo ≤ k → k < l → so k = false) ∧ (∀ k, h < k → k ≤ hi → so k = true) ∧ Below w.heap.size w w') (fun a _ => (intOf (a.tmps.getD 1 undef) + 1 - intOf (a.tmps.getD 0 undef)).toNat) rfl ?first ?pass
  case pass =>
    rintro a w' ⟨l, h, v3, v4, v5, v6, v7, v8, v9, v10, v11, v12, v13, v14, v15, v16, v17, v18, v19, v20, v21, v22, v23, v24, rfl, a1, a2, a3, a4, a5, hb⟩
    have A4 := Lib.hid a4
    have A5 := Lib.hid a5
    have HB := Lib.hid hb
    clear a4 a5 hb
    by_cases hl : h < l
    · go_wp2_with fail
      rw [jump_ret]
      go_ret
      exact ⟨l, rfl, a1, by omega, A4.out, fun k h5 h6 => A5.out k (by omega) h6, HB.out⟩
    · obtain ⟨mid, hmid⟩ : ∃ m : Int, l + (h - l) / 2 = m := ⟨_, rfl⟩
      have m1 : l ≤ mid := by omega
      have m2 : mid ≤ h := by omega
      have KM := Lib.hid (HK.out mid (by omega) (by omega) _ HB.out)
      go_wp2_with fail
      refine KM.out.mono ?_
      rintro e w5 ⟨rfl, hb5⟩
      have HB5 := Lib.hid (HB.out.trans (hb5.mono HB.out.size))
      clear hb5
      cases hs : so mid
      · go_wp2_with fail
        go_step3
        refine jump_goto ?_
        have nf : ∀ k, lo ≤ k → k < mid + 1 → so k = false := fun k h5 h6 => by
          cases hk : so k with
          | false => rfl
          | true => rw [HM.out k mid h5 (by omega) (by omega) hk] at hs; cases hs
        exact ⟨⟨mid + 1, h, _, _, _, _, _, _, _, _, _, _, _, _, _, _, _, _, _, _, _, _, _, _, rfl, by omega, by omega, by omega, nf, A5.out, HB5.out⟩, by simp [intOf]; omega⟩
      · go_wp2_with fail
        go_step3
        refine jump_goto ?_
        exact ⟨⟨l, mid - 1, _, _, _, _, _, _, _, _, _, _, _, _, _, _, _, _, _, _, _, _, _, _, rfl, by omega, by omega, by omega, A4.out, fun k h5 h6 => HM.out mid k (by omega) (by omega) h6 hs, HB5.out⟩, by simp [intOf]; omega⟩
  case first =>
    have A4 := Lib.hid (show ∀ k, lo ≤ k → k < lo → so k = false from fun k h5 h6 => by omega)
    have A5 := Lib.hid (show ∀ k, hi < k → k ≤ hi → so k = true from fun k h5 h6 => by omega)
    have HB := Lib.hid (Below.refl w.heap.size w)
    by_cases hl : hi < lo
    · go_wp2_with fail
      go_step3
      go_wp2_with fail
      rw [jump_ret]
      go_ret
      exact ⟨lo, rfl, by omega, by omega, A4.out, fun k h5 h6 => A5.out k (by omega) h6, HB.out⟩
    · obtain ⟨mid, hmid⟩ : ∃ m : Int, lo + (hi - lo) / 2 = m := ⟨_, rfl⟩
      have m1 : lo ≤ mid := by omega
      have m2 : mid ≤ hi := by omega
      have KM := Lib.hid (HK.out mid (by omega) (by omega) _ HB.out)
      go_wp2_with fail
      go_step3
      go_wp2_with fail
      refine KM.out.mono ?_
      rintro e w5 ⟨rfl, hb5⟩
      have HB5 := Lib.hid (HB.out.trans (hb5.mono HB.out.size))
      clear hb5
      cases hs : so mid
      · go_wp2_with fail
        go_step3
        refine jump_goto ?_
        have nf : ∀ k, lo ≤ k → k < mid + 1 → so k = false := fun k h5 h6 => by
          cases hk : so k with
          | false => rfl
          | true => rw [HM.out k mid h5 (by omega) (by omega) hk] at hs; cases hs
        exact ⟨mid + 1, hi, _, _, _, _, _, _, _, _, _, _, _, _, _, _, _, _, _, _, _, _, _, _, rfl, by omega, by omega, by omega, nf, A5.out, HB5.out⟩
      · go_wp2_with fail
        go_step3
        refine jump_goto ?_
        exact ⟨lo, mid - 1, _, _, _, _, _, _, _, _, _, _, _, _, _, _, _, _, _, _, _, _, _, _, rfl, by omega, by omega, by omega, A4.out, fun k h5 h6 => HM.out mid k (by omega) (by omega) h6 hs, HB5.out⟩
theorem firstC2 (lo hi : Int) (p q : Addr) (so : Int → Bool) (w : World) (h1 : -1073741824 ≤ lo) (h2 : hi ≤ 1073741824) (h3 : lo ≤ hi + 1)
    (hm : ∀ c d, lo ≤ c → c ≤ d → d ≤ hi → so c = true → so d = true)
    (hk : ∀ mid, lo ≤ mid → mid ≤ hi → ∀ wx, Below w.heap.size w wx → Calls Tryd.prog 24 #[.int .i64 mid, .pointer (some p), .pointer (some q)] wx fun e w' => e = .returned (.bool (so mid)) ∧ Below wx.heap.size wx w') :
    Calls Tryd.prog 21 #[.int .i64 lo, .int .i64 hi, .func (.func 24) #[] #[.pointer (some p), .pointer (some q)]] w fun e w' => ∃ r : Int, e = .returned (.int .i64 r) ∧ lo ≤ r ∧ r ≤ hi + 1 ∧ (∀ k, lo ≤ k → k < r → so k = false) ∧ (∀ k, r ≤ k → k ≤ hi → so k = true) ∧ Below w.heap.size w w' := by
  have HM := Lib.hid hm
  have HK := Lib.hid hk
  clear hm hk
  go_enter Tryd.func21, Tryd.ntmps21
  go_wp2_with fail
  refine wp_scope_jumps 0 (fun a w' => ∃ (l h : Int) (v3 v4 v5 v6 v7 v8 v9 v10 v11 v12 v13 v14 v15 v16 v17 v18 v19 v20 v21 v22 v23 v24 : Value), a = ⟨#[.int .i64 l, .int .i64 h, .func (.func 24) #[] #[.pointer (some p), .pointer (some q)], v3, v4, v5, v6, v7, v8, v9, v10, v11, v12, v13, v14, v15, v16, v17, v18, v19, v20, v21, v22, v23, v24], []⟩ ∧ lo ≤ l ∧ h ≤ hi ∧ l ≤ h + 1 ∧ (∀ k, lo ≤ k → k < l → so k = false) ∧ (∀ k, h < k → k ≤ hi → so k = true) ∧ Below w.heap.size w w') (fun a _ => (intOf (a.tmps.getD 1 undef) + 1 - intOf (a.tmps.getD 0 undef)).toNat) rfl ?first ?pass
  case pass =>
    rintro a w' ⟨l, h, v3, v4, v5, v6, v7, v8, v9, v10, v11, v12, v13, v14, v15, v16, v17, v18, v19, v20, v21, v22, v23, v24, rfl, a1, a2, a3, a4, a5, hb⟩
    have A4 := Lib.hid a4
    have A5 := Lib.hid a5
    have HB := Lib.hid hb
    clear a4 a5 hb
    by_cases hl : h < l
    · go_wp2_with fail
      rw [jump_ret]
      go_ret
      exact ⟨l, rfl, a1, by omega, A4.out, fun k h5 h6 => A5.out k (by omega) h6, HB.out⟩
    · obtain ⟨mid, hmid⟩ : ∃ m : Int, l + (h - l) / 2 = m := ⟨_, rfl⟩
      have m1 : l ≤ mid := by omega
      have m2 : mid ≤ h := by omega
      have KM := Lib.hid (HK.out mid (by omega) (by omega) _ HB.out)
      go_wp2_with fail
      refine KM.out.mono ?_
      rintro e w5 ⟨rfl, hb5⟩
      have HB5 := Lib.hid (HB.out.trans (hb5.mono HB.out.size))
      clear hb5
      cases hs : so mid
      · go_wp2_with fail
        go_step3
        refine jump_goto ?_
        have nf : ∀ k, lo ≤ k → k < mid + 1 → so k = false := fun k h5 h6 => by
          cases hk : so k with
          | false => rfl
          | true => rw [HM.out k mid h5 (by omega) (by omega) hk] at hs; cases hs
        exact ⟨⟨mid + 1, h, _, _, _, _, _, _, _, _, _, _, _, _, _, _, _, _, _, _, _, _, _, _, rfl, by omega, by omega, by omega, nf, A5.out, HB5.out⟩, by simp [intOf]; omega⟩
      · go_wp2_with fail
        go_step3
        refine jump_goto ?_
        exact ⟨⟨l, mid - 1, _, _, _, _, _, _, _, _, _, _, _, _, _, _, _, _, _, _, _, _, _, _, rfl, by omega, by omega, by omega, A4.out, fun k h5 h6 => HM.out mid k (by omega) (by omega) h6 hs, HB5.out⟩, by simp [intOf]; omega⟩
  case first =>
    have A4 := Lib.hid (show ∀ k, lo ≤ k → k < lo → so k = false from fun k h5 h6 => by omega)
    have A5 := Lib.hid (show ∀ k, hi < k → k ≤ hi → so k = true from fun k h5 h6 => by omega)
    have HB := Lib.hid (Below.refl w.heap.size w)
    by_cases hl : hi < lo
    · go_wp2_with fail
      go_step3
      go_wp2_with fail
      rw [jump_ret]
      go_ret
      exact ⟨lo, rfl, by omega, by omega, A4.out, fun k h5 h6 => A5.out k (by omega) h6, HB.out⟩
    · obtain ⟨mid, hmid⟩ : ∃ m : Int, lo + (hi - lo) / 2 = m := ⟨_, rfl⟩
      have m1 : lo ≤ mid := by omega
      have m2 : mid ≤ hi := by omega
      have KM := Lib.hid (HK.out mid (by omega) (by omega) _ HB.out)
      go_wp2_with fail
      go_step3
      go_wp2_with fail
      refine KM.out.mono ?_
      rintro e w5 ⟨rfl, hb5⟩
      have HB5 := Lib.hid (HB.out.trans (hb5.mono HB.out.size))
      clear hb5
      cases hs : so mid
      · go_wp2_with fail
        go_step3
        refine jump_goto ?_
        have nf : ∀ k, lo ≤ k → k < mid + 1 → so k = false := fun k h5 h6 => by
          cases hk : so k with
          | false => rfl
          | true => rw [HM.out k mid h5 (by omega) (by omega) hk] at hs; cases hs
        exact ⟨mid + 1, hi, _, _, _, _, _, _, _, _, _, _, _, _, _, _, _, _, _, _, _, _, _, _, rfl, by omega, by omega, by omega, nf, A5.out, HB5.out⟩
      · go_wp2_with fail
        go_step3
        refine jump_goto ?_
        exact ⟨lo, mid - 1, _, _, _, _, _, _, _, _, _, _, _, _, _, _, _, _, _, _, _, _, _, _, rfl, by omega, by omega, by omega, A4.out, fun k h5 h6 => HM.out mid k (by omega) (by omega) h6 hs, HB5.out⟩
end Go.Proofs.YtppomdpppidbaaaDoor
