/- A number behind bytes, the greatest first. Conditions: eight bytes at most, a thousand ahead of them. -/
import Derived.Test.YtngomgkinaodjaaDoorRec
import Derived.Test.YtngomgkinaodjaaDoorBytC
namespace Go.Proofs.YtngomgkinaodjaaDoor
open Go Go.RowKit
set_option linter.unusedVariables false
set_option maxRecDepth 20000
set_option maxHeartbeats 8000000 in
theorem numberS {va : Option Addr} {m vc base : Nat} {xs : List Value} (k : Nat) (hk : k ≤ 8) (hm : m ≤ 1000) (n : Int) (hn : 0 ≤ n) (w : World) (hbase : base ≤ w.heap.size) (hown : w.ownsRow base 5 1 (.slice va m vc) m xs) :
    Calls Tryd.prog 39 #[.slice va m vc, .int .i64 (k : Int), .int .u64 n] w fun e w' => ∃ va' vc', e = .returned (.slice va' (m + k) vc') ∧ w'.ownsRow base 5 1 (.slice va' (m + k) vc') (m + k) (xs ++ u8s (beL k n)) ∧ Below base w w' := by
  obtain ⟨i0, hi0, hz0, hz1, hz2⟩ := infoB
  have hmx : (1000000 : Nat) ≤ maxLen := by decide
  have H0 := Lib.hid hown
  clear hown
  have ek : IntKind.i64.wrap ((k : Int) - 1) = (k : Int) - 1 := IntWalk.i64_in _ (by omega)
  go_enter Tryd.func39, Tryd.ntmps39
  go_wp2_with fail
  go_loopw [0, 7] (fun s v wr => ∃ (j : Nat) (va' : Option Addr) (vc' : Nat), j ≤ k ∧ v = .int .i64 ((k : Int) - 1 - j) ∧ s = .slice va' (m + j) vc' ∧ wr.ownsRow base 5 1 (.slice va' (m + j) vc') (m + j) (xs ++ u8s ((beL k n).take j)) ∧ Below base w wr) (fun _ v _ => (intOf v + 1).toNat)
  case atStart => exact ⟨0, va, vc, by omega, by simp, rfl, by simpa [u8s] using H0.out, Below.refl _ _⟩
  case round =>
    obtain ⟨j, va', vc', hj, rfl, rfl, ho, hb⟩ := hrel
    have FW := Lib.hid ho
    have FB := Lib.hid hb
    clear ho hb H0
    by_cases hl : j < k
    · obtain ⟨i, hi⟩ : ∃ i : Nat, (k : Int) - 1 - j = (i : Int) := ⟨k - 1 - j, by omega⟩
      have hi2 : k - 1 - j = i := by omega
      have hi7 : i ≤ 7 := by omega
      rw [hi]
      have e8 : IntKind.i64.wrap (8 * (i : Int)) = ((8 * i : Nat) : Int) := by rw [IntWalk.i64_in _ (by omega)]; omega
      have h64 : 8 * i < 64 := by omega
      have ew : IntKind.i64.wrap ((i : Int) - 1) = (i : Int) - 1 := IntWalk.i64_in _ (by omega)
      have TK := Lib.hid (show xs ++ u8s ((beL k n).take (j + 1)) = (xs ++ u8s ((beL k n).take j)) ++ [.int .u8 (n / 2 ^ (8 * i) % 256)] by
        rw [beL_take k n j hl, hi2, u8s_app, List.append_assoc]; rfl)
      have ub : IntKind.u8.wrap (n / 2 ^ (8 * i)) = n / 2 ^ (8 * i) % 256 := by rw [IntKind.wrap_u8]
      obtain ⟨y, hy⟩ : ∃ y, n / 2 ^ (8 * i) % 256 = y := ⟨_, rfl⟩
      rw [hy] at TK ub
      clear hy
      go_wp2_with (first
        | (at_builtin
           refine wpList_append_lies _ rfl _ _ 22 rfl base 5 i0 (.int .u8 0) 1 1 Tryd.underlying22 hi0 hz0 hz1 hz2 rfl (by decide) (.slice va' (m + j) vc') (m + j) _ rfl (FW.out.alloc _) ⟨wr.heap.size, 0, none⟩ 1 1 [.int .u8 y] rfl ?hl (World.news_of_block (heap_alloc_new _ _)) ?h1 (by decide) (by omega) (by omega) (by have := FB.out.size; simp; omega) _ rfl ?_
           case hl => rfl
           case h1 => simp [Value.oneCell']
           intro g vc3 w3 hown' hgrow hat hlt
           have G4 := Lib.hid hown'
           have G5 := Lib.hid ((FB.out.alloc (Nat.le_trans hbase FB.out.size) _).grown hgrow (by have := FB.out.size; simp; omega) (fun q hq => FW.out.lt q hq |>.1))
           clear hown' hgrow hat))
      go_roundw
      case rel => exact ⟨j + 1, some ⟨g, 0, none⟩, vc3, by omega, by congr 1; omega, rfl, by rw [TK.out]; exact G4.out, G5.out⟩
      case measure => simp [intOf] <;> omega
    · obtain rfl : j = k := by omega
      have e0 : (j : Int) - 1 - j = -1 := by omega
      rw [e0]
      go_wp2_with fail
      go_returns
      exact ⟨va', vc', rfl, by rw [List.take_of_length_le (by rw [beL_len]; omega)] at FW; exact FW.out, FB.out⟩
end Go.Proofs.YtngomgkinaodjaaDoor
