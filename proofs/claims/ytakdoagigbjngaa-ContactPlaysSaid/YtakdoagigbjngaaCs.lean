/- What a cycle does to a contactor, by a plain definition; its block alone changes. Conditions: its counts are small. -/
import Derived.Test.YtakdoagigbjngaaCt
namespace Go.Proofs.Ytakdoagigbjngaa
open Go.RowKit
theorem stepC (B : Nat) (k : CK) (t : Bool) (v : Int) (f : Bool) (hs : -2 ≤ k.s) (hs2 : k.s ≤ 1000) (hg : 0 ≤ k.g) (hg2 : k.g ≤ 1000000) (w : World) (h : Ct w B k) :
    Calls Try.prog 20 #[.pointer (some ⟨B, 0, none⟩), .bool t, .agg #[.int .i64 v, .bool f]] w fun e w' => e = .returned (.tuple #[]) ∧ Ct w' B (k.step t v f) ∧ Only B w w' := by
  obtain ⟨D, L, c, s, g, v0, f0, p, q⟩ := k
  simp only [] at hs hs2 hg hg2
  have e1 : s < 1000 → min (s + 1) 1000 = s + 1 := fun h => by omega
  have e2 : s = 1000 → min (s + 1) 1000 = 1000 := fun h => by omega
  unfold CK.step
  cases t <;> cases c <;> cases f
  · by_cases hlt : s < 1000
    · rw [show CK.look (CK.tell ⟨D, L, false, s, g, v0, f0, p, q⟩ false) v false = ⟨D, L, false, s + 1, g, v, false, p, q⟩ by show (⟨D, L, false, min (s + 1) 1000, g, v, false, p, q⟩ : CK) = _; rw [e1 hlt]]
      exact step0000 B D L s g v0 v f0 p q hs hlt hg hg2 w h
    · have e4 : s = 1000 := by omega
      rw [show CK.look (CK.tell ⟨D, L, false, s, g, v0, f0, p, q⟩ false) v false = ⟨D, L, false, 1000, g, v, false, p, q⟩ by show (⟨D, L, false, min (s + 1) 1000, g, v, false, p, q⟩ : CK) = _; rw [e2 e4]]
      exact step0001 B D L s g v0 v f0 p q hs e4 hg hg2 w h
  · by_cases hlt : s < 1000
    · rw [show CK.look (CK.tell ⟨D, L, false, s, g, v0, f0, p, q⟩ false) v true = ⟨D, L, false, s + 1, g, v, true, p, q⟩ by show (⟨D, L, false, min (s + 1) 1000, g, v, true, p, q⟩ : CK) = _; rw [e1 hlt]]
      exact step0010 B D L s g v0 v f0 p q hs hlt hg hg2 w h
    · have e4 : s = 1000 := by omega
      rw [show CK.look (CK.tell ⟨D, L, false, s, g, v0, f0, p, q⟩ false) v true = ⟨D, L, false, 1000, g, v, true, p, q⟩ by show (⟨D, L, false, min (s + 1) 1000, g, v, true, p, q⟩ : CK) = _; rw [e2 e4]]
      exact step0011 B D L s g v0 v f0 p q hs e4 hg hg2 w h
  · exact step0100 B D L s g v0 v f0 p q hg hg2 w h
  · exact step0110 B D L s g v0 v f0 p q hg hg2 w h
  · exact step1000 B D L s g v0 v f0 p q hg hg2 w h
  · exact step1010 B D L s g v0 v f0 p q hg hg2 w h
  · by_cases hlt : s < 1000
    · rw [show CK.look (CK.tell ⟨D, L, true, s, g, v0, f0, p, q⟩ true) v false = ⟨D, L, true, s + 1, g, v, false, p, q⟩ by show (⟨D, L, true, min (s + 1) 1000, g, v, false, p, q⟩ : CK) = _; rw [e1 hlt]]
      exact step1100 B D L s g v0 v f0 p q hs hlt hg hg2 w h
    · have e4 : s = 1000 := by omega
      rw [show CK.look (CK.tell ⟨D, L, true, s, g, v0, f0, p, q⟩ true) v false = ⟨D, L, true, 1000, g, v, false, p, q⟩ by show (⟨D, L, true, min (s + 1) 1000, g, v, false, p, q⟩ : CK) = _; rw [e2 e4]]
      exact step1101 B D L s g v0 v f0 p q hs e4 hg hg2 w h
  · by_cases hlt : s < 1000
    · rw [show CK.look (CK.tell ⟨D, L, true, s, g, v0, f0, p, q⟩ true) v true = ⟨D, L, true, s + 1, g, v, true, p, q⟩ by show (⟨D, L, true, min (s + 1) 1000, g, v, true, p, q⟩ : CK) = _; rw [e1 hlt]]
      exact step1110 B D L s g v0 v f0 p q hs hlt hg hg2 w h
    · have e4 : s = 1000 := by omega
      rw [show CK.look (CK.tell ⟨D, L, true, s, g, v0, f0, p, q⟩ true) v true = ⟨D, L, true, 1000, g, v, true, p, q⟩ by show (⟨D, L, true, min (s + 1) 1000, g, v, true, p, q⟩ : CK) = _; rw [e2 e4]]
      exact step1111 B D L s g v0 v f0 p q hs e4 hg hg2 w h
end Go.Proofs.Ytakdoagigbjngaa
