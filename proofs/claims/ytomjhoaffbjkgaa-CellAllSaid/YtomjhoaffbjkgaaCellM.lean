/- Plain mathematics of cells' flags. No condition. -/
import Derived.Test.YtomjhoaffbjkgaaCame
namespace Go.Proofs.Ytomjhoaffbjkgaa
def fl (u o g h b : Bool) : Int := u.toInt * 1 + o.toInt * 2 + g.toInt * 4 + h.toInt * 8 + b.toInt * 16
def loL : List Int → Int | [] => 0 | z :: t => t.foldl min z
def hiL : List Int → Int | [] => 0 | z :: t => t.foldl max z
theorem loL_snoc (l : List Int) (z : Int) : loL (l ++ [z]) = if l = [] then z else min (loL l) z := by
  cases l with
  | nil => rfl
  | cons a t => simp [loL, List.foldl_append]
theorem hiL_snoc (l : List Int) (z : Int) : hiL (l ++ [z]) = if l = [] then z else max (hiL l) z := by
  cases l with
  | nil => rfl
  | cons a t => simp [hiL, List.foldl_append]
theorem loL_bd (l : List Int) (a b : Int) (h : ∀ z ∈ l, a ≤ z ∧ z ≤ b) (h0 : l ≠ []) : a ≤ loL l ∧ loL l ≤ b := by
  cases l with
  | nil => exact absurd rfl h0
  | cons z t =>
    have : ∀ (t : List Int) (z : Int), a ≤ z ∧ z ≤ b → (∀ x ∈ t, a ≤ x ∧ x ≤ b) → a ≤ t.foldl min z ∧ t.foldl min z ≤ b := by
      intro t
      induction t with
      | nil => intro z hz _; exact hz
      | cons y t ih => intro z hz ht; exact ih _ (by have := ht y (by simp); omega) fun x hx => ht x (by simp [hx])
    exact this t z (h z (by simp)) fun x hx => h x (by simp [hx])
theorem hiL_bd (l : List Int) (a b : Int) (h : ∀ z ∈ l, a ≤ z ∧ z ≤ b) (h0 : l ≠ []) : a ≤ hiL l ∧ hiL l ≤ b := by
  cases l with
  | nil => exact absurd rfl h0
  | cons z t =>
    have : ∀ (t : List Int) (z : Int), a ≤ z ∧ z ≤ b → (∀ x ∈ t, a ≤ x ∧ x ≤ b) → a ≤ t.foldl max z ∧ t.foldl max z ≤ b := by
      intro t
      induction t with
      | nil => intro z hz _; exact hz
      | cons y t ih => intro z hz ht; exact ih _ (by have := ht y (by simp); omega) fun x hx => ht x (by simp [hx])
    exact this t z (h z (by simp)) fun x hx => h x (by simp [hx])
/-- What four cells' fresh volts are, the first k of them. -/
def volts (v : Nat → Int) (f : Nat → Bool) : Nat → List Int
  | 0 => []
  | k + 1 => if f k = true then volts v f k ++ [v k] else volts v f k
theorem volts_mem (v : Nat → Int) (f : Nat → Bool) (P : Int → Prop) : ∀ k, (∀ i, i < k → P (v i)) → ∀ z ∈ volts v f k, P z
  | 0, _, z, hz => by simp [volts] at hz
  | k + 1, h, z, hz => by
    unfold volts at hz
    split at hz
    · rcases List.mem_append.1 hz with hz | hz
      · exact volts_mem v f P k (fun i hi => h i (by omega)) z hz
      · simp at hz; subst hz; exact h k (by omega)
    · exact volts_mem v f P k (fun i hi => h i (by omega)) z hz
theorem volts_len (v : Nat → Int) (f : Nat → Bool) : ∀ k, (volts v f k).length ≤ k
  | 0 => by simp [volts]
  | k + 1 => by
    have := volts_len v f k
    unfold volts
    split
    · simp; omega
    · omega
/-- What the chapter says of the volts. -/
def vflags (mn mx gp : Int) (l : List Int) : Int := fl (l ≠ [] ∧ loL l < mn) (l ≠ [] ∧ mx < hiL l) (l ≠ [] ∧ gp < hiL l - loL l) false false
def flagsL (mn mx gp tm : Int) (l : List Int) (tv : Int) (tf : Bool) : Int :=
  fl (l ≠ [] ∧ loL l < mn) (l ≠ [] ∧ mx < hiL l) (l ≠ [] ∧ gp < hiL l - loL l) (tf = true ∧ tm < tv) (l.length < 3 ∨ tf = false)
end Go.Proofs.Ytomjhoaffbjkgaa
