/- One bit or two that are other ones change a sum, wherever they are. No condition. -/
import Derived.Test.YtbgjfcnaiahehabCrcD
namespace Go.Proofs.Ytbgjfcnaiahehab
open Go.RowKit
theorem rnd_zero (x : BitVec 16) (h : rnd x = 0) : x = 0 := by
  rw [rnd_eq] at h
  by_cases ht : top x = true
  · rw [if_pos ht] at h
    have := congrArg (fun z => z.getLsbD 0) h
    simp [turn] at this
  · rw [if_neg ht] at h
    have ht' : x.getLsbD 15 = false := by unfold top at ht; simpa using ht
    apply BitVec.eq_of_getLsbD_eq
    intro i hi
    by_cases h15 : i = 15
    · subst h15; rw [ht']; simp
    · have h2 : ((x <<< 1) ^^^ (0 : BitVec 16)).getLsbD (i + 1) = x.getLsbD i := by
        simp [show i + 1 < 16 by omega]
        exact (BitVec.getLsbD_eq_getElem _).symm
      have h3 : ((x <<< 1) ^^^ (0 : BitVec 16)).getLsbD (i + 1) = (0 : BitVec 16).getLsbD (i + 1) := congrArg (fun z => z.getLsbD (i + 1)) h
      rw [← h2, h3]; simp
theorem rnds_nonzero (k : Nat) (x : BitVec 16) (h : x ≠ 0) : rnds k x ≠ 0 := by
  induction k with
  | zero => exact h
  | succ k ih => exact fun e => ih (rnd_zero _ e)
theorem rnds_add (a b : Nat) (x : BitVec 16) : rnds (a + b) x = rnds a (rnds b x) := by
  induction a with
  | zero => rw [Nat.zero_add]; rfl
  | succ a ih => rw [show a + 1 + b = (a + b) + 1 by omega]; show rnd (rnds (a + b) x) = rnd (rnds a (rnds b x)); rw [ih]
/-- No power up to so many is one. -/
def noOne : Nat → BitVec 16 → Bool
  | 0, _ => true
  | k + 1, x => rnd x != 1 && noOne k (rnd x)
theorem noOne_spec (k : Nat) (x : BitVec 16) (h : noOne k x = true) (d : Nat) (h1 : 1 ≤ d) (hd : d ≤ k) : rnds d x ≠ 1 := by
  induction k generalizing x d with
  | zero => omega
  | succ k ih =>
    simp only [noOne, Bool.and_eq_true] at h
    obtain ⟨ha, hb⟩ := h
    by_cases hd1 : d = 1
    · subst hd1; simpa [rnds] using ha
    · have := ih (rnd x) hb (d - 1) (by omega) (by omega)
      have e : rnds d x = rnds (d - 1) (rnd x) := by
        have := rnds_add (d - 1) 1 x
        rw [show d - 1 + 1 = d by omega] at this
        exact this
      rw [e]; exact this
theorem powers : noOne 2500 1 = true := by decide +kernel
theorem no_power (d : Nat) (h1 : 1 ≤ d) (hd : d ≤ 2500) : rnds d 1 ≠ 1 := noOne_spec 2500 1 powers d h1 hd
theorem apart (e f : Nat) (h : e < f) (hf : f ≤ e + 2500) : rnds e 1 ^^^ rnds f 1 ≠ 0 := by
  intro hx
  have h1 : rnds f 1 = rnds e (rnds (f - e) 1) := by rw [← rnds_add]; congr 1; omega
  rw [h1, ← rnds_xor] at hx
  have h2 : (1 : BitVec 16) ^^^ rnds (f - e) 1 ≠ 0 := fun hz => no_power (f - e) (by omega) (by omega) (BitVec.xor_eq_zero_iff.1 hz).symm
  exact rnds_nonzero e _ h2 hx
def oneB (b : Nat) : BitVec 8 := BitVec.ofNat 8 (2 ^ b)
/-- One bit alone. -/
def flip (j b : Nat) (t : Nat) : BitVec 8 := if t = j then oneB b else 0
theorem byte7 : ∀ b : Fin 8, crcB 0 (oneB b.val) = rnds (16 + b.val) 1 := by decide +kernel
theorem crcB_none (s : BitVec 16) : crcB s 0 = rnds 8 s := by
  unfold crcB
  rw [show up8 0 = 0 by decide]
  congr 1
  simp
theorem flip_before (j b n : Nat) (h : n ≤ j) : crcN 0 (flip j b) n = 0 := by
  induction n with
  | zero => rfl
  | succ n ih =>
    show crcB (crcN 0 (flip j b) n) (flip j b n) = 0
    rw [ih (by omega)]
    unfold flip
    rw [if_neg (by omega)]
    decide
theorem flip_sum (j b n : Nat) (hb : b < 8) : crcN 0 (flip j b) (j + 1 + n) = rnds (16 + b + 8 * n) 1 := by
  induction n with
  | zero =>
    show crcB (crcN 0 (flip j b) j) (flip j b j) = _
    rw [flip_before j b j (Nat.le_refl _)]
    unfold flip
    rw [if_pos rfl]
    exact byte7 ⟨b, hb⟩
  | succ n ih =>
    show crcB (crcN 0 (flip j b) (j + 1 + n)) (flip j b (j + 1 + n)) = _
    rw [ih]
    unfold flip
    rw [if_neg (by omega), crcB_none, ← rnds_add]
    congr 1; omega
theorem flip_at (j b n : Nat) (hb : b < 8) (hj : j < n) : crcN 0 (flip j b) n = rnds (16 + b + 8 * (n - 1 - j)) 1 := by
  have := flip_sum j b (n - 1 - j) hb
  rwa [show j + 1 + (n - 1 - j) = n by omega] at this
theorem one_flip (s : BitVec 16) (X : Nat → BitVec 8) (j b n : Nat) (hb : b < 8) (hj : j < n) : crcN s (fun t => X t ^^^ flip j b t) n ≠ crcN s X n := by
  have h := crcN_xor s 0 X (flip j b) n
  rw [show s ^^^ 0 = s by simp] at h
  rw [h, flip_at j b n hb hj]
  intro e
  have h1 : rnds (16 + b + 8 * (n - 1 - j)) 1 ≠ 0 := rnds_nonzero _ _ (by decide)
  apply h1
  have := congrArg (fun z => crcN s X n ^^^ z) e
  simpa [← BitVec.xor_assoc] using this
theorem two_flips (s : BitVec 16) (X : Nat → BitVec 8) (j b j' b' n : Nat) (hb : b < 8) (hj : j < n) (hb' : b' < 8) (hj' : j' < n) (hn : n ≤ 300) (hne : 8 * j + b ≠ 8 * j' + b') :
    crcN s (fun t => (X t ^^^ flip j b t) ^^^ flip j' b' t) n ≠ crcN s X n := by
  have h := crcN_xor s 0 (fun t => X t ^^^ flip j b t) (flip j' b') n
  have h0 := crcN_xor s 0 X (flip j b) n
  rw [show s ^^^ 0 = s by simp] at h h0
  rw [h, h0, flip_at j b n hb hj, flip_at j' b' n hb' hj']
  generalize he : 16 + b + 8 * (n - 1 - j) = e
  generalize hf : 16 + b' + 8 * (n - 1 - j') = f
  intro hx
  have hef : e ≠ f := by omega
  have hz : rnds e 1 ^^^ rnds f 1 ≠ 0 := by
    by_cases hlt : e < f
    · exact apart e f hlt (by omega)
    · rw [BitVec.xor_comm]; exact apart f e (by omega) (by omega)
  apply hz
  have := congrArg (fun z => crcN s X n ^^^ z) hx
  simpa [BitVec.xor_assoc, ← BitVec.xor_assoc (crcN s X n) (crcN s X n)] using this
theorem u8_one : ∀ b : Fin 8, IntKind.u8.wrap (2 ^ b.val) = u8v (oneB b.val) := by decide +kernel
end Go.Proofs.Ytbgjfcnaiahehab
