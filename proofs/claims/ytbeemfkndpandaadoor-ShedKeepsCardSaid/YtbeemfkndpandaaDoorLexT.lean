/- A long statement that reads, and writes at its end, walked in the order of the text, its order asked in a light way. Conditions: none. -/
import Derived.Test.YtbeemfkndpandaaDoorLex
import Derived.Test.YtbeemfkndpandaaDoorTail
namespace Go.Proofs.YtbeemfkndpandaaDoor
open Go Go.RowKit
def firstN (s n : Nat) : Array Bool := Array.replicate n true ++ Array.replicate (s - n) false
theorem firstN_eq {s n : Nat} (hn : n ≤ s) {l : Array Bool} (hs : l.size = s) (h : ∀ j, j < s → ∀ d, l.getD j d = decide (j < n)) : l = firstN s n := by
  have hz : (firstN s n).size = s := by simp [firstN]; omega
  refine Array.ext (by omega) ?_
  unfold firstN
  intro i h1 h2
  have e := h i (by omega) false
  rw [Array.getD_eq_getD_getElem?, Array.getElem?_eq_getElem h1] at e
  simp only [Option.getD_some] at e
  rw [e]
  by_cases q : i < n
  · rw [Array.getElem_append_left (by simpa using q)]; simpa using q
  · rw [Array.getElem_append_right (by simpa using q)]; simpa using q
theorem lexHead_of_light (ops : Array Oper) (n g : Nat) (hn : n ≤ ops.size) (hl : lightFrom 0 (ops.toList.map (lightOf ops)) = true) (hq : Region.seqB .any ops g n (firstN ops.size n) = true) :
    ∀ (fuel k : Nat) (listed : Array Bool), fuel + k = n → listed.size = ops.size →
    (∀ j, j < ops.size → ∀ d, listed.getD j d = decide (j < k)) → Region.lexHead .any ops g fuel k listed = true
  | 0, k, listed, hf, hs, hj => by
    obtain rfl : k = n := by omega
    rw [firstN_eq hn hs hj]
    simpa [Region.lexHead] using hq
  | fuel + 1, k, listed, hf, hs, hj => by
    have hk : k < ops.size := by omega
    obtain ⟨o, ho⟩ : ∃ o, ops[k]? = some o := ⟨ops[k], by simp [hk]⟩
    have hspec := lightFrom_spec _ 0 hl k (lightOf ops o) (by simp [ho])
    have hready : k ∈ Region.ready .any ops listed := by
      refine mem_ready.2 ⟨by rw [hj k hk]; simp, o, ho, fun e he hb => ?_⟩
      have hlt : e.on < k := by
        have := hspec.1 e.on (by simp only [lightOf, List.mem_map, List.mem_filter]; exact ⟨e, ⟨by simpa using he, hb⟩, rfl⟩)
        omega
      rw [hj e.on (by omega)]; simpa using hlt
    have hfree : Region.free .any ops listed k = true := by
      simp only [Region.free, ho, List.all_eq_true, List.mem_range]
      intro j hjs
      obtain ⟨oj, hoj⟩ : ∃ o, ops[j]? = some o := ⟨ops[j], by simp [hjs]⟩
      simp only [hoj, Bool.or_eq_true, beq_iff_eq, hj j hjs]
      rcases Nat.lt_trichotomy j k with h | h | h
      · left; right; simpa using h
      · left; left; exact h
      · right
        rcases hspec.2 j (lightOf ops oj) h (by simp [hoj]) with h' | h'
        · left
          simp only [lightOf, List.mem_map, List.mem_filter] at h'
          obtain ⟨e, ⟨he, hb⟩, hon⟩ := h'
          refine Array.any_eq_true'.2 ⟨e, by simpa using he, ?_⟩
          simp only [Bool.and_eq_true, beq_iff_eq]; exact ⟨hb, by omega⟩
        · right; rw [lightApart_eq] at h'; exact h'
    simp only [Region.lexHead, Bool.and_eq_true]
    refine ⟨⟨by simpa using hready, hfree⟩, lexHead_of_light ops n g hn hl hq fuel (k + 1) _ (by omega) (by simp [hs]) fun j hjs d => ?_⟩
    by_cases hjk : k = j
    · subst hjk; simp [hs, hjs]
    · rw [getD_set_ne d hjk, hj j hjs]
      have : (j < k) ↔ (j < k + 1) := by omega
      simp [this]
/-- The same over the worlds that agree with the one behind the draw, below B. -/
theorem wp_region_tailL {P : Program} {id : Nat} {Q : Exit → Act → World → Prop} {a : Act} {w : World} {l : List Oper} (B n : Nat) (hm : P.follows .mixedOrders = true) (hsel : Region.noSelect l.toArray = true) (hn : n < l.toArray.size)
    (hs : Region.sinkB .any l.toArray n = true) (hc : Region.chainB .any l.toArray n = true) (hl : lightFrom 0 (l.map (lightOf l.toArray)) = true) (hq : Region.seqB .any l.toArray (l.toArray.size - n) n (firstN l.toArray.size n) = true)
    (h : wpQuiet P l.toArray (fun w' => ∃ d, w' = reach B w d) (fun a' => ∀ w', (∃ d, w' = reach B w d) → wpList P l.toArray Q (l.drop n) a' w') (l.take n) a) : (Code.region id l.toArray true).wp P Q a w := by
  refine wp_region_tailR B n hm ?_ h
  simp only [Region.lexTailB, Bool.and_eq_true, decide_eq_true_eq]
  refine ⟨⟨⟨⟨hsel, hn⟩, hs⟩, hc⟩, lexHead_of_light _ n _ (Nat.le_of_lt hn) (by simpa using hl) hq n 0 _ (by omega) (by simp) fun j hj d => ?_⟩
  have : j < l.length := by simpa using hj
  simp [this]
end Go.Proofs.YtbeemfkndpandaaDoor
