/- That a statement's operations may be walked in the order of the text, asked in a light way: each operation's slots are looked up once. Conditions: none. -/
import Derived.Deep.Quiet
import Derived.KernelRfl
import Derived.Test.YtngomgkinaodjaaDoorReach
namespace Go.Proofs.YtngomgkinaodjaaDoor
open Go
/-- What the order of a statement's operations hangs on, of one operation: its slot, the slots that it looks at, what it waits for. -/
def lightOf (ops : Array Oper) (o : Oper) : Option Nat × List Nat × List Nat := (o.dst, o.looksAt ops, (o.after.toList.filter fun e => Region.binds .any e).map (·.on))
def lightApart (x y : Option Nat × List Nat × List Nat) : Bool :=
  (match x.1 with
   | some d => !y.2.1.contains d && y.1 != some d
   | none => true) &&
  (match y.1 with
   | some d => !x.2.1.contains d
   | none => true)
def lightFrom : Nat → List (Option Nat × List Nat × List Nat) → Bool
  | _, [] => true
  | k, x :: r => x.2.2.all (fun i => decide (i < k)) && r.all (fun y => y.2.2.contains k || lightApart x y) && lightFrom (k + 1) r
theorem lightFrom_spec : ∀ (l : List (Option Nat × List Nat × List Nat)) (k : Nat), lightFrom k l = true → ∀ (i : Nat) x, l[i]? = some x →
    (∀ n ∈ x.2.2, n < k + i) ∧ ∀ (j : Nat) y, i < j → l[j]? = some y → (k + i) ∈ y.2.2 ∨ lightApart x y = true
  | [], _, _, i, x, h => by simp at h
  | a :: r, k, hl, i, x, hx => by
    simp only [lightFrom, Bool.and_eq_true, List.all_eq_true] at hl
    obtain ⟨⟨h1, h2⟩, h3⟩ := hl
    cases i with
    | zero =>
      simp only [List.getElem?_cons_zero, Option.some.injEq] at hx
      subst hx
      refine ⟨fun n hn => by simpa using h1 n hn, fun j y hj hy => ?_⟩
      cases j with
      | zero => omega
      | succ j =>
        simp only [List.getElem?_cons_succ] at hy
        have := h2 y (List.mem_of_getElem? hy)
        simpa using this
    | succ i =>
      simp only [List.getElem?_cons_succ] at hx
      have ih := lightFrom_spec r (k + 1) h3 i x hx
      refine ⟨fun n hn => by have := ih.1 n hn; omega, fun j y hj hy => ?_⟩
      cases j with
      | zero => omega
      | succ j =>
        simp only [List.getElem?_cons_succ] at hy
        have := ih.2 j y (by omega) hy
        rwa [show k + 1 + i = k + (i + 1) from by omega] at this
theorem lightApart_eq (ops : Array Oper) (x y : Oper) : lightApart (lightOf ops x) (lightOf ops y) = x.apart ops y := rfl

theorem lexFrom_of_light (ops : Array Oper) (hl : lightFrom 0 (ops.toList.map (lightOf ops)) = true) : ∀ (fuel k : Nat) (listed : Array Bool), fuel + k = ops.size → listed.size = ops.size →
    (∀ j, j < ops.size → ∀ d, listed.getD j d = decide (j < k)) → Region.lexFrom .any ops fuel k listed = true
  | 0, k, listed, hf, hs, hj => by
    have : Region.ready .any ops listed = [] := by
      refine List.eq_nil_iff_forall_not_mem.2 fun j h => ?_
      obtain ⟨h1, o, ho, _⟩ := mem_ready.1 h
      have hlt : j < ops.size := (Array.getElem?_eq_some_iff.1 ho).1
      rw [hj j hlt] at h1
      simp at h1; omega
    simp [Region.lexFrom, this]
  | fuel + 1, k, listed, hf, hs, hj => by
    have hk : k < ops.size := by omega
    obtain ⟨o, ho⟩ : ∃ o, ops[k]? = some o := ⟨ops[k], by simp [hk]⟩
    have hspec := lightFrom_spec _ 0 hl k (lightOf ops o) (by simp [ho])
    have hready : k ∈ Region.ready .any ops listed := by
      refine mem_ready.2 ⟨by rw [hj k hk]; simp, o, ho, fun e he hb => ?_⟩
      have hlt : e.on < k := by
        have := hspec.1 e.on (by simp only [lightOf, List.mem_map, List.mem_filter]; exact ⟨e, ⟨by simpa using he, hb⟩, rfl⟩)
        omega
      rw [hj e.on (by omega)]; simpa using hlt
    have hfree : Region.free .any ops listed k = true := by
      simp only [Region.free, ho, List.all_eq_true, List.mem_range]
      intro j hjs
      obtain ⟨oj, hoj⟩ : ∃ o, ops[j]? = some o := ⟨ops[j], by simp [hjs]⟩
      simp only [hoj, Bool.or_eq_true, beq_iff_eq, hj j hjs]
      rcases Nat.lt_trichotomy j k with h | h | h
      · left; right; simpa using h
      · left; left; exact h
      · right
        rcases hspec.2 j (lightOf ops oj) h (by simp [hoj]) with h' | h'
        · left
          simp only [lightOf, List.mem_map, List.mem_filter] at h'
          obtain ⟨e, ⟨he, hb⟩, hon⟩ := h'
          refine Array.any_eq_true'.2 ⟨e, by simpa using he, ?_⟩
          simp only [Bool.and_eq_true, beq_iff_eq]; exact ⟨hb, by omega⟩
        · right; rw [lightApart_eq] at h'; exact h'
    simp only [Region.lexFrom, Bool.and_eq_true]
    refine ⟨⟨by simpa using hready, hfree⟩, lexFrom_of_light ops hl fuel (k + 1) _ (by omega) (by simp [hs]) fun j hjs d => ?_⟩
    by_cases hjk : k = j
    · subst hjk; simp [hs, hjs]
    · rw [getD_set_ne d hjk, hj j hjs]
      have : (j < k) ↔ (j < k + 1) := by omega
      simp [this]
theorem lexB_of_light {l : List Oper} (T : List (Option Nat × List Nat × List Nat)) (hs : Region.noSelect l.toArray = true) (hT : l.map (lightOf l.toArray) = T) (hl : lightFrom 0 T = true) : Region.lexB .any l.toArray = true := by
  simp only [Region.lexB, Bool.and_eq_true]
  refine ⟨hs, lexFrom_of_light _ (by simpa [hT] using hl) _ _ _ (by simp) (by simp) fun j hj d => ?_⟩
  have : j < l.length := by simpa using hj
  simp [this]
theorem wp_region_light {P : Program} {id : Nat} {Q : Exit → Act → World → Prop} {a : Act} {w : World} {l : List Oper} (B : Nat) (hm : P.follows .mixedOrders = true) (hs : Region.noSelect l.toArray = true) (hl : lightFrom 0 (l.map (lightOf l.toArray)) = true)
    (h : wpQuiet P l.toArray (fun w' => ∃ d, w' = reach B w d) (fun a' => ∀ w', (∃ d, w' = reach B w d) → Q .normal a' w') l a) : (Code.region id l.toArray true).wp P Q a w :=
  wp_region_reach B hm (lexB_of_light _ hs rfl hl) h
end Go.Proofs.YtngomgkinaodjaaDoor
