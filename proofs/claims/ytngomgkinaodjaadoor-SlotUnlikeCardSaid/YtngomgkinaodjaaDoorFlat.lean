/- What an argument of a struct, or of an array, of numbers and bools is, cell by cell. No condition. -/
import Derived.Test.YtngomgkinaodjaaDoorRows
import Derived.ChangeArms
import Derived.OpenShut
import Derived.Below
import Derived.Deep.Slices
namespace Go.Proofs.YtngomgkinaodjaaDoor
open Go.RowKit Go.ChangeShapes
inductive Leaf where
  | int (k : IntKind)
  | bool
def Leaf.ok : Leaf → Value → Prop
  | .int k, v => ∃ n, v = .int k n ∧ (Lit.int k n).wf = true
  | .bool, v => ∃ b, v = .bool b
def oks : List Leaf → List Value → Prop
  | [], [] => True
  | l :: ls, v :: vs => l.ok v ∧ oks ls vs
  | _, _ => False
theorem oks_nil {cs : List Value} (h : oks [] cs) : cs = [] := by cases cs <;> simp_all [oks]
theorem oks_cons {l : Leaf} {ls : List Leaf} {cs : List Value} (h : oks (l :: ls) cs) : ∃ v vs, cs = v :: vs ∧ l.ok v ∧ oks ls vs := by
  cases cs with
  | nil => simp [oks] at h
  | cons v vs => exact ⟨v, vs, rfl, h.1, h.2⟩
theorem oks_append : ∀ (a b : List Leaf) (cs : List Value), oks a (cs.take a.length) → oks b (cs.drop a.length) → oks (a ++ b) cs
  | [], b, cs, _, h => by simpa using h
  | l :: ls, b, cs, h1, h2 => by
    cases cs with
    | nil => simp [oks] at h1
    | cons v vs =>
      simp only [List.length_cons, List.take_succ_cons, List.drop_succ_cons] at h1 h2
      exact ⟨h1.1, oks_append ls b vs h1.2 h2⟩
def flatGo (P : Program) (F : TypeId → Option (List Leaf)) (top : Nat) : Nat → List Field → Option (List Leaf)
  | off, [] => if off = top then some [] else none
  | off, f :: r => match F f.type, flatGo P F top (off + P.cellsOf f.type) r with
    | some l, some m => if f.offset = off ∧ P.cellsOf f.type = l.length then some (l ++ m) else none
    | _, _ => none
def flat (P : Program) : Nat → TypeId → Option (List Leaf)
  | 0, _ => none
  | m + 1, t => match P.underlying t with
    | some .bool => some [.bool]
    | some (.int k) => some [.int k]
    | some (.struct fs) => flatGo P (flat P m) (P.cellsOf t) 0 fs.toList
    | some (.array n e) => match flat P m e with
      | some l => if P.cellsOf e = l.length ∧ P.cellsOf t = n * l.length then some (List.replicate n l).flatten else none
      | none => none
    | _ => none
section
variable {H : Type} {enc : TypeId × Value → H} {P : Program} {w : World} {base : Nat} {spare : Nat → Bool} {held : Bool}
theorem flatGo_ok {F : TypeId → Option (List Leaf)} {n : Nat} {cs : List Value} (hF : ∀ t l x c, F t = some l → DataW.trod enc P w base spare held n t c = some x → oks l c) :
    ∀ (fs : List Field) (off : Nat) (ls : List Leaf), flatGo P F cs.length off fs = some ls → (∀ f ∈ fs, ∃ x, DataW.trod enc P w base spare held n f.type ((cs.drop f.offset).take (P.cellsOf f.type)) = some x) → oks ls (cs.drop off)
  | [], off, ls, h, _ => by
    unfold flatGo at h
    split at h
    · cases h; rename_i e; simp [e, oks]
    · cases h
  | f :: r, off, ls, h, hx => by
    unfold flatGo at h
    cases h1 : F f.type with
    | none => simp [h1] at h
    | some l =>
      cases h2 : flatGo P F cs.length (off + P.cellsOf f.type) r with
      | none => simp [h1, h2] at h
      | some m =>
        simp only [h1, h2] at h
        split at h
        · rename_i e
          cases h
          obtain ⟨x, hx0⟩ := hx f (by simp)
          have ih := flatGo_ok hF r _ m h2 (fun g hg => hx g (by simp [hg]))
          have o := hF _ _ _ _ h1 hx0
          rw [e.1, e.2] at o
          rw [e.2] at ih
          exact oks_append l m _ o (by rw [List.drop_drop]; exact ih)
        · cases h
theorem flatArr_ok {n : Nat} {e : TypeId} {l : List Leaf} {cs : List Value} {c : Nat} (hc : c = l.length) (N : Nat) (hl : cs.length = N * c)
    (h : ∀ i, i < N → oks l ((cs.drop (i * c)).take c)) : ∀ k, k ≤ N → oks (List.replicate k l).flatten (cs.drop ((N - k) * c))
  | 0, _ => by simp [← hl, oks]
  | k + 1, hk => by
    have ih := flatArr_ok (n := n) (e := e) hc N hl h k (by omega)
    have o := h (N - (k + 1)) (by omega)
    simp only [List.replicate_succ, List.flatten_cons]
    refine oks_append l _ _ (by rw [← hc]; exact o) ?_
    rw [List.drop_drop, ← hc]
    have : (N - (k + 1)) * c + c = (N - k) * c := by rw [← Nat.succ_mul]; congr 1; omega
    rw [this]; exact ih
theorem flat_ok : ∀ (m : Nat) (t : TypeId) (ls : List Leaf), flat P m t = some ls → ∀ (fuel : Nat) (cs : List Value) (x : DataW H × List MemPlace), DataW.trod enc P w base spare held fuel t cs = some x → oks ls cs
  | 0, _, _, h => by simp [flat] at h
  | m + 1, t, ls, h => by
    intro fuel cs x hx
    unfold flat at h
    split at h
    · rename_i hu
      cases h
      obtain ⟨b, rfl, _⟩ := DataW.trod_bool hu hx
      exact ⟨⟨b, rfl⟩, trivial⟩
    · rename_i k hu
      cases h
      obtain ⟨n, rfl, _, hw⟩ := DataW.trod_int hu hx
      exact ⟨⟨n, rfl, hw⟩, trivial⟩
    · rename_i fs hu
      obtain ⟨xs, n, _, _, hl, hlen, hf⟩ := DataW.trod_struct hu hx
      rw [← hl] at h
      have := flatGo_ok (F := flat P m) (n := n) (cs := cs) (fun t l x c h1 h2 => flat_ok m t l h1 n c x h2) fs.toList 0 ls h (fun f hm => by
        obtain ⟨i, hi, he⟩ := List.getElem_of_mem hm
        have := hf i f (by rw [Array.getElem?_eq_getElem (by simpa using hi)]; simpa using he)
        rw [List.getElem?_eq_getElem (by simp at hi; omega)] at this
        exact ⟨_, this⟩)
      simpa using this
    · rename_i n e hu
      cases h1 : flat P m e with
      | none => simp [h1] at h
      | some l =>
        simp only [h1] at h
        split at h
        · rename_i hc
          cases h
          obtain ⟨xs, k, _, _, hl, hlen, hf⟩ := DataW.trod_array hu hx
          have := flatArr_ok (n := n) (e := e) (l := l) (cs := cs) (c := P.cellsOf e) hc.1 n (by rw [hl, hc.2, hc.1]) (fun i hi => by
            have := hf i hi
            rw [List.getElem?_eq_getElem (by omega)] at this
            exact flat_ok m e l h1 k _ _ this) n (Nat.le_refl _)
          simpa using this
        · cases h
    · cases h
end
theorem okWide_arr {P : Program} {w : World} {r : Reach} {base : Nat} {t : TypeId} {v : Value} {n : Nat} {e : TypeId} (ht : P.underlying t = some (.array n e)) (h : Value.okWide P w r base t v) : ∃ cs, v = .agg cs ∧ cs.size = P.cellsOf t := by
  simp only [Value.okWide, ht] at h
  obtain ⟨cs, h1, h2, _⟩ := h
  exact ⟨cs, h1, h2⟩
/-- A slice that came in, of elements of c cells each: what lies at each index. -/
def CameS (ls : List Leaf) (w : World) (a : Option Addr) (len cap : Nat) (z : Nat → List Value) : Prop :=
  (a = none ∧ len = 0 ∧ cap = 0) ∨
  ∃ x, a = some x ∧ len ≤ cap ∧ cap ≤ maxLen ∧ ∀ i, i < cap → oks ls (z i) ∧ ∀ j v, (z i)[j]? = some v → w.cell? (x.add (i * ls.length + j)) = some v
theorem oks_length : ∀ {ls : List Leaf} {cs : List Value}, oks ls cs → cs.length = ls.length
  | [], [], _ => rfl
  | _ :: ls, _ :: cs, h => by simp [oks_length h.2]
  | [], _ :: _, h => by simp [oks] at h
  | _ :: _, [], h => by simp [oks] at h
theorem cameS_of {H : Type} {enc : TypeId × Value → H} {P : Program} {w : World} {held : Bool} {t e : TypeId} {ls : List Leaf} {m fuel : Nat} {cs : List Value} {x : DataW H × List MemPlace} (ht : P.underlying t = some (.slice e)) (hf : flat P m e = some ls)
    (h : DataW.trod enc P w 0 (fun _ => true) held fuel t cs = some x) : ∃ a len cap z, cs = [.slice a len cap] ∧ CameS ls w a len cap z := by
  rcases Go.Deep.open_slice ht h with ⟨rfl, _⟩ | ⟨a, len, cap, k, n, D, Pl, rfl, _, hl, hm, hk, _, hx⟩
  · exact ⟨none, 0, 0, fun _ => [], rfl, .inl ⟨rfl, rfl, rfl⟩⟩
  · simp at hk
    obtain ⟨z, hz⟩ := Go.Deep.choose_lt (α := List Value) (p := fun i c => oks ls c ∧ ∀ j v, c[j]? = some v → w.cell? (a.add (i * ls.length + j)) = some v) (n := k) (fun i hi => by
      obtain ⟨c, h1, h2⟩ := hx i hi
      have o := flat_ok m e ls hf n c _ h2
      refine ⟨c, o, fun j v hj => ?_⟩
      obtain ⟨_, hlen, hc⟩ := World.cells?_some h1
      have hle := oks_length o
      have hjl : j < c.length := (List.getElem?_eq_some_iff.1 hj).1
      have := hc j (by omega)
      rw [Go.Deep.add_add, ← hlen, hle, hj] at this
      exact this)
    exact ⟨some a, len, cap, z, rfl, .inr ⟨a, rfl, hl, hm, fun i hi => hz i (by omega)⟩⟩
theorem CameS.at {ls : List Leaf} {w : World} {a : Option Addr} {len cap : Nat} {z : Nat → List Value} (h : CameS ls w a len cap z) (i : Nat) (hi : i < len) :
    ∃ x, a = some x ∧ oks ls (z i) ∧ ∀ j v, (z i)[j]? = some v → w.cell? (x.add (i * ls.length + j)) = some v := by
  rcases h with ⟨_, rfl, _⟩ | ⟨x, rfl, h1, _, h3⟩
  · omega
  · exact ⟨x, rfl, h3 i (by omega)⟩
end Go.Proofs.YtngomgkinaodjaaDoor
