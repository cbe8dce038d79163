/- A statement whose order Go leaves open, and that holds operations that write, anywhere: one walk in the order of the text serves every order, where what each operation yields does not hang on which of these have come. Conditions: none. -/
import Derived.StillTail
import Derived.Deep.Quiet
import Derived.BigQuiet
import Derived.Test.YtngomgkinaodjaaDoorLex
namespace Go.Proofs.YtngomgkinaodjaaDoor
open Go Go.RowKit
section
variable {P : Program} {ops : Array Oper} {md : Region.Mode} {C : Array Bool → World → Prop}
/-- What is asked of an operation's outcome: it yields v, and leaves a world of the class. -/
def phUpon (P : Program) (C' : World → Prop) (v : Value) : Result Next → Prop
  | .ok (.value u) w' => u = v ∧ C' w'
  | .ok .skip w' => v = undef ∧ C' w'
  | .ok (.enter f args) w' => Calls P f args w' (fun e w'' => e = .returned v ∧ C' w'')
  | _ => False
def phAt (P : Program) (o : Oper) (a : Act) (C' : World → Prop) (w : World) (v : Value) : Prop := phUpon P C' v ((execOp a.eval o).run P w)
/-- With each operation that has come up what it waits for has. -/
def Down (md : Region.Mode) (ops : Array Oper) (L : Array Bool) : Prop := L.size = ops.size ∧ ∀ (j : Nat) oj, ops[j]? = some oj → L.getD j false = true → ∀ e ∈ oj.after, Region.binds md e = true → L.getD e.on false = true
theorem Down.set {i : Nat} {L : Array Bool} (h : Down md ops L) (hi : i ∈ Region.ready md ops L) : Down md ops (L.setIfInBounds i true) := by
  obtain ⟨_, oi, hoi, hall⟩ := mem_ready.1 hi
  refine ⟨by simp [h.1], fun j oj hj hl e he hb => ?_⟩
  by_cases hij : i = j
  · subst hij
    obtain rfl := Option.some.inj (hj.symm.trans hoi)
    exact getD_set_true (hall e he hb)
  · rw [getD_set_ne false hij] at hl
    exact getD_set_true (h.2 j oj hj hl e he hb)
/-- In this state, whatever has come up, operation i yields v, and takes the class on. -/
def YieldsP (P : Program) (md : Region.Mode) (ops : Array Oper) (C : Array Bool → World → Prop) (i : Nat) (o : Oper) (v : Value) (a : Act) : Prop :=
  (Region.wanted o (yielded ops a.tmps) = true ∧ ∀ L w, Down md ops L → i ∈ Region.ready md ops L → C L w → phAt P o a (C (L.setIfInBounds i true)) w v) ∨
  (Region.wanted o (yielded ops a.tmps) = false ∧ v = undef ∧ ∀ L w, Down md ops L → i ∈ Region.ready md ops L → C L w → C (L.setIfInBounds i true) w)
theorem YieldsP.of_same {i : Nat} {o : Oper} {v : Value} {a a' : Act} (hy : YieldsP P md ops C i o v a) (he : execOp a'.eval o = execOp a.eval o)
    (hw : Region.wanted o (yielded ops a'.tmps) = Region.wanted o (yielded ops a.tmps)) : YieldsP P md ops C i o v a' := by
  unfold YieldsP phAt at *
  rw [he, hw]
  exact hy
def pOp (P : Program) (md : Region.Mode) (ops : Array Oper) (C : Array Bool → World → Prop) (i : Nat) (K : Act → Prop) (a : Act) : Prop :=
  ∃ o v, ops[i]? = some o ∧ YieldsP P md ops C i o v a ∧ K (a.put o.dst v)
theorem pOp_mono {i : Nat} {a : Act} {K K' : Act → Prop} (h : ∀ a, K a → K' a) (hh : pOp P md ops C i K a) : pOp P md ops C i K' a :=
  let ⟨o, v, h1, h2, h3⟩ := hh; ⟨o, v, h1, h2, h _ h3⟩
theorem wpOp_of_pOp {i : Nat} {a : Act} {K : Act → Prop} {K' : Act → World → Prop} {Q' : Exit → Act → World → Prop} {L : Array Bool} {w : World} (hd : Down md ops L) (hi : i ∈ Region.ready md ops L) (hC : C L w)
    (h : ∀ a w', C (L.setIfInBounds i true) w' → K a → K' a w') (hh : pOp P md ops C i K a) : wpOp P ops Q' i K' a w := by
  obtain ⟨o, v, ho, hy, hk⟩ := hh
  unfold wpOp
  simp only [ho]
  rcases hy with ⟨hw, hv⟩ | ⟨hw, rfl, hv⟩
  · simp only [hw, if_true]
    have h3 := hv L w hd hi hC
    left
    unfold phAt at h3
    unfold Oper.wp
    generalize (execOp a.eval o).run P w = r at *
    cases r with
    | ok n w' =>
      cases n <;> simp only [phUpon] at h3 <;> simp only [Oper.upon]
      case value u => obtain ⟨e1, e2⟩ := h3; rw [e1]; exact h _ _ e2 hk
      case skip => obtain ⟨e1, e2⟩ := h3; rw [← e1]; exact h _ _ e2 hk
      case enter f args => exact h3.mono fun e w'' ⟨he, hw''⟩ => by subst he; exact h _ _ hw'' hk
    | halt x w' => simp only [phUpon] at h3
  · simp only [hw, Bool.false_eq_true, if_false]
    exact h _ _ (hv L w hd hi hC) hk
theorem pOp_put {i j : Nat} {oi oj : Oper} {v : Value} (hj : ops[j]? = some oj) (hap : oi.apart ops oj = true)
    (hsi : ∀ cs b, oi.op ≠ .select cs b) (hsj : ∀ cs b, oj.op ≠ .select cs b) {K : Act → Prop} {a : Act}
    (hy : YieldsP P md ops C i oi v a) (h : pOp P md ops C j K (a.put oi.dst v)) :
    pOp P md ops C j (fun a' => YieldsP P md ops C i oi v a' ∧ K (a'.put oi.dst v)) a := by
  obtain ⟨h1, h2, h3⟩ := Oper.apart_spec hap
  obtain ⟨o, u, ho, hu, hk⟩ := h
  obtain rfl := Option.some.inj (hj.symm.trans ho)
  exact ⟨_, u, hj, hu.of_same (execOp_put oj hsj a oi.dst v h1).symm (wanted_put oj a oi.dst v h1).symm,
    hy.of_same (execOp_put oi hsi a oj.dst u h3) (wanted_put oi a oj.dst u h3), by rw [← Act.put_comm a v u h2]; exact hk⟩
/-- Whatever order is picked from here on; at the end all have come. -/
def anyP (P : Program) (md : Region.Mode) (ops : Array Oper) (C : Array Bool → World → Prop) (Q : Act → Prop) : Nat → Array Bool → Act → Prop
  | 0, L, a => (∀ j, j < ops.size → L.getD j false = true) ∧ Q a
  | f + 1, L, a => Region.ready md ops L ≠ [] ∧ ∀ i ∈ Region.ready md ops L, pOp P md ops C i (anyP P md ops C Q f (L.setIfInBounds i true)) a
theorem wpAny_of_anyP {Q : Act → Prop} {Q' : Exit → Act → World → Prop} (hQ : ∀ L a w, L.size = ops.size → (∀ j, j < ops.size → L.getD j false = true) → C L w → Q a → Q' .normal a w) :
    ∀ (f : Nat) (L : Array Bool) (a : Act) (w : World), Down md ops L → C L w → anyP P md ops C Q f L a → wpAny P md ops Q' f L a w
  | 0, L, a, w, hd, hC, h => by
    refine ⟨List.eq_nil_iff_forall_not_mem.2 fun j hj => ?_, hQ _ _ _ hd.1 h.1 hC h.2⟩
    obtain ⟨h1, o, ho, _⟩ := mem_ready.1 hj
    have hlt := (Array.getElem?_eq_some_iff.1 ho).1
    have h2 := h.1 j hlt
    rw [getD_both h1] at h2
    cases h2
  | f + 1, L, a, w, hd, hC, h => ⟨fun h0 => absurd h0 h.1, fun i hi => wpOp_of_pOp hd hi hC (fun a' w' hw' h' => wpAny_of_anyP hQ f _ a' w' (hd.set hi) hw' h') (h.2 i hi)⟩
theorem anyP_first {Q : Act → Prop} {i : Nat} {oi : Oper} {v : Value} (hi : ops[i]? = some oi) (hsel : ∀ (j : Nat) (o : Oper) cs b, ops[j]? = some o → o.op ≠ .select cs b) :
    ∀ (f : Nat) (L : Array Bool) (a : Act),
      (∀ j oj, ops[j]? = some oj → j ≠ i → L.getD j true = false → (∀ e ∈ oj.after, Region.binds md e = true → e.on ≠ i) → oi.apart ops oj = true) →
      i ∈ Region.ready md ops L → YieldsP P md ops C i oi v a →
      anyP P md ops C Q f (L.setIfInBounds i true) (a.put oi.dst v) → anyP P md ops C Q (f + 1) L a := by
  intro f
  induction f with
  | zero =>
    intro L a _ hr hy H
    refine ⟨fun h => (by rw [h] at hr; cases hr), fun j hj => ?_⟩
    by_cases hji : j = i
    · subst hji; exact ⟨oi, v, hi, hy, H⟩
    · obtain ⟨h1, o, ho, _⟩ := mem_ready.1 hj
      have h2 := H.1 j (Array.getElem?_eq_some_iff.1 ho).1
      rw [getD_set_ne false (Ne.symm hji), getD_both h1] at h2
      cases h2
  | succ f ih =>
    intro L a hfree hr hy H
    refine ⟨fun h => (by rw [h] at hr; cases hr), fun j hj => ?_⟩
    by_cases hji : j = i
    · subst hji; exact ⟨oi, v, hi, hy, H⟩
    · have h1 := H.2 j (ready_mono hj hji)
      obtain ⟨hjun, oj, hoj, hall⟩ := mem_ready.1 hj
      have h2 := pOp_put hoj (hfree j oj hoj hji hjun fun e he hb heq => by
        have := hall e he hb
        rw [heq, getD_both (mem_ready.1 hr).1] at this
        cases this) (fun cs b => hsel i oi cs b hi) (fun cs b => hsel j oj cs b hoj) hy h1
      refine pOp_mono (fun a' h3 => ih (L.setIfInBounds j true) a' (fun k ok hk hki hun hno => hfree k ok hk hki ?_ hno) (ready_mono hr (Ne.symm hji)) h3.1 ?_) h2
      · by_cases hjk : j = k
        · subst hjk; exact hjun
        · rw [getD_set_ne true hjk] at hun; exact hun
      · rw [Array.setIfInBounds_comm _ _ hji]; exact h3.2
/-- The walk in the order of the text; k: the number of the next operation. -/
def wpPh (P : Program) (md : Region.Mode) (ops : Array Oper) (C : Array Bool → World → Prop) (Q : Act → Prop) : Nat → List Oper → Act → Prop
  | _, [], a => Q a
  | k, o :: l, a => ∃ v, YieldsP P md ops C k o v a ∧ wpPh P md ops C Q (k + 1) l (a.put o.dst v)
theorem anyP_lex {Q : Act → Prop} (hs : Region.noSelect ops = true) : ∀ (l : List Oper) (k : Nat) (L : Array Bool) (a : Act), (∀ j, l[j]? = ops[k + j]?) → L.size = ops.size → (∀ j, j < k → j < ops.size → L.getD j false = true) →
    Region.lexFrom md ops l.length k L = true → wpPh P md ops C Q k l a → anyP P md ops C Q l.length L a
  | [], k, L, a, hl, _, hj, _, h => by
    refine ⟨fun j hlt => hj j ?_ hlt, h⟩
    rcases Nat.lt_or_ge j k with h' | h'
    · exact h'
    · have := hl (j - k)
      rw [show k + (j - k) = j by omega] at this
      simp [hlt] at this
  | o :: l, k, L, a, hl, hsz, hj, hB, h => by
    have h0 : ops[k]? = some o := by simpa using (hl 0).symm
    simp only [List.length_cons, Region.lexFrom, Bool.and_eq_true] at hB
    obtain ⟨⟨hr, hf⟩, hB'⟩ := hB
    obtain ⟨v, hy, hK⟩ := h
    refine anyP_first h0 (Region.noSelect_spec hs) l.length L a (Region.free_spec h0 hf) (by simpa using hr) hy
      (anyP_lex hs l (k + 1) _ _ (fun j => by have := hl (j + 1); simpa [Nat.add_assoc, Nat.add_comm 1 j] using this) (by simp [hsz]) (fun j h1 h2 => ?_) hB' hK)
    by_cases hkj : k = j
    · subst hkj; simp [hsz, h2]
    · rw [getD_set_ne false hkj]; exact hj j (by omega) h2
theorem wp_region_ph {id : Nat} {Q : Exit → Act → World → Prop} {a : Act} {w : World} {l : List Oper} (C : Array Bool → World → Prop) (hm : P.follows .mixedOrders = true) (hs : Region.noSelect l.toArray = true) (hl : lightFrom 0 (l.map (lightOf l.toArray)) = true)
    (hC : C (Array.replicate l.toArray.size false) w.drew)
    (h : wpPh P .any l.toArray C (fun a' => ∀ (L : Array Bool) w', L.size = l.toArray.size → (∀ j, j < l.toArray.size → L.getD j false = true) → C L w' → Q .normal a' w') 0 l a) : (Code.region id l.toArray true).wp P Q a w := by
  have hB := lexB_of_light _ hs rfl hl
  simp only [Region.lexB, Bool.and_eq_true] at hB
  refine wp_region_any hm (wpAny_of_anyP (C := C) (Q := fun a' => ∀ (L : Array Bool) w', L.size = l.toArray.size → (∀ j, j < l.toArray.size → L.getD j false = true) → C L w' → Q .normal a' w') (fun L a' w' h0 h1 h2 h3 => h3 L w' h0 h1 h2) _ _ _ _ ?_ hC ?_)
  · exact ⟨by simp, fun j oj _ hl => by rw [getD_replicate_false] at hl; cases hl⟩
  · have := anyP_lex (C := C) (md := .any) hs l 0 (Array.replicate l.toArray.size false) a (by simp) (by simp) (fun j h _ => absurd h (by omega)) (by simpa using hB.2) h
    simpa using this
/-! Two that write, number j1 and number j2. -/
def ph2 (j1 j2 : Nat) (D : Bool → Bool → World → Prop) : Array Bool → World → Prop := fun L w => D (L.getD j1 false) (L.getD j2 false) w
def isVal (o : Oper) : Bool := match o.op with
  | .move _ | .assign _ | .pick _ _ _ | .load _ _ | .binOp _ _ _ _ _ | .unOp _ _ _ | .fieldAddr _ _ _ | .indexAddr _ _ _ | .index _ _ _ | .field _ _ _ | .build _ _ => true
  | _ => false
theorem bind_val {s : Sem Value} {w w' : World} {n : Next} (h : Sem.run P (do pure (Next.value (← s))) w = .ok n w') : ∃ u, n = .value u := by
  rw [Sem.run_bind] at h
  cases hs : Sem.run P s w with
  | ok x w1 =>
    rw [hs] at h
    simp only [Result.andThen_ok, Sem.run_pure] at h
    cases h
    exact ⟨_, rfl⟩
  | halt x w1 => rw [hs] at h; cases h
theorem bind_pick {s : Sem Bool} {x y : Value} {w w' : World} {n : Next} (h : Sem.run P (do pure (Next.value (if ← s then x else y))) w = .ok n w') : ∃ u, n = .value u := by
  rw [Sem.run_bind] at h
  cases hs : Sem.run P s w with
  | ok b w1 =>
    rw [hs] at h
    simp only [Result.andThen_ok, Sem.run_pure] at h
    cases h
    exact ⟨_, rfl⟩
  | halt x w1 => rw [hs] at h; cases h
theorem val_run {o : Oper} {ρ : Operand → Value} {w w' : World} {n : Next} (hv : isVal o = true) (h : (execOp ρ o).run P w = .ok n w') : ∃ u, n = .value u := by
  unfold isVal at hv
  unfold execOp at h
  split at hv
  all_goals first | (cases hv; done) | skip
  all_goals (rename_i ho; first | (simp only [ho] at h; exact bind_val h) | (simp only [ho] at h; exact bind_pick h) | (simp only [ho] at h; rw [Sem.run_pure] at h; cases h; exact ⟨_, rfl⟩))
theorem phAt_of_quiet {o : Oper} {a : Act} {D C' : World → Prop} {w : World} {v : Value} (hv : isVal o = true) (h : o.quietAt P a D w v) (hC : C' w) : phAt P o a C' w v := by
  unfold Oper.quietAt at h
  unfold phAt
  cases hr : (execOp a.eval o).run P w with
  | ok n w' =>
    obtain ⟨u, rfl⟩ := val_run hv hr
    rw [hr] at h
    simp only [Oper.quietUpon] at h
    simp only [phUpon]
    exact ⟨h.2, by rw [h.1]; exact hC⟩
  | halt x w' => rw [hr] at h; simp only [Oper.quietUpon] at h
theorem phAt_call {f : FuncId} {fn : Func} (hf : P.funcs[f]? = some fn) (hn : (fn.name == "runtime.NumGoroutine") = false) (hb : fn.body.isNone = false) {dst : Option Tmp} {xs : Array Operand} {ats : Array TypeId} {ty : TypeId} {pos : String} {after : Array Edge} {guard : Option (Nat × Bool)}
    {a : Act} {C' : World → Prop} {w : World} {v : Value} (args : Array Value) (ha : xs.map a.eval = args) (h : Calls P f args w fun e w'' => e = .returned v ∧ C' w'') :
    phAt P { dst, op := .call { callee := .value (.func f), args := xs, argTypes := ats }, type := ty, pos, after, guard } a C' w v := by
  unfold phAt
  rw [execOp_call_go, ha]
  unfold callFunc
  have hn' : fn.name ≠ "runtime.NumGoroutine" := by simpa using hn
  have hb' : fn.body ≠ none := by intro e; rw [e] at hb; cases hb
  simp [go_sem, hf, hn', hb', phUpon]
  exact h
variable {j1 j2 : Nat} {D : Bool → Bool → World → Prop} {Q : Act → Prop} {k : Nat} {o : Oper} {l : List Oper} {a : Act} {E : World → World}
theorem ph2_other {L : Array Bool} {w : World} (h1 : k ≠ j1) (h2 : k ≠ j2) (h : ph2 j1 j2 D L w) : ph2 j1 j2 D (L.setIfInBounds k true) w := by
  unfold ph2 at *
  rw [getD_set_ne false h1, getD_set_ne false h2]; exact h
/-- What only reads. -/
theorem ph_val (hE : ∀ b c w, D b c w → ∃ d, w = E d) (hw : Region.wanted o (yielded ops a.tmps) = true) (hv : isVal o = true) (h1 : (k == j1) = false) (h2 : (k == j2) = false)
    (h : ∀ K : Act → Prop, (∀ a, wpPh P md ops (ph2 j1 j2 D) Q (k + 1) l a → K a) → o.quiet P a (fun w => ∃ d, w = E d) K) : wpPh P md ops (ph2 j1 j2 D) Q k (o :: l) a := by
  obtain ⟨v, h3, h4⟩ := h _ fun _ h => h
  exact ⟨v, .inl ⟨hw, fun L w _ _ hC => phAt_of_quiet hv (h3 w (hE _ _ _ hC)) (ph2_other (by simpa using h1) (by simpa using h2) hC)⟩, h4⟩
theorem ph_skip (hw : Region.wanted o (yielded ops a.tmps) = false) (h1 : (k == j1) = false) (h2 : (k == j2) = false) (h : wpPh P md ops (ph2 j1 j2 D) Q (k + 1) l (a.put o.dst undef)) : wpPh P md ops (ph2 j1 j2 D) Q k (o :: l) a :=
  ⟨_, .inr ⟨hw, rfl, fun L w _ _ hC => ph2_other (by simpa using h1) (by simpa using h2) hC⟩, h⟩
theorem ph_nil (x : Operand) (p : Addr) (ho : o.op = .nilCheck x) (hx : a.eval x = .pointer (some p)) (hw : Region.wanted o (yielded ops a.tmps) = true) (h1 : (k == j1) = false) (h2 : (k == j2) = false)
    (h : wpPh P md ops (ph2 j1 j2 D) Q (k + 1) l (a.put o.dst (.pointer (some p)))) : wpPh P md ops (ph2 j1 j2 D) Q k (o :: l) a := by
  refine ⟨_, .inl ⟨hw, fun L w _ _ hC => ?_⟩, h⟩
  unfold phAt execOp
  simp only [ho, hx, Sem.run_pure, phUpon]
  exact ⟨trivial, ph2_other (by simpa using h1) (by simpa using h2) hC⟩
/-- A call that keeps the class, whatever has come. -/
theorem ph_call (v : Value) (hw : Region.wanted o (yielded ops a.tmps) = true) (h1 : (k == j1) = false) (h2 : (k == j2) = false) (hc : ∀ b c w, D b c w → phAt P o a (D b c) w v)
    (h : wpPh P md ops (ph2 j1 j2 D) Q (k + 1) l (a.put o.dst v)) : wpPh P md ops (ph2 j1 j2 D) Q k (o :: l) a := by
  refine ⟨v, .inl ⟨hw, fun L w _ _ hC => ?_⟩, h⟩
  have := hc _ _ w hC
  unfold ph2
  rw [getD_set_ne false (by simpa using h1), getD_set_ne false (by simpa using h2)]
  exact this
/-- The first of the two that write. -/
theorem ph_w1 (v : Value) (hw : Region.wanted o (yielded ops a.tmps) = true) (h1 : (k == j1) = true) (h2 : (k == j2) = false) (hk : decide (k < ops.size) = true) (hc : ∀ c w, D false c w → phAt P o a (D true c) w v)
    (h : wpPh P md ops (ph2 j1 j2 D) Q (k + 1) l (a.put o.dst v)) : wpPh P md ops (ph2 j1 j2 D) Q k (o :: l) a := by
  obtain rfl : k = j1 := by simpa using h1
  refine ⟨v, .inl ⟨hw, fun L w hd hr hC => ?_⟩, h⟩
  unfold ph2 at *
  rw [getD_both (mem_ready.1 hr).1] at hC
  rw [getD_set_ne false (show k ≠ j2 by simpa using h2), show (L.setIfInBounds k true).getD k false = true by simp [hd.1, of_decide_eq_true hk]]
  exact hc _ _ hC
theorem ph_w2 (v : Value) (hw : Region.wanted o (yielded ops a.tmps) = true) (h1 : (k == j1) = false) (h2 : (k == j2) = true) (hk : decide (k < ops.size) = true) (hc : ∀ b w, D b false w → phAt P o a (D b true) w v)
    (h : wpPh P md ops (ph2 j1 j2 D) Q (k + 1) l (a.put o.dst v)) : wpPh P md ops (ph2 j1 j2 D) Q k (o :: l) a := by
  obtain rfl : k = j2 := by simpa using h2
  refine ⟨v, .inl ⟨hw, fun L w hd hr hC => ?_⟩, h⟩
  unfold ph2 at *
  rw [getD_both (mem_ready.1 hr).1] at hC
  rw [getD_set_ne false (show k ≠ j1 by simpa using h1), show (L.setIfInBounds k true).getD k false = true by simp [hd.1, of_decide_eq_true hk]]
  exact hc _ _ hC
/-- Does operation j wait for operation k, by any way? -/
def waitsB (md : Region.Mode) (ops : Array Oper) : Nat → Nat → Nat → Bool
  | 0, _, _ => false
  | f + 1, j, k => match ops[j]? with
    | none => false
    | some o => o.after.any fun e => Region.binds md e && (e.on == k || waitsB md ops f e.on k)
theorem waits_down {L : Array Bool} (hd : Down md ops L) : ∀ (f j k : Nat), waitsB md ops f j k = true → L.getD j false = true → L.getD k false = true
  | 0, _, _, h, _ => by simp [waitsB] at h
  | f + 1, j, k, h, hj => by
    unfold waitsB at h
    split at h
    · cases h
    · rename_i o ho
      obtain ⟨e, he, h⟩ := Array.any_eq_true'.1 h
      simp only [Bool.and_eq_true, Bool.or_eq_true, beq_iff_eq] at h
      have h3 := hd.2 j o ho hj e he h.1
      rcases h.2 with rfl | h2
      · exact h3
      · exact waits_down hd f _ _ h2 h3
/-- A call that keeps the class, and that the first that writes waits for. -/
theorem ph_call1 (f : Nat) (v : Value) (hw : Region.wanted o (yielded ops a.tmps) = true) (h1 : (k == j1) = false) (h2 : (k == j2) = false) (hwt : waitsB md ops f j1 k = true) (hc : ∀ c w, D false c w → phAt P o a (D false c) w v)
    (h : wpPh P md ops (ph2 j1 j2 D) Q (k + 1) l (a.put o.dst v)) : wpPh P md ops (ph2 j1 j2 D) Q k (o :: l) a := by
  refine ⟨v, .inl ⟨hw, fun L w hd hr hC => ?_⟩, h⟩
  have hj : L.getD j1 false = false := by
    cases hj : L.getD j1 false with
    | false => rfl
    | true =>
      have := waits_down hd f _ _ hwt hj
      rw [getD_both (mem_ready.1 hr).1] at this
      cases this
  unfold ph2 at *
  rw [getD_set_ne false (by simpa using h1), getD_set_ne false (by simpa using h2), hj]
  rw [hj] at hC
  exact hc _ _ hC
theorem wp_region_ph2 {id : Nat} {R : Exit → Act → World → Prop} {w : World} (j1 j2 : Nat) (D : Bool → Bool → World → Prop) (hm : P.follows .mixedOrders = true) (hs : Region.noSelect l.toArray = true) (hl : lightFrom 0 (l.map (lightOf l.toArray)) = true)
    (hj1 : decide (j1 < l.toArray.size) = true) (hC : D false false w.drew)
    (h : wpPh P .any l.toArray (ph2 j1 j2 D) (fun a' => ∀ w', D true (decide (j2 < l.toArray.size)) w' → R .normal a' w') 0 l a) : (Code.region id l.toArray true).wp P R a w := by
  refine wp_region_ph (ph2 j1 j2 D) hm hs hl ?_ ?_
  · unfold ph2
    rw [getD_replicate_false, getD_replicate_false]; exact hC
  · have key : ∀ (l' : List Oper) (k : Nat) (a : Act), wpPh P .any l.toArray (ph2 j1 j2 D) (fun a' => ∀ w', D true (decide (j2 < l.toArray.size)) w' → R .normal a' w') k l' a →
        wpPh P .any l.toArray (ph2 j1 j2 D) (fun a' => ∀ (L : Array Bool) (w' : World), L.size = l.toArray.size → (∀ j, j < l.toArray.size → L.getD j false = true) → ph2 j1 j2 D L w' → R .normal a' w') k l' a := by
      intro l'
      induction l' with
      | nil =>
        intro k a h L w' hsz hL hw'
        refine h w' ?_
        unfold ph2 at hw'
        rw [hL j1 (of_decide_eq_true hj1)] at hw'
        by_cases h2 : j2 < l.toArray.size
        · rw [hL j2 h2] at hw'
          rw [decide_eq_true h2]; exact hw'
        · have h3 : ¬ j2 < L.size := by rw [hsz]; exact h2
          rw [show L.getD j2 false = false by simp only [Array.getD, h3, dite_false]] at hw'
          rw [decide_eq_false h2]; exact hw'
      | cons o l' ih => intro k a ⟨v, h1, h2⟩; exact ⟨v, h1, ih _ _ h2⟩
    exact key l 0 a h
theorem ph_end (h : Q a) : wpPh P md ops C Q k [] a := h
/-- One that writes: w0 ahead of it, R behind it. -/
def one (w0 : World) (R : World → Prop) : Bool → Bool → World → Prop
  | false, _, w => w = w0
  | true, _, w => R w
open Classical in
/-- Any world of R; each other name stands for w0. -/
noncomputable def pickE (R : World → Prop) (w0 d : World) : World := if R d then d else w0
theorem one_pick {w0 : World} {R : World → Prop} : ∀ b c w, one w0 R b c w → ∃ d, w = pickE R w0 d
  | false, _, w, h => ⟨w0, by
    obtain rfl : w = w0 := h
    unfold pickE; split <;> rfl⟩
  | true, _, w, h => ⟨w, by
    have h : R w := h
    unfold pickE; rw [if_pos h]⟩
theorem pick_ind {R M : World → Prop} {w0 : World} (h0 : M w0) (h1 : ∀ w, R w → M w) (d : World) : M (pickE R w0 d) := by
  unfold pickE; split
  · exact h1 _ (by assumption)
  · exact h0
/-- Two that write: four classes; what all of them share. -/
theorem two_pick {D : Bool → Bool → World → Prop} {w0 : World} : ∀ b c w, D b c w → ∃ d, w = pickE (fun w => ∃ b c, D b c w) w0 d :=
  fun b c w h => ⟨w, by unfold pickE; rw [if_pos ⟨b, c, h⟩]⟩
end
end Go.Proofs.YtngomgkinaodjaaDoor
