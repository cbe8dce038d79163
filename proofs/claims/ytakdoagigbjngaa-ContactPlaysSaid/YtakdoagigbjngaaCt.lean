/- What a contactor does, by a plain definition; its block alone changes. Conditions: its counts are small. -/
import Derived.Test.YtakdoagigbjngaaOnly
import Derived.Handy
import Derived.OpenShut
import Derived.Lib.Hide
import Derived.Deep.QuietTactic
import Derived.BigQuiet
import Derived.Outline
namespace Go.Proofs.Ytakdoagigbjngaa
open Go.RowKit
set_option linter.unusedVariables false
theorem ret_cb {a b : Bool} (h : a = b) : Ending.returned (.bool a) = .returned (.bool b) := by rw [h]
/-- A contactor: its two bounds, what it is told, since when, how often wrong, what it read, whether it is jammed. -/
structure CK where
  D : Int
  L : Int
  c : Bool
  s : Int
  g : Int
  v : Int
  f : Bool
  p : Bool
  q : Bool
def CK.cl (k : CK) : Bool := k.f && k.v == 1
def CK.op (k : CK) : Bool := !k.c && decide (k.D ≤ k.s) && k.f && k.v == 0
/-- It is told. -/
def CK.tell (k : CK) (t : Bool) : CK := if t == k.c then { k with s := min (k.s + 1) 1000 } else { k with c := t, s := 0, g := 0 }
def CK.look (k : CK) (v : Int) (f : Bool) : CK := { k with v := v, f := f }
/-- It is judged by what it read. -/
def CK.judge (k : CK) (t : Bool) : CK :=
  if k.f = false then k
  else if k.cl == t || decide (k.s < k.D) then { k with g := 0 }
  else if k.L ≤ k.g + 1 then { k with g := k.g + 1, p := k.p || t, q := k.q || !t }
  else { k with g := k.g + 1 }
def CK.step (k : CK) (t : Bool) (v : Int) (f : Bool) : CK := ((k.tell t).look v f).judge t
def Ct (w : World) (B : Nat) (k : CK) : Prop :=
  w.heap[B]? = some (.cells #[.int .i64 k.D, .int .i64 k.L, .bool k.c, .int .i64 k.s, .int .i64 k.g, .int .i64 k.v, .bool k.f, .bool k.p, .bool k.q] 69 (0, 0))
theorem Ct.lt {w : World} {B : Nat} {k : CK} (h : Ct w B k) : B < w.heap.size := (Array.getElem?_eq_some_iff.1 h).1
theorem Ct.cells {w : World} {B : Nat} {k : CK} (h : Ct w B k) :
    w.cell? ⟨B, 0, none⟩ = some (.int .i64 k.D) ∧ w.cell? ⟨B, 1, none⟩ = some (.int .i64 k.L) ∧ w.cell? ⟨B, 2, none⟩ = some (.bool k.c) ∧ w.cell? ⟨B, 3, none⟩ = some (.int .i64 k.s) ∧ w.cell? ⟨B, 4, none⟩ = some (.int .i64 k.g) ∧ w.cell? ⟨B, 5, none⟩ = some (.int .i64 k.v) ∧ w.cell? ⟨B, 6, none⟩ = some (.bool k.f) ∧ w.cell? ⟨B, 7, none⟩ = some (.bool k.p) ∧ w.cell? ⟨B, 8, none⟩ = some (.bool k.q) ∧ (∀ o, w.frozen? ⟨B, o, none⟩ = false) ∧ B < w.heap.size := by
  have hlt := h.lt
  unfold Ct at h
  refine ⟨?_, ?_, ?_, ?_, ?_, ?_, ?_, ?_, ?_, fun o => ?_, hlt⟩ <;> simp [World.cell?, World.frozen?, h]
theorem Ct.drewN {W : World} {B : Nat} {k : CK} (h : Ct W B k) (n : Nat) : Ct (W.drewN n) B k := h
theorem Ct.below {w w' : World} {B : Nat} {k : CK} (h : Ct w B k) (hb : Below w.heap.size w w') : Ct w' B k := by
  unfold Ct at *
  rw [hb.block B (Array.getElem?_eq_some_iff.1 h).1]; exact h
theorem Ct.only {w w' : World} {B C : Nat} {k : CK} (h : Ct w C k) (hb : Only B w w') (hn : C ≠ B) : Ct w' C k := hb.row h hn
theorem Ct.alloc {w : World} {B : Nat} {k : CK} (h : Ct w B k) (o : Obj) : Ct (w.alloc o) B k := h.below ((Below.refl _ _).alloc (Nat.le_refl _) o)
theorem Ct.setC {w : World} {B : Nat} {k : CK} (h : Ct w B k) (x : Bool) : Ct (w.setCell ⟨B, 2, none⟩ (.bool x)) B { k with c := x } := by
  unfold Ct at *; simp [World.setCell, Array.getElem?_modify, h]
theorem Ct.setS {w : World} {B : Nat} {k : CK} (h : Ct w B k) (x : Int) : Ct (w.setCell ⟨B, 3, none⟩ (.int .i64 x)) B { k with s := x } := by
  unfold Ct at *; simp [World.setCell, Array.getElem?_modify, h]
theorem Ct.setG {w : World} {B : Nat} {k : CK} (h : Ct w B k) (x : Int) : Ct (w.setCell ⟨B, 4, none⟩ (.int .i64 x)) B { k with g := x } := by
  unfold Ct at *; simp [World.setCell, Array.getElem?_modify, h]
theorem Ct.setV {w : World} {B : Nat} {k : CK} (h : Ct w B k) (x : Int) : Ct (w.setCell ⟨B, 5, none⟩ (.int .i64 x)) B { k with v := x } := by
  unfold Ct at *; simp [World.setCell, Array.getElem?_modify, h]
theorem Ct.setF {w : World} {B : Nat} {k : CK} (h : Ct w B k) (x : Bool) : Ct (w.setCell ⟨B, 6, none⟩ (.bool x)) B { k with f := x } := by
  unfold Ct at *; simp [World.setCell, Array.getElem?_modify, h]
theorem Ct.setP {w : World} {B : Nat} {k : CK} (h : Ct w B k) (x : Bool) : Ct (w.setCell ⟨B, 7, none⟩ (.bool x)) B { k with p := x } := by
  unfold Ct at *; simp [World.setCell, Array.getElem?_modify, h]
theorem Ct.setQ {w : World} {B : Nat} {k : CK} (h : Ct w B k) (x : Bool) : Ct (w.setCell ⟨B, 8, none⟩ (.bool x)) B { k with q := x } := by
  unfold Ct at *; simp [World.setCell, Array.getElem?_modify, h]
theorem closedC (B : Nat) (k : CK) (w : World) (h : Ct w B k) :
    Calls Try.prog 26 #[.pointer (some ⟨B, 0, none⟩)] w fun e w' => e = .returned (.bool k.cl) ∧ w' = w := by
  obtain ⟨h0, h1, h2, h3, h4, h5, h6, h7, h8, h9, h10⟩ := h.cells
  clear h
  unfold CK.cl
  cases hf : k.f
  all_goals
    rw [hf] at h6
    go_enter Try.func26, Try.ntmps26
    go_wp2
    all_goals
      go_ret
      exact ⟨ret_cb (by simp), rfl⟩
theorem openC (B : Nat) (k : CK) (w : World) (h : Ct w B k) :
    Calls Try.prog 24 #[.pointer (some ⟨B, 0, none⟩)] w fun e w' => e = .returned (.bool k.op) ∧ Below w.heap.size w w' := by
  obtain ⟨h0, h1, h2, h3, h4, h5, h6, h7, h8, h9, h10⟩ := h.cells
  clear h
  unfold CK.op
  obtain ⟨D, L, c, s, g, v, f, p, q⟩ := k
  simp only [] at h0 h1 h2 h3 h4 h5 h6 h7 h8 ⊢
  cases c
  · by_cases hd : D ≤ s
    · cases f
      all_goals
        go_enter Try.func24, Try.ntmps24
        go_wp2
        go_quiet (fail)
        go_wp2
        go_ret
        exact ⟨ret_cb (by simp [hd]), below_drewN (Below.refl _ _) _⟩
    · have hd' : decide (D ≤ s) = false := by simpa using hd
      go_enter Try.func24, Try.ntmps24
      go_wp2
      go_quiet (fail)
      go_wp2
      go_ret
      exact ⟨ret_cb (by rw [hd']; rfl), below_drewN (Below.refl _ _) _⟩
  · go_enter Try.func24, Try.ntmps24
    go_wp2
    go_quiet (fail)
    go_wp2
    go_ret
    exact ⟨ret_cb (by simp), below_drewN (Below.refl _ _) _⟩
theorem jamC (B : Nat) (k : CK) (w : World) (h : Ct w B k) :
    Calls Try.prog 23 #[.pointer (some ⟨B, 0, none⟩)] w fun e w' => e = .returned (.tuple #[.bool k.p, .bool k.q]) ∧ Below w.heap.size w w' := by
  obtain ⟨h0, h1, h2, h3, h4, h5, h6, h7, h8, h9, h10⟩ := h.cells
  clear h
  go_enter Try.func23, Try.ntmps23
  go_wp2
  go_quiet (fail)
  go_wp2
  go_returns
  exact ⟨rfl, below_drewN (Below.refl _ _) _⟩
theorem setC' (B : Nat) (k : CK) (x y : Bool) (w : World) (h : Ct w B k) :
    Calls Try.prog 19 #[.pointer (some ⟨B, 0, none⟩), .bool x, .bool y] w fun e w' => e = .returned (.tuple #[]) ∧ Ct w' B { k with p := k.p || x, q := k.q || y } ∧ Only B w w' := by
  have H := Lib.hid h
  obtain ⟨h0, h1, h2, h3, h4, h5, h6, h7, h8, h9, h10⟩ := h.cells
  clear h
  cases hp : k.p
  all_goals
    cases hq : k.q
    all_goals
      rw [hp] at h7
      rw [hq] at h8
      have HX := Lib.hid ((H.out.setP (k.p || x)).setQ (k.q || y))
      rw [hp, hq] at HX
      clear hp hq
      go_enter Try.func19, Try.ntmps19
      go_wp2
      go_end0
      refine ⟨rfl, ?_, (Only.set _ _ _ _).trans (Only.set _ _ _ _)⟩
      have := HX.out
      simpa using this
theorem pair {P Q : World → Prop} {W : World} (a : P W) (b : Q W) : P W ∧ Q W := ⟨a, b⟩
theorem judge_fresh1 (k : CK) (t : Bool) (hf : k.f = true) (h : (k.cl == t || decide (k.s < k.D)) = true) : k.judge t = { k with g := 0 } := by
  unfold CK.judge; rw [hf, h]; rfl
theorem judge_fresh2 (k : CK) (t : Bool) (hf : k.f = true) (h : (k.cl == t || decide (k.s < k.D)) = false) (hl : k.L ≤ k.g + 1) : k.judge t = { k with g := k.g + 1, p := k.p || t, q := k.q || !t } := by
  unfold CK.judge; rw [hf, h, if_neg (by decide), if_neg (by decide), if_pos hl]
theorem judge_fresh3 (k : CK) (t : Bool) (hf : k.f = true) (h : (k.cl == t || decide (k.s < k.D)) = false) (hl : ¬ k.L ≤ k.g + 1) : k.judge t = { k with g := k.g + 1 } := by
  unfold CK.judge; rw [hf, h, if_neg (by decide), if_neg (by decide), if_neg hl]
theorem only5 (B : Nat) (w : World) (v1 v2 v3 : Value) (o1 o2 o3 : Nat) (o : Obj) : Only B w ((((w.setCell ⟨B, o1, none⟩ v1).setCell ⟨B, o2, none⟩ v2).setCell ⟨B, o3, none⟩ v3).alloc o) :=
  (((Only.set _ _ _ _).trans (Only.set _ _ _ _)).trans (Only.set _ _ _ _)).trans (Only.alloc _ _ _)
theorem only7 (B : Nat) (w : World) (v1 v2 v3 v4 v5 : Value) (o1 o2 o3 o4 o5 : Nat) (o : Obj) : Only B w ((((((w.setCell ⟨B, o1, none⟩ v1).setCell ⟨B, o2, none⟩ v2).setCell ⟨B, o3, none⟩ v3).setCell ⟨B, o4, none⟩ v4).setCell ⟨B, o5, none⟩ v5).alloc o) :=
  (((((Only.set _ _ _ _).trans (Only.set _ _ _ _)).trans (Only.set _ _ _ _)).trans (Only.set _ _ _ _)).trans (Only.set _ _ _ _)).trans (Only.alloc _ _ _)
set_option maxRecDepth 100000 in
set_option maxHeartbeats 4000000 in
theorem step0000 (B : Nat) (D L s g v0 v : Int) (f0 p q : Bool) (hs : -2 ≤ s) (hs2 : s < 1000) (hg : 0 ≤ g) (hg2 : g ≤ 1000000) (w : World) (h : Ct w B ⟨D, L, false, s, g, v0, f0, p, q⟩) :
    Calls Try.prog 20 #[.pointer (some ⟨B, 0, none⟩), .bool false, .agg #[.int .i64 v, .bool false]] w fun e w' => e = .returned (.tuple #[]) ∧ Ct w' B (CK.judge ⟨D, L, false, (s + 1), g, v, false, p, q⟩ false) ∧ Only B w w' := by
  have H := Lib.hid h
  obtain ⟨h0, h1, h2, h3, h4, h5, h6, h7, h8, h9, h10⟩ := h.cells
  clear h
  simp only [] at h0 h1 h2 h3 h4 h5 h6 h7 h8
  have HC := Lib.hid ((((H.out.setS (s + 1)).setV v).setF false).alloc (.cells #[.int .i64 v, .bool false] 35))
  go_enter Try.func20, Try.ntmps20
  go_wp2
  go_returns
  exact ⟨rfl, HC.out, (only5 B w _ _ _ _ _ _ _)⟩
set_option maxRecDepth 100000 in
set_option maxHeartbeats 4000000 in
theorem step0001 (B : Nat) (D L s g v0 v : Int) (f0 p q : Bool) (hs : -2 ≤ s) (hs2 : s = 1000) (hg : 0 ≤ g) (hg2 : g ≤ 1000000) (w : World) (h : Ct w B ⟨D, L, false, s, g, v0, f0, p, q⟩) :
    Calls Try.prog 20 #[.pointer (some ⟨B, 0, none⟩), .bool false, .agg #[.int .i64 v, .bool false]] w fun e w' => e = .returned (.tuple #[]) ∧ Ct w' B (CK.judge ⟨D, L, false, 1000, g, v, false, p, q⟩ false) ∧ Only B w w' := by
  have H := Lib.hid h
  obtain ⟨h0, h1, h2, h3, h4, h5, h6, h7, h8, h9, h10⟩ := h.cells
  clear h
  simp only [] at h0 h1 h2 h3 h4 h5 h6 h7 h8
  subst hs2
  have HC := Lib.hid ((((H.out.setS 1000).setV v).setF false).alloc (.cells #[.int .i64 v, .bool false] 35))
  go_enter Try.func20, Try.ntmps20
  go_wp2
  go_returns
  exact ⟨rfl, HC.out, (only5 B w _ _ _ _ _ _ _)⟩
set_option maxRecDepth 100000 in
set_option maxHeartbeats 4000000 in
theorem step0010 (B : Nat) (D L s g v0 v : Int) (f0 p q : Bool) (hs : -2 ≤ s) (hs2 : s < 1000) (hg : 0 ≤ g) (hg2 : g ≤ 1000000) (w : World) (h : Ct w B ⟨D, L, false, s, g, v0, f0, p, q⟩) :
    Calls Try.prog 20 #[.pointer (some ⟨B, 0, none⟩), .bool false, .agg #[.int .i64 v, .bool true]] w fun e w' => e = .returned (.tuple #[]) ∧ Ct w' B (CK.judge ⟨D, L, false, (s + 1), g, v, true, p, q⟩ false) ∧ Only B w w' := by
  have H := Lib.hid h
  obtain ⟨h0, h1, h2, h3, h4, h5, h6, h7, h8, h9, h10⟩ := h.cells
  clear h
  simp only [] at h0 h1 h2 h3 h4 h5 h6 h7 h8
  have HC := Lib.hid (pair (P := fun W => Ct W B ⟨D, L, false, (s + 1), g, v, true, p, q⟩) (Q := fun W => Only B w W) ((((H.out.setS (s + 1)).setV v).setF true).alloc (.cells #[.int .i64 v, .bool true] 35)) (only5 B w _ _ _ _ _ _ _))
  cases hv : (v == 1)
  · have HJ := Lib.hid (judge_fresh1 ⟨D, L, false, (s + 1), g, v, true, p, q⟩ false rfl (by show (((true && v == 1) == false) || _) = true; rw [hv]; rfl))
    have KC := Lib.hid fun (W : World) (hW : Ct W B ⟨D, L, false, (s + 1), g, v, true, p, q⟩) => closedC B ⟨D, L, false, (s + 1), g, v, true, p, q⟩ W hW
    rw [show CK.cl ⟨D, L, false, (s + 1), g, v, true, p, q⟩ = false from (show (true && v == 1) = _ by rw [hv]; rfl)] at KC
    go_enter Try.func20, Try.ntmps20
    go_wp2
    generalize World.alloc _ _ = W at HC ⊢
    clear h0 h1 h2 h3 h4 h5 h6 h7 h8 h9
    have HO := Lib.hid HC.out.2
    have HC := Lib.hid (show Ct W B ⟨D, L, false, (s + 1), g, v, true, p, q⟩ from HC.out.1)
    obtain ⟨g0, g1, g2, g3, g4, g5, g6, g7, g8, g9, g10⟩ := HC.out.cells
    simp only [] at g0 g1 g2 g3 g4 g5 g6 g7 g8
    go_quiet ((go_at_call 26; exact Calls.quiet_of_same (KC.out _ (HC.out.drewN _))))
    go_wp2
    go_returns
    refine ⟨rfl, ?_, HO.out.trans ((Only.drewN _ _ _).trans (Only.set _ _ _ _))⟩
    rw [HJ.out]
    exact (HC.out.drewN _).setG 0
  · by_cases hd : (s + 1) < D
    · have HJ := Lib.hid (judge_fresh1 ⟨D, L, false, (s + 1), g, v, true, p, q⟩ false rfl (by show (_ || decide ((s + 1) < D)) = true; rw [decide_eq_true hd]; simp))
      have KC := Lib.hid fun (W : World) (hW : Ct W B ⟨D, L, false, (s + 1), g, v, true, p, q⟩) => closedC B ⟨D, L, false, (s + 1), g, v, true, p, q⟩ W hW
      rw [show CK.cl ⟨D, L, false, (s + 1), g, v, true, p, q⟩ = true from (show (true && v == 1) = _ by rw [hv]; rfl)] at KC
      go_enter Try.func20, Try.ntmps20
      go_wp2
      generalize World.alloc _ _ = W at HC ⊢
      clear h0 h1 h2 h3 h4 h5 h6 h7 h8 h9
      have HO := Lib.hid HC.out.2
      have HC := Lib.hid (show Ct W B ⟨D, L, false, (s + 1), g, v, true, p, q⟩ from HC.out.1)
      obtain ⟨g0, g1, g2, g3, g4, g5, g6, g7, g8, g9, g10⟩ := HC.out.cells
      simp only [] at g0 g1 g2 g3 g4 g5 g6 g7 g8
      go_quiet ((go_at_call 26; exact Calls.quiet_of_same (KC.out _ (HC.out.drewN _))))
      go_wp2
      go_returns
      refine ⟨rfl, ?_, HO.out.trans ((Only.drewN _ _ _).trans (Only.set _ _ _ _))⟩
      rw [HJ.out]
      exact (HC.out.drewN _).setG 0
    · have hj : (CK.cl ⟨D, L, false, (s + 1), g, v, true, p, q⟩ == false || decide ((s + 1) < D)) = false := by show (((true && v == 1) == false) || decide ((s + 1) < D)) = false; rw [hv, decide_eq_false hd]; rfl
      by_cases hl : L ≤ g + 1
      · have HJ := Lib.hid (judge_fresh2 ⟨D, L, false, (s + 1), g, v, true, p, q⟩ false rfl hj hl)
        clear hj
        have KC := Lib.hid fun (W : World) (hW : Ct W B ⟨D, L, false, (s + 1), g, v, true, p, q⟩) => closedC B ⟨D, L, false, (s + 1), g, v, true, p, q⟩ W hW
        rw [show CK.cl ⟨D, L, false, (s + 1), g, v, true, p, q⟩ = true from (show (true && v == 1) = _ by rw [hv]; rfl)] at KC
        go_enter Try.func20, Try.ntmps20
        go_wp2
        generalize World.alloc _ _ = W at HC ⊢
        clear h0 h1 h2 h3 h4 h5 h6 h7 h8 h9
        have HO := Lib.hid HC.out.2
        have HC := Lib.hid (show Ct W B ⟨D, L, false, (s + 1), g, v, true, p, q⟩ from HC.out.1)
        obtain ⟨g0, g1, g2, g3, g4, g5, g6, g7, g8, g9, g10⟩ := HC.out.cells
        simp only [] at g0 g1 g2 g3 g4 g5 g6 g7 g8
        go_quiet ((go_at_call 26; exact Calls.quiet_of_same (KC.out _ (HC.out.drewN _))))
        go_wp2
        go_quiet (fail)
        go_wp2_with fail
        refine (setC' B ⟨D, L, false, (s + 1), g + 1, v, true, p, q⟩ false true _ (((HC.out.drewN _).setG (g + 1)).drewN _)).mono ?_
        rintro e w1 ⟨rfl, H1, hb⟩
        have HX := Lib.hid H1
        have HY := Lib.hid hb
        clear H1 hb
        go_wp2_with fail
        go_returns
        refine ⟨rfl, ?_, HO.out.trans (((Only.drewN _ _ _).trans ((Only.set _ _ _ _).trans (Only.drewN _ _ _))).trans HY.out)⟩
        rw [HJ.out]
        exact HX.out
      · have HJ := Lib.hid (judge_fresh3 ⟨D, L, false, (s + 1), g, v, true, p, q⟩ false rfl hj hl)
        clear hj
        have KC := Lib.hid fun (W : World) (hW : Ct W B ⟨D, L, false, (s + 1), g, v, true, p, q⟩) => closedC B ⟨D, L, false, (s + 1), g, v, true, p, q⟩ W hW
        rw [show CK.cl ⟨D, L, false, (s + 1), g, v, true, p, q⟩ = true from (show (true && v == 1) = _ by rw [hv]; rfl)] at KC
        go_enter Try.func20, Try.ntmps20
        go_wp2
        generalize World.alloc _ _ = W at HC ⊢
        clear h0 h1 h2 h3 h4 h5 h6 h7 h8 h9
        have HO := Lib.hid HC.out.2
        have HC := Lib.hid (show Ct W B ⟨D, L, false, (s + 1), g, v, true, p, q⟩ from HC.out.1)
        obtain ⟨g0, g1, g2, g3, g4, g5, g6, g7, g8, g9, g10⟩ := HC.out.cells
        simp only [] at g0 g1 g2 g3 g4 g5 g6 g7 g8
        go_quiet ((go_at_call 26; exact Calls.quiet_of_same (KC.out _ (HC.out.drewN _))))
        go_wp2
        go_quiet (fail)
        go_wp2_with fail
        go_returns
        refine ⟨rfl, ?_, HO.out.trans ((Only.drewN _ _ _).trans ((Only.set _ _ _ _).trans (Only.drewN _ _ _)))⟩
        rw [HJ.out]
        exact (((HC.out.drewN _).setG (g + 1)).drewN _)
set_option maxRecDepth 100000 in
set_option maxHeartbeats 4000000 in
theorem step0011 (B : Nat) (D L s g v0 v : Int) (f0 p q : Bool) (hs : -2 ≤ s) (hs2 : s = 1000) (hg : 0 ≤ g) (hg2 : g ≤ 1000000) (w : World) (h : Ct w B ⟨D, L, false, s, g, v0, f0, p, q⟩) :
    Calls Try.prog 20 #[.pointer (some ⟨B, 0, none⟩), .bool false, .agg #[.int .i64 v, .bool true]] w fun e w' => e = .returned (.tuple #[]) ∧ Ct w' B (CK.judge ⟨D, L, false, 1000, g, v, true, p, q⟩ false) ∧ Only B w w' := by
  have H := Lib.hid h
  obtain ⟨h0, h1, h2, h3, h4, h5, h6, h7, h8, h9, h10⟩ := h.cells
  clear h
  simp only [] at h0 h1 h2 h3 h4 h5 h6 h7 h8
  subst hs2
  have HC := Lib.hid (pair (P := fun W => Ct W B ⟨D, L, false, 1000, g, v, true, p, q⟩) (Q := fun W => Only B w W) ((((H.out.setS 1000).setV v).setF true).alloc (.cells #[.int .i64 v, .bool true] 35)) (only5 B w _ _ _ _ _ _ _))
  cases hv : (v == 1)
  · have HJ := Lib.hid (judge_fresh1 ⟨D, L, false, 1000, g, v, true, p, q⟩ false rfl (by show (((true && v == 1) == false) || _) = true; rw [hv]; rfl))
    have KC := Lib.hid fun (W : World) (hW : Ct W B ⟨D, L, false, 1000, g, v, true, p, q⟩) => closedC B ⟨D, L, false, 1000, g, v, true, p, q⟩ W hW
    rw [show CK.cl ⟨D, L, false, 1000, g, v, true, p, q⟩ = false from (show (true && v == 1) = _ by rw [hv]; rfl)] at KC
    go_enter Try.func20, Try.ntmps20
    go_wp2
    generalize World.alloc _ _ = W at HC ⊢
    clear h0 h1 h2 h3 h4 h5 h6 h7 h8 h9
    have HO := Lib.hid HC.out.2
    have HC := Lib.hid (show Ct W B ⟨D, L, false, 1000, g, v, true, p, q⟩ from HC.out.1)
    obtain ⟨g0, g1, g2, g3, g4, g5, g6, g7, g8, g9, g10⟩ := HC.out.cells
    simp only [] at g0 g1 g2 g3 g4 g5 g6 g7 g8
    go_quiet ((go_at_call 26; exact Calls.quiet_of_same (KC.out _ (HC.out.drewN _))))
    go_wp2
    go_returns
    refine ⟨rfl, ?_, HO.out.trans ((Only.drewN _ _ _).trans (Only.set _ _ _ _))⟩
    rw [HJ.out]
    exact (HC.out.drewN _).setG 0
  · by_cases hd : 1000 < D
    · have HJ := Lib.hid (judge_fresh1 ⟨D, L, false, 1000, g, v, true, p, q⟩ false rfl (by show (_ || decide (1000 < D)) = true; rw [decide_eq_true hd]; simp))
      have KC := Lib.hid fun (W : World) (hW : Ct W B ⟨D, L, false, 1000, g, v, true, p, q⟩) => closedC B ⟨D, L, false, 1000, g, v, true, p, q⟩ W hW
      rw [show CK.cl ⟨D, L, false, 1000, g, v, true, p, q⟩ = true from (show (true && v == 1) = _ by rw [hv]; rfl)] at KC
      go_enter Try.func20, Try.ntmps20
      go_wp2
      generalize World.alloc _ _ = W at HC ⊢
      clear h0 h1 h2 h3 h4 h5 h6 h7 h8 h9
      have HO := Lib.hid HC.out.2
      have HC := Lib.hid (show Ct W B ⟨D, L, false, 1000, g, v, true, p, q⟩ from HC.out.1)
      obtain ⟨g0, g1, g2, g3, g4, g5, g6, g7, g8, g9, g10⟩ := HC.out.cells
      simp only [] at g0 g1 g2 g3 g4 g5 g6 g7 g8
      go_quiet ((go_at_call 26; exact Calls.quiet_of_same (KC.out _ (HC.out.drewN _))))
      go_wp2
      go_returns
      refine ⟨rfl, ?_, HO.out.trans ((Only.drewN _ _ _).trans (Only.set _ _ _ _))⟩
      rw [HJ.out]
      exact (HC.out.drewN _).setG 0
    · have hj : (CK.cl ⟨D, L, false, 1000, g, v, true, p, q⟩ == false || decide (1000 < D)) = false := by show (((true && v == 1) == false) || decide (1000 < D)) = false; rw [hv, decide_eq_false hd]; rfl
      by_cases hl : L ≤ g + 1
      · have HJ := Lib.hid (judge_fresh2 ⟨D, L, false, 1000, g, v, true, p, q⟩ false rfl hj hl)
        clear hj
        have KC := Lib.hid fun (W : World) (hW : Ct W B ⟨D, L, false, 1000, g, v, true, p, q⟩) => closedC B ⟨D, L, false, 1000, g, v, true, p, q⟩ W hW
        rw [show CK.cl ⟨D, L, false, 1000, g, v, true, p, q⟩ = true from (show (true && v == 1) = _ by rw [hv]; rfl)] at KC
        go_enter Try.func20, Try.ntmps20
        go_wp2
        generalize World.alloc _ _ = W at HC ⊢
        clear h0 h1 h2 h3 h4 h5 h6 h7 h8 h9
        have HO := Lib.hid HC.out.2
        have HC := Lib.hid (show Ct W B ⟨D, L, false, 1000, g, v, true, p, q⟩ from HC.out.1)
        obtain ⟨g0, g1, g2, g3, g4, g5, g6, g7, g8, g9, g10⟩ := HC.out.cells
        simp only [] at g0 g1 g2 g3 g4 g5 g6 g7 g8
        go_quiet ((go_at_call 26; exact Calls.quiet_of_same (KC.out _ (HC.out.drewN _))))
        go_wp2
        go_quiet (fail)
        go_wp2_with fail
        refine (setC' B ⟨D, L, false, 1000, g + 1, v, true, p, q⟩ false true _ (((HC.out.drewN _).setG (g + 1)).drewN _)).mono ?_
        rintro e w1 ⟨rfl, H1, hb⟩
        have HX := Lib.hid H1
        have HY := Lib.hid hb
        clear H1 hb
        go_wp2_with fail
        go_returns
        refine ⟨rfl, ?_, HO.out.trans (((Only.drewN _ _ _).trans ((Only.set _ _ _ _).trans (Only.drewN _ _ _))).trans HY.out)⟩
        rw [HJ.out]
        exact HX.out
      · have HJ := Lib.hid (judge_fresh3 ⟨D, L, false, 1000, g, v, true, p, q⟩ false rfl hj hl)
        clear hj
        have KC := Lib.hid fun (W : World) (hW : Ct W B ⟨D, L, false, 1000, g, v, true, p, q⟩) => closedC B ⟨D, L, false, 1000, g, v, true, p, q⟩ W hW
        rw [show CK.cl ⟨D, L, false, 1000, g, v, true, p, q⟩ = true from (show (true && v == 1) = _ by rw [hv]; rfl)] at KC
        go_enter Try.func20, Try.ntmps20
        go_wp2
        generalize World.alloc _ _ = W at HC ⊢
        clear h0 h1 h2 h3 h4 h5 h6 h7 h8 h9
        have HO := Lib.hid HC.out.2
        have HC := Lib.hid (show Ct W B ⟨D, L, false, 1000, g, v, true, p, q⟩ from HC.out.1)
        obtain ⟨g0, g1, g2, g3, g4, g5, g6, g7, g8, g9, g10⟩ := HC.out.cells
        simp only [] at g0 g1 g2 g3 g4 g5 g6 g7 g8
        go_quiet ((go_at_call 26; exact Calls.quiet_of_same (KC.out _ (HC.out.drewN _))))
        go_wp2
        go_quiet (fail)
        go_wp2_with fail
        go_returns
        refine ⟨rfl, ?_, HO.out.trans ((Only.drewN _ _ _).trans ((Only.set _ _ _ _).trans (Only.drewN _ _ _)))⟩
        rw [HJ.out]
        exact (((HC.out.drewN _).setG (g + 1)).drewN _)
set_option maxRecDepth 100000 in
set_option maxHeartbeats 4000000 in
theorem step0100 (B : Nat) (D L s g v0 v : Int) (f0 p q : Bool)  (hg : 0 ≤ g) (hg2 : g ≤ 1000000) (w : World) (h : Ct w B ⟨D, L, true, s, g, v0, f0, p, q⟩) :
    Calls Try.prog 20 #[.pointer (some ⟨B, 0, none⟩), .bool false, .agg #[.int .i64 v, .bool false]] w fun e w' => e = .returned (.tuple #[]) ∧ Ct w' B (CK.judge ⟨D, L, false, 0, 0, v, false, p, q⟩ false) ∧ Only B w w' := by
  have H := Lib.hid h
  obtain ⟨h0, h1, h2, h3, h4, h5, h6, h7, h8, h9, h10⟩ := h.cells
  clear h
  simp only [] at h0 h1 h2 h3 h4 h5 h6 h7 h8
  have HC := Lib.hid ((((((H.out.setC false).setS 0).setG 0).setV v).setF false).alloc (.cells #[.int .i64 v, .bool false] 35))
  go_enter Try.func20, Try.ntmps20
  go_wp2
  go_returns
  exact ⟨rfl, HC.out, (only7 B w _ _ _ _ _ _ _ _ _ _ _)⟩
set_option maxRecDepth 100000 in
set_option maxHeartbeats 4000000 in
theorem step0110 (B : Nat) (D L s g v0 v : Int) (f0 p q : Bool)  (hg : 0 ≤ g) (hg2 : g ≤ 1000000) (w : World) (h : Ct w B ⟨D, L, true, s, g, v0, f0, p, q⟩) :
    Calls Try.prog 20 #[.pointer (some ⟨B, 0, none⟩), .bool false, .agg #[.int .i64 v, .bool true]] w fun e w' => e = .returned (.tuple #[]) ∧ Ct w' B (CK.judge ⟨D, L, false, 0, 0, v, true, p, q⟩ false) ∧ Only B w w' := by
  have H := Lib.hid h
  obtain ⟨h0, h1, h2, h3, h4, h5, h6, h7, h8, h9, h10⟩ := h.cells
  clear h
  simp only [] at h0 h1 h2 h3 h4 h5 h6 h7 h8
  have HC := Lib.hid (pair (P := fun W => Ct W B ⟨D, L, false, 0, 0, v, true, p, q⟩) (Q := fun W => Only B w W) ((((((H.out.setC false).setS 0).setG 0).setV v).setF true).alloc (.cells #[.int .i64 v, .bool true] 35)) (only7 B w _ _ _ _ _ _ _ _ _ _ _))
  cases hv : (v == 1)
  · have HJ := Lib.hid (judge_fresh1 ⟨D, L, false, 0, 0, v, true, p, q⟩ false rfl (by show (((true && v == 1) == false) || _) = true; rw [hv]; rfl))
    have KC := Lib.hid fun (W : World) (hW : Ct W B ⟨D, L, false, 0, 0, v, true, p, q⟩) => closedC B ⟨D, L, false, 0, 0, v, true, p, q⟩ W hW
    rw [show CK.cl ⟨D, L, false, 0, 0, v, true, p, q⟩ = false from (show (true && v == 1) = _ by rw [hv]; rfl)] at KC
    go_enter Try.func20, Try.ntmps20
    go_wp2
    generalize World.alloc _ _ = W at HC ⊢
    clear h0 h1 h2 h3 h4 h5 h6 h7 h8 h9
    have HO := Lib.hid HC.out.2
    have HC := Lib.hid (show Ct W B ⟨D, L, false, 0, 0, v, true, p, q⟩ from HC.out.1)
    obtain ⟨g0, g1, g2, g3, g4, g5, g6, g7, g8, g9, g10⟩ := HC.out.cells
    simp only [] at g0 g1 g2 g3 g4 g5 g6 g7 g8
    go_quiet ((go_at_call 26; exact Calls.quiet_of_same (KC.out _ (HC.out.drewN _))))
    go_wp2
    go_returns
    refine ⟨rfl, ?_, HO.out.trans ((Only.drewN _ _ _).trans (Only.set _ _ _ _))⟩
    rw [HJ.out]
    exact (HC.out.drewN _).setG 0
  · by_cases hd : 0 < D
    · have HJ := Lib.hid (judge_fresh1 ⟨D, L, false, 0, 0, v, true, p, q⟩ false rfl (by show (_ || decide (0 < D)) = true; rw [decide_eq_true hd]; simp))
      have KC := Lib.hid fun (W : World) (hW : Ct W B ⟨D, L, false, 0, 0, v, true, p, q⟩) => closedC B ⟨D, L, false, 0, 0, v, true, p, q⟩ W hW
      rw [show CK.cl ⟨D, L, false, 0, 0, v, true, p, q⟩ = true from (show (true && v == 1) = _ by rw [hv]; rfl)] at KC
      go_enter Try.func20, Try.ntmps20
      go_wp2
      generalize World.alloc _ _ = W at HC ⊢
      clear h0 h1 h2 h3 h4 h5 h6 h7 h8 h9
      have HO := Lib.hid HC.out.2
      have HC := Lib.hid (show Ct W B ⟨D, L, false, 0, 0, v, true, p, q⟩ from HC.out.1)
      obtain ⟨g0, g1, g2, g3, g4, g5, g6, g7, g8, g9, g10⟩ := HC.out.cells
      simp only [] at g0 g1 g2 g3 g4 g5 g6 g7 g8
      go_quiet ((go_at_call 26; exact Calls.quiet_of_same (KC.out _ (HC.out.drewN _))))
      go_wp2
      go_returns
      refine ⟨rfl, ?_, HO.out.trans ((Only.drewN _ _ _).trans (Only.set _ _ _ _))⟩
      rw [HJ.out]
      exact (HC.out.drewN _).setG 0
    · have hj : (CK.cl ⟨D, L, false, 0, 0, v, true, p, q⟩ == false || decide (0 < D)) = false := by show (((true && v == 1) == false) || decide (0 < D)) = false; rw [hv, decide_eq_false hd]; rfl
      by_cases hl : L ≤ 0 + 1
      · have HJ := Lib.hid (judge_fresh2 ⟨D, L, false, 0, 0, v, true, p, q⟩ false rfl hj hl)
        clear hj
        have KC := Lib.hid fun (W : World) (hW : Ct W B ⟨D, L, false, 0, 0, v, true, p, q⟩) => closedC B ⟨D, L, false, 0, 0, v, true, p, q⟩ W hW
        rw [show CK.cl ⟨D, L, false, 0, 0, v, true, p, q⟩ = true from (show (true && v == 1) = _ by rw [hv]; rfl)] at KC
        go_enter Try.func20, Try.ntmps20
        go_wp2
        generalize World.alloc _ _ = W at HC ⊢
        clear h0 h1 h2 h3 h4 h5 h6 h7 h8 h9
        have HO := Lib.hid HC.out.2
        have HC := Lib.hid (show Ct W B ⟨D, L, false, 0, 0, v, true, p, q⟩ from HC.out.1)
        obtain ⟨g0, g1, g2, g3, g4, g5, g6, g7, g8, g9, g10⟩ := HC.out.cells
        simp only [] at g0 g1 g2 g3 g4 g5 g6 g7 g8
        go_quiet ((go_at_call 26; exact Calls.quiet_of_same (KC.out _ (HC.out.drewN _))))
        go_wp2
        go_quiet (fail)
        go_wp2_with fail
        refine (setC' B ⟨D, L, false, 0, 0 + 1, v, true, p, q⟩ false true _ (((HC.out.drewN _).setG (0 + 1)).drewN _)).mono ?_
        rintro e w1 ⟨rfl, H1, hb⟩
        have HX := Lib.hid H1
        have HY := Lib.hid hb
        clear H1 hb
        go_wp2_with fail
        go_returns
        refine ⟨rfl, ?_, HO.out.trans (((Only.drewN _ _ _).trans ((Only.set _ _ _ _).trans (Only.drewN _ _ _))).trans HY.out)⟩
        rw [HJ.out]
        exact HX.out
      · have HJ := Lib.hid (judge_fresh3 ⟨D, L, false, 0, 0, v, true, p, q⟩ false rfl hj hl)
        clear hj
        have KC := Lib.hid fun (W : World) (hW : Ct W B ⟨D, L, false, 0, 0, v, true, p, q⟩) => closedC B ⟨D, L, false, 0, 0, v, true, p, q⟩ W hW
        rw [show CK.cl ⟨D, L, false, 0, 0, v, true, p, q⟩ = true from (show (true && v == 1) = _ by rw [hv]; rfl)] at KC
        go_enter Try.func20, Try.ntmps20
        go_wp2
        generalize World.alloc _ _ = W at HC ⊢
        clear h0 h1 h2 h3 h4 h5 h6 h7 h8 h9
        have HO := Lib.hid HC.out.2
        have HC := Lib.hid (show Ct W B ⟨D, L, false, 0, 0, v, true, p, q⟩ from HC.out.1)
        obtain ⟨g0, g1, g2, g3, g4, g5, g6, g7, g8, g9, g10⟩ := HC.out.cells
        simp only [] at g0 g1 g2 g3 g4 g5 g6 g7 g8
        go_quiet ((go_at_call 26; exact Calls.quiet_of_same (KC.out _ (HC.out.drewN _))))
        go_wp2
        go_quiet (fail)
        go_wp2_with fail
        go_returns
        refine ⟨rfl, ?_, HO.out.trans ((Only.drewN _ _ _).trans ((Only.set _ _ _ _).trans (Only.drewN _ _ _)))⟩
        rw [HJ.out]
        exact (((HC.out.drewN _).setG (0 + 1)).drewN _)
set_option maxRecDepth 100000 in
set_option maxHeartbeats 4000000 in
theorem step1000 (B : Nat) (D L s g v0 v : Int) (f0 p q : Bool)  (hg : 0 ≤ g) (hg2 : g ≤ 1000000) (w : World) (h : Ct w B ⟨D, L, false, s, g, v0, f0, p, q⟩) :
    Calls Try.prog 20 #[.pointer (some ⟨B, 0, none⟩), .bool true, .agg #[.int .i64 v, .bool false]] w fun e w' => e = .returned (.tuple #[]) ∧ Ct w' B (CK.judge ⟨D, L, true, 0, 0, v, false, p, q⟩ true) ∧ Only B w w' := by
  have H := Lib.hid h
  obtain ⟨h0, h1, h2, h3, h4, h5, h6, h7, h8, h9, h10⟩ := h.cells
  clear h
  simp only [] at h0 h1 h2 h3 h4 h5 h6 h7 h8
  have HC := Lib.hid ((((((H.out.setC true).setS 0).setG 0).setV v).setF false).alloc (.cells #[.int .i64 v, .bool false] 35))
  go_enter Try.func20, Try.ntmps20
  go_wp2
  go_returns
  exact ⟨rfl, HC.out, (only7 B w _ _ _ _ _ _ _ _ _ _ _)⟩
set_option maxRecDepth 100000 in
set_option maxHeartbeats 4000000 in
theorem step1010 (B : Nat) (D L s g v0 v : Int) (f0 p q : Bool)  (hg : 0 ≤ g) (hg2 : g ≤ 1000000) (w : World) (h : Ct w B ⟨D, L, false, s, g, v0, f0, p, q⟩) :
    Calls Try.prog 20 #[.pointer (some ⟨B, 0, none⟩), .bool true, .agg #[.int .i64 v, .bool true]] w fun e w' => e = .returned (.tuple #[]) ∧ Ct w' B (CK.judge ⟨D, L, true, 0, 0, v, true, p, q⟩ true) ∧ Only B w w' := by
  have H := Lib.hid h
  obtain ⟨h0, h1, h2, h3, h4, h5, h6, h7, h8, h9, h10⟩ := h.cells
  clear h
  simp only [] at h0 h1 h2 h3 h4 h5 h6 h7 h8
  have HC := Lib.hid (pair (P := fun W => Ct W B ⟨D, L, true, 0, 0, v, true, p, q⟩) (Q := fun W => Only B w W) ((((((H.out.setC true).setS 0).setG 0).setV v).setF true).alloc (.cells #[.int .i64 v, .bool true] 35)) (only7 B w _ _ _ _ _ _ _ _ _ _ _))
  cases hv : (v == 1)
  · by_cases hd : 0 < D
    · have HJ := Lib.hid (judge_fresh1 ⟨D, L, true, 0, 0, v, true, p, q⟩ true rfl (by show (_ || decide (0 < D)) = true; rw [decide_eq_true hd]; simp))
      have KC := Lib.hid fun (W : World) (hW : Ct W B ⟨D, L, true, 0, 0, v, true, p, q⟩) => closedC B ⟨D, L, true, 0, 0, v, true, p, q⟩ W hW
      rw [show CK.cl ⟨D, L, true, 0, 0, v, true, p, q⟩ = false from (show (true && v == 1) = _ by rw [hv]; rfl)] at KC
      go_enter Try.func20, Try.ntmps20
      go_wp2
      generalize World.alloc _ _ = W at HC ⊢
      clear h0 h1 h2 h3 h4 h5 h6 h7 h8 h9
      have HO := Lib.hid HC.out.2
      have HC := Lib.hid (show Ct W B ⟨D, L, true, 0, 0, v, true, p, q⟩ from HC.out.1)
      obtain ⟨g0, g1, g2, g3, g4, g5, g6, g7, g8, g9, g10⟩ := HC.out.cells
      simp only [] at g0 g1 g2 g3 g4 g5 g6 g7 g8
      go_quiet ((go_at_call 26; exact Calls.quiet_of_same (KC.out _ (HC.out.drewN _))))
      go_wp2
      go_returns
      refine ⟨rfl, ?_, HO.out.trans ((Only.drewN _ _ _).trans (Only.set _ _ _ _))⟩
      rw [HJ.out]
      exact (HC.out.drewN _).setG 0
    · have hj : (CK.cl ⟨D, L, true, 0, 0, v, true, p, q⟩ == true || decide (0 < D)) = false := by show (((true && v == 1) == true) || decide (0 < D)) = false; rw [hv, decide_eq_false hd]; rfl
      by_cases hl : L ≤ 0 + 1
      · have HJ := Lib.hid (judge_fresh2 ⟨D, L, true, 0, 0, v, true, p, q⟩ true rfl hj hl)
        clear hj
        have KC := Lib.hid fun (W : World) (hW : Ct W B ⟨D, L, true, 0, 0, v, true, p, q⟩) => closedC B ⟨D, L, true, 0, 0, v, true, p, q⟩ W hW
        rw [show CK.cl ⟨D, L, true, 0, 0, v, true, p, q⟩ = false from (show (true && v == 1) = _ by rw [hv]; rfl)] at KC
        go_enter Try.func20, Try.ntmps20
        go_wp2
        generalize World.alloc _ _ = W at HC ⊢
        clear h0 h1 h2 h3 h4 h5 h6 h7 h8 h9
        have HO := Lib.hid HC.out.2
        have HC := Lib.hid (show Ct W B ⟨D, L, true, 0, 0, v, true, p, q⟩ from HC.out.1)
        obtain ⟨g0, g1, g2, g3, g4, g5, g6, g7, g8, g9, g10⟩ := HC.out.cells
        simp only [] at g0 g1 g2 g3 g4 g5 g6 g7 g8
        go_quiet ((go_at_call 26; exact Calls.quiet_of_same (KC.out _ (HC.out.drewN _))))
        go_wp2
        go_quiet (fail)
        go_wp2_with fail
        refine (setC' B ⟨D, L, true, 0, 0 + 1, v, true, p, q⟩ true false _ (((HC.out.drewN _).setG (0 + 1)).drewN _)).mono ?_
        rintro e w1 ⟨rfl, H1, hb⟩
        have HX := Lib.hid H1
        have HY := Lib.hid hb
        clear H1 hb
        go_wp2_with fail
        go_returns
        refine ⟨rfl, ?_, HO.out.trans (((Only.drewN _ _ _).trans ((Only.set _ _ _ _).trans (Only.drewN _ _ _))).trans HY.out)⟩
        rw [HJ.out]
        exact HX.out
      · have HJ := Lib.hid (judge_fresh3 ⟨D, L, true, 0, 0, v, true, p, q⟩ true rfl hj hl)
        clear hj
        have KC := Lib.hid fun (W : World) (hW : Ct W B ⟨D, L, true, 0, 0, v, true, p, q⟩) => closedC B ⟨D, L, true, 0, 0, v, true, p, q⟩ W hW
        rw [show CK.cl ⟨D, L, true, 0, 0, v, true, p, q⟩ = false from (show (true && v == 1) = _ by rw [hv]; rfl)] at KC
        go_enter Try.func20, Try.ntmps20
        go_wp2
        generalize World.alloc _ _ = W at HC ⊢
        clear h0 h1 h2 h3 h4 h5 h6 h7 h8 h9
        have HO := Lib.hid HC.out.2
        have HC := Lib.hid (show Ct W B ⟨D, L, true, 0, 0, v, true, p, q⟩ from HC.out.1)
        obtain ⟨g0, g1, g2, g3, g4, g5, g6, g7, g8, g9, g10⟩ := HC.out.cells
        simp only [] at g0 g1 g2 g3 g4 g5 g6 g7 g8
        go_quiet ((go_at_call 26; exact Calls.quiet_of_same (KC.out _ (HC.out.drewN _))))
        go_wp2
        go_quiet (fail)
        go_wp2_with fail
        go_returns
        refine ⟨rfl, ?_, HO.out.trans ((Only.drewN _ _ _).trans ((Only.set _ _ _ _).trans (Only.drewN _ _ _)))⟩
        rw [HJ.out]
        exact (((HC.out.drewN _).setG (0 + 1)).drewN _)
  · have HJ := Lib.hid (judge_fresh1 ⟨D, L, true, 0, 0, v, true, p, q⟩ true rfl (by show (((true && v == 1) == true) || _) = true; rw [hv]; rfl))
    have KC := Lib.hid fun (W : World) (hW : Ct W B ⟨D, L, true, 0, 0, v, true, p, q⟩) => closedC B ⟨D, L, true, 0, 0, v, true, p, q⟩ W hW
    rw [show CK.cl ⟨D, L, true, 0, 0, v, true, p, q⟩ = true from (show (true && v == 1) = _ by rw [hv]; rfl)] at KC
    go_enter Try.func20, Try.ntmps20
    go_wp2
    generalize World.alloc _ _ = W at HC ⊢
    clear h0 h1 h2 h3 h4 h5 h6 h7 h8 h9
    have HO := Lib.hid HC.out.2
    have HC := Lib.hid (show Ct W B ⟨D, L, true, 0, 0, v, true, p, q⟩ from HC.out.1)
    obtain ⟨g0, g1, g2, g3, g4, g5, g6, g7, g8, g9, g10⟩ := HC.out.cells
    simp only [] at g0 g1 g2 g3 g4 g5 g6 g7 g8
    go_quiet ((go_at_call 26; exact Calls.quiet_of_same (KC.out _ (HC.out.drewN _))))
    go_wp2
    go_returns
    refine ⟨rfl, ?_, HO.out.trans ((Only.drewN _ _ _).trans (Only.set _ _ _ _))⟩
    rw [HJ.out]
    exact (HC.out.drewN _).setG 0
set_option maxRecDepth 100000 in
set_option maxHeartbeats 4000000 in
theorem step1100 (B : Nat) (D L s g v0 v : Int) (f0 p q : Bool) (hs : -2 ≤ s) (hs2 : s < 1000) (hg : 0 ≤ g) (hg2 : g ≤ 1000000) (w : World) (h : Ct w B ⟨D, L, true, s, g, v0, f0, p, q⟩) :
    Calls Try.prog 20 #[.pointer (some ⟨B, 0, none⟩), .bool true, .agg #[.int .i64 v, .bool false]] w fun e w' => e = .returned (.tuple #[]) ∧ Ct w' B (CK.judge ⟨D, L, true, (s + 1), g, v, false, p, q⟩ true) ∧ Only B w w' := by
  have H := Lib.hid h
  obtain ⟨h0, h1, h2, h3, h4, h5, h6, h7, h8, h9, h10⟩ := h.cells
  clear h
  simp only [] at h0 h1 h2 h3 h4 h5 h6 h7 h8
  have HC := Lib.hid ((((H.out.setS (s + 1)).setV v).setF false).alloc (.cells #[.int .i64 v, .bool false] 35))
  go_enter Try.func20, Try.ntmps20
  go_wp2
  go_returns
  exact ⟨rfl, HC.out, (only5 B w _ _ _ _ _ _ _)⟩
set_option maxRecDepth 100000 in
set_option maxHeartbeats 4000000 in
theorem step1101 (B : Nat) (D L s g v0 v : Int) (f0 p q : Bool) (hs : -2 ≤ s) (hs2 : s = 1000) (hg : 0 ≤ g) (hg2 : g ≤ 1000000) (w : World) (h : Ct w B ⟨D, L, true, s, g, v0, f0, p, q⟩) :
    Calls Try.prog 20 #[.pointer (some ⟨B, 0, none⟩), .bool true, .agg #[.int .i64 v, .bool false]] w fun e w' => e = .returned (.tuple #[]) ∧ Ct w' B (CK.judge ⟨D, L, true, 1000, g, v, false, p, q⟩ true) ∧ Only B w w' := by
  have H := Lib.hid h
  obtain ⟨h0, h1, h2, h3, h4, h5, h6, h7, h8, h9, h10⟩ := h.cells
  clear h
  simp only [] at h0 h1 h2 h3 h4 h5 h6 h7 h8
  subst hs2
  have HC := Lib.hid ((((H.out.setS 1000).setV v).setF false).alloc (.cells #[.int .i64 v, .bool false] 35))
  go_enter Try.func20, Try.ntmps20
  go_wp2
  go_returns
  exact ⟨rfl, HC.out, (only5 B w _ _ _ _ _ _ _)⟩
set_option maxRecDepth 100000 in
set_option maxHeartbeats 4000000 in
theorem step1110 (B : Nat) (D L s g v0 v : Int) (f0 p q : Bool) (hs : -2 ≤ s) (hs2 : s < 1000) (hg : 0 ≤ g) (hg2 : g ≤ 1000000) (w : World) (h : Ct w B ⟨D, L, true, s, g, v0, f0, p, q⟩) :
    Calls Try.prog 20 #[.pointer (some ⟨B, 0, none⟩), .bool true, .agg #[.int .i64 v, .bool true]] w fun e w' => e = .returned (.tuple #[]) ∧ Ct w' B (CK.judge ⟨D, L, true, (s + 1), g, v, true, p, q⟩ true) ∧ Only B w w' := by
  have H := Lib.hid h
  obtain ⟨h0, h1, h2, h3, h4, h5, h6, h7, h8, h9, h10⟩ := h.cells
  clear h
  simp only [] at h0 h1 h2 h3 h4 h5 h6 h7 h8
  have HC := Lib.hid (pair (P := fun W => Ct W B ⟨D, L, true, (s + 1), g, v, true, p, q⟩) (Q := fun W => Only B w W) ((((H.out.setS (s + 1)).setV v).setF true).alloc (.cells #[.int .i64 v, .bool true] 35)) (only5 B w _ _ _ _ _ _ _))
  cases hv : (v == 1)
  · by_cases hd : (s + 1) < D
    · have HJ := Lib.hid (judge_fresh1 ⟨D, L, true, (s + 1), g, v, true, p, q⟩ true rfl (by show (_ || decide ((s + 1) < D)) = true; rw [decide_eq_true hd]; simp))
      have KC := Lib.hid fun (W : World) (hW : Ct W B ⟨D, L, true, (s + 1), g, v, true, p, q⟩) => closedC B ⟨D, L, true, (s + 1), g, v, true, p, q⟩ W hW
      rw [show CK.cl ⟨D, L, true, (s + 1), g, v, true, p, q⟩ = false from (show (true && v == 1) = _ by rw [hv]; rfl)] at KC
      go_enter Try.func20, Try.ntmps20
      go_wp2
      generalize World.alloc _ _ = W at HC ⊢
      clear h0 h1 h2 h3 h4 h5 h6 h7 h8 h9
      have HO := Lib.hid HC.out.2
      have HC := Lib.hid (show Ct W B ⟨D, L, true, (s + 1), g, v, true, p, q⟩ from HC.out.1)
      obtain ⟨g0, g1, g2, g3, g4, g5, g6, g7, g8, g9, g10⟩ := HC.out.cells
      simp only [] at g0 g1 g2 g3 g4 g5 g6 g7 g8
      go_quiet ((go_at_call 26; exact Calls.quiet_of_same (KC.out _ (HC.out.drewN _))))
      go_wp2
      go_returns
      refine ⟨rfl, ?_, HO.out.trans ((Only.drewN _ _ _).trans (Only.set _ _ _ _))⟩
      rw [HJ.out]
      exact (HC.out.drewN _).setG 0
    · have hj : (CK.cl ⟨D, L, true, (s + 1), g, v, true, p, q⟩ == true || decide ((s + 1) < D)) = false := by show (((true && v == 1) == true) || decide ((s + 1) < D)) = false; rw [hv, decide_eq_false hd]; rfl
      by_cases hl : L ≤ g + 1
      · have HJ := Lib.hid (judge_fresh2 ⟨D, L, true, (s + 1), g, v, true, p, q⟩ true rfl hj hl)
        clear hj
        have KC := Lib.hid fun (W : World) (hW : Ct W B ⟨D, L, true, (s + 1), g, v, true, p, q⟩) => closedC B ⟨D, L, true, (s + 1), g, v, true, p, q⟩ W hW
        rw [show CK.cl ⟨D, L, true, (s + 1), g, v, true, p, q⟩ = false from (show (true && v == 1) = _ by rw [hv]; rfl)] at KC
        go_enter Try.func20, Try.ntmps20
        go_wp2
        generalize World.alloc _ _ = W at HC ⊢
        clear h0 h1 h2 h3 h4 h5 h6 h7 h8 h9
        have HO := Lib.hid HC.out.2
        have HC := Lib.hid (show Ct W B ⟨D, L, true, (s + 1), g, v, true, p, q⟩ from HC.out.1)
        obtain ⟨g0, g1, g2, g3, g4, g5, g6, g7, g8, g9, g10⟩ := HC.out.cells
        simp only [] at g0 g1 g2 g3 g4 g5 g6 g7 g8
        go_quiet ((go_at_call 26; exact Calls.quiet_of_same (KC.out _ (HC.out.drewN _))))
        go_wp2
        go_quiet (fail)
        go_wp2_with fail
        refine (setC' B ⟨D, L, true, (s + 1), g + 1, v, true, p, q⟩ true false _ (((HC.out.drewN _).setG (g + 1)).drewN _)).mono ?_
        rintro e w1 ⟨rfl, H1, hb⟩
        have HX := Lib.hid H1
        have HY := Lib.hid hb
        clear H1 hb
        go_wp2_with fail
        go_returns
        refine ⟨rfl, ?_, HO.out.trans (((Only.drewN _ _ _).trans ((Only.set _ _ _ _).trans (Only.drewN _ _ _))).trans HY.out)⟩
        rw [HJ.out]
        exact HX.out
      · have HJ := Lib.hid (judge_fresh3 ⟨D, L, true, (s + 1), g, v, true, p, q⟩ true rfl hj hl)
        clear hj
        have KC := Lib.hid fun (W : World) (hW : Ct W B ⟨D, L, true, (s + 1), g, v, true, p, q⟩) => closedC B ⟨D, L, true, (s + 1), g, v, true, p, q⟩ W hW
        rw [show CK.cl ⟨D, L, true, (s + 1), g, v, true, p, q⟩ = false from (show (true && v == 1) = _ by rw [hv]; rfl)] at KC
        go_enter Try.func20, Try.ntmps20
        go_wp2
        generalize World.alloc _ _ = W at HC ⊢
        clear h0 h1 h2 h3 h4 h5 h6 h7 h8 h9
        have HO := Lib.hid HC.out.2
        have HC := Lib.hid (show Ct W B ⟨D, L, true, (s + 1), g, v, true, p, q⟩ from HC.out.1)
        obtain ⟨g0, g1, g2, g3, g4, g5, g6, g7, g8, g9, g10⟩ := HC.out.cells
        simp only [] at g0 g1 g2 g3 g4 g5 g6 g7 g8
        go_quiet ((go_at_call 26; exact Calls.quiet_of_same (KC.out _ (HC.out.drewN _))))
        go_wp2
        go_quiet (fail)
        go_wp2_with fail
        go_returns
        refine ⟨rfl, ?_, HO.out.trans ((Only.drewN _ _ _).trans ((Only.set _ _ _ _).trans (Only.drewN _ _ _)))⟩
        rw [HJ.out]
        exact (((HC.out.drewN _).setG (g + 1)).drewN _)
  · have HJ := Lib.hid (judge_fresh1 ⟨D, L, true, (s + 1), g, v, true, p, q⟩ true rfl (by show (((true && v == 1) == true) || _) = true; rw [hv]; rfl))
    have KC := Lib.hid fun (W : World) (hW : Ct W B ⟨D, L, true, (s + 1), g, v, true, p, q⟩) => closedC B ⟨D, L, true, (s + 1), g, v, true, p, q⟩ W hW
    rw [show CK.cl ⟨D, L, true, (s + 1), g, v, true, p, q⟩ = true from (show (true && v == 1) = _ by rw [hv]; rfl)] at KC
    go_enter Try.func20, Try.ntmps20
    go_wp2
    generalize World.alloc _ _ = W at HC ⊢
    clear h0 h1 h2 h3 h4 h5 h6 h7 h8 h9
    have HO := Lib.hid HC.out.2
    have HC := Lib.hid (show Ct W B ⟨D, L, true, (s + 1), g, v, true, p, q⟩ from HC.out.1)
    obtain ⟨g0, g1, g2, g3, g4, g5, g6, g7, g8, g9, g10⟩ := HC.out.cells
    simp only [] at g0 g1 g2 g3 g4 g5 g6 g7 g8
    go_quiet ((go_at_call 26; exact Calls.quiet_of_same (KC.out _ (HC.out.drewN _))))
    go_wp2
    go_returns
    refine ⟨rfl, ?_, HO.out.trans ((Only.drewN _ _ _).trans (Only.set _ _ _ _))⟩
    rw [HJ.out]
    exact (HC.out.drewN _).setG 0
set_option maxRecDepth 100000 in
set_option maxHeartbeats 4000000 in
theorem step1111 (B : Nat) (D L s g v0 v : Int) (f0 p q : Bool) (hs : -2 ≤ s) (hs2 : s = 1000) (hg : 0 ≤ g) (hg2 : g ≤ 1000000) (w : World) (h : Ct w B ⟨D, L, true, s, g, v0, f0, p, q⟩) :
    Calls Try.prog 20 #[.pointer (some ⟨B, 0, none⟩), .bool true, .agg #[.int .i64 v, .bool true]] w fun e w' => e = .returned (.tuple #[]) ∧ Ct w' B (CK.judge ⟨D, L, true, 1000, g, v, true, p, q⟩ true) ∧ Only B w w' := by
  have H := Lib.hid h
  obtain ⟨h0, h1, h2, h3, h4, h5, h6, h7, h8, h9, h10⟩ := h.cells
  clear h
  simp only [] at h0 h1 h2 h3 h4 h5 h6 h7 h8
  subst hs2
  have HC := Lib.hid (pair (P := fun W => Ct W B ⟨D, L, true, 1000, g, v, true, p, q⟩) (Q := fun W => Only B w W) ((((H.out.setS 1000).setV v).setF true).alloc (.cells #[.int .i64 v, .bool true] 35)) (only5 B w _ _ _ _ _ _ _))
  cases hv : (v == 1)
  · by_cases hd : 1000 < D
    · have HJ := Lib.hid (judge_fresh1 ⟨D, L, true, 1000, g, v, true, p, q⟩ true rfl (by show (_ || decide (1000 < D)) = true; rw [decide_eq_true hd]; simp))
      have KC := Lib.hid fun (W : World) (hW : Ct W B ⟨D, L, true, 1000, g, v, true, p, q⟩) => closedC B ⟨D, L, true, 1000, g, v, true, p, q⟩ W hW
      rw [show CK.cl ⟨D, L, true, 1000, g, v, true, p, q⟩ = false from (show (true && v == 1) = _ by rw [hv]; rfl)] at KC
      go_enter Try.func20, Try.ntmps20
      go_wp2
      generalize World.alloc _ _ = W at HC ⊢
      clear h0 h1 h2 h3 h4 h5 h6 h7 h8 h9
      have HO := Lib.hid HC.out.2
      have HC := Lib.hid (show Ct W B ⟨D, L, true, 1000, g, v, true, p, q⟩ from HC.out.1)
      obtain ⟨g0, g1, g2, g3, g4, g5, g6, g7, g8, g9, g10⟩ := HC.out.cells
      simp only [] at g0 g1 g2 g3 g4 g5 g6 g7 g8
      go_quiet ((go_at_call 26; exact Calls.quiet_of_same (KC.out _ (HC.out.drewN _))))
      go_wp2
      go_returns
      refine ⟨rfl, ?_, HO.out.trans ((Only.drewN _ _ _).trans (Only.set _ _ _ _))⟩
      rw [HJ.out]
      exact (HC.out.drewN _).setG 0
    · have hj : (CK.cl ⟨D, L, true, 1000, g, v, true, p, q⟩ == true || decide (1000 < D)) = false := by show (((true && v == 1) == true) || decide (1000 < D)) = false; rw [hv, decide_eq_false hd]; rfl
      by_cases hl : L ≤ g + 1
      · have HJ := Lib.hid (judge_fresh2 ⟨D, L, true, 1000, g, v, true, p, q⟩ true rfl hj hl)
        clear hj
        have KC := Lib.hid fun (W : World) (hW : Ct W B ⟨D, L, true, 1000, g, v, true, p, q⟩) => closedC B ⟨D, L, true, 1000, g, v, true, p, q⟩ W hW
        rw [show CK.cl ⟨D, L, true, 1000, g, v, true, p, q⟩ = false from (show (true && v == 1) = _ by rw [hv]; rfl)] at KC
        go_enter Try.func20, Try.ntmps20
        go_wp2
        generalize World.alloc _ _ = W at HC ⊢
        clear h0 h1 h2 h3 h4 h5 h6 h7 h8 h9
        have HO := Lib.hid HC.out.2
        have HC := Lib.hid (show Ct W B ⟨D, L, true, 1000, g, v, true, p, q⟩ from HC.out.1)
        obtain ⟨g0, g1, g2, g3, g4, g5, g6, g7, g8, g9, g10⟩ := HC.out.cells
        simp only [] at g0 g1 g2 g3 g4 g5 g6 g7 g8
        go_quiet ((go_at_call 26; exact Calls.quiet_of_same (KC.out _ (HC.out.drewN _))))
        go_wp2
        go_quiet (fail)
        go_wp2_with fail
        refine (setC' B ⟨D, L, true, 1000, g + 1, v, true, p, q⟩ true false _ (((HC.out.drewN _).setG (g + 1)).drewN _)).mono ?_
        rintro e w1 ⟨rfl, H1, hb⟩
        have HX := Lib.hid H1
        have HY := Lib.hid hb
        clear H1 hb
        go_wp2_with fail
        go_returns
        refine ⟨rfl, ?_, HO.out.trans (((Only.drewN _ _ _).trans ((Only.set _ _ _ _).trans (Only.drewN _ _ _))).trans HY.out)⟩
        rw [HJ.out]
        exact HX.out
      · have HJ := Lib.hid (judge_fresh3 ⟨D, L, true, 1000, g, v, true, p, q⟩ true rfl hj hl)
        clear hj
        have KC := Lib.hid fun (W : World) (hW : Ct W B ⟨D, L, true, 1000, g, v, true, p, q⟩) => closedC B ⟨D, L, true, 1000, g, v, true, p, q⟩ W hW
        rw [show CK.cl ⟨D, L, true, 1000, g, v, true, p, q⟩ = false from (show (true && v == 1) = _ by rw [hv]; rfl)] at KC
        go_enter Try.func20, Try.ntmps20
        go_wp2
        generalize World.alloc _ _ = W at HC ⊢
        clear h0 h1 h2 h3 h4 h5 h6 h7 h8 h9
        have HO := Lib.hid HC.out.2
        have HC := Lib.hid (show Ct W B ⟨D, L, true, 1000, g, v, true, p, q⟩ from HC.out.1)
        obtain ⟨g0, g1, g2, g3, g4, g5, g6, g7, g8, g9, g10⟩ := HC.out.cells
        simp only [] at g0 g1 g2 g3 g4 g5 g6 g7 g8
        go_quiet ((go_at_call 26; exact Calls.quiet_of_same (KC.out _ (HC.out.drewN _))))
        go_wp2
        go_quiet (fail)
        go_wp2_with fail
        go_returns
        refine ⟨rfl, ?_, HO.out.trans ((Only.drewN _ _ _).trans ((Only.set _ _ _ _).trans (Only.drewN _ _ _)))⟩
        rw [HJ.out]
        exact (((HC.out.drewN _).setG (g + 1)).drewN _)
  · have HJ := Lib.hid (judge_fresh1 ⟨D, L, true, 1000, g, v, true, p, q⟩ true rfl (by show (((true && v == 1) == true) || _) = true; rw [hv]; rfl))
    have KC := Lib.hid fun (W : World) (hW : Ct W B ⟨D, L, true, 1000, g, v, true, p, q⟩) => closedC B ⟨D, L, true, 1000, g, v, true, p, q⟩ W hW
    rw [show CK.cl ⟨D, L, true, 1000, g, v, true, p, q⟩ = true from (show (true && v == 1) = _ by rw [hv]; rfl)] at KC
    go_enter Try.func20, Try.ntmps20
    go_wp2
    generalize World.alloc _ _ = W at HC ⊢
    clear h0 h1 h2 h3 h4 h5 h6 h7 h8 h9
    have HO := Lib.hid HC.out.2
    have HC := Lib.hid (show Ct W B ⟨D, L, true, 1000, g, v, true, p, q⟩ from HC.out.1)
    obtain ⟨g0, g1, g2, g3, g4, g5, g6, g7, g8, g9, g10⟩ := HC.out.cells
    simp only [] at g0 g1 g2 g3 g4 g5 g6 g7 g8
    go_quiet ((go_at_call 26; exact Calls.quiet_of_same (KC.out _ (HC.out.drewN _))))
    go_wp2
    go_returns
    refine ⟨rfl, ?_, HO.out.trans ((Only.drewN _ _ _).trans (Only.set _ _ _ _))⟩
    rw [HJ.out]
    exact (HC.out.drewN _).setG 0
end Go.Proofs.Ytakdoagigbjngaa
