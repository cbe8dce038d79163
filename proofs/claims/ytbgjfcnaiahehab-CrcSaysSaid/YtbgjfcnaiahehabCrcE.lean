/- CrcEnds holds: each call returns true. Conditions: the arguments are numbers of their kinds and a slice of bytes. -/
import Derived.Test.YtbgjfcnaiahehabCrcL
import Derived.Test.YtbgjfcnaiahehabCrcR
namespace Go.Proofs.Ytbgjfcnaiahehab
open Go.RowKit
set_option linter.unusedVariables false
theorem makeC (n : Nat) (hn : n ≤ 1000) (w : World) : (Instr.makeSlice 23 (.int .i64 (n : Int)) (.int .i64 (n : Int))).run Try.prog w = .ok (.slice (some ⟨w.heap.size, 0, none⟩) n n) (w.alloc (.cells (madeCells #[.int .u8 0] n) 5)) := by
  obtain ⟨i, hi, hz, hs, hb⟩ : ∃ i, Try.prog.info? 5 = some i ∧ i.zero = some (.int .u8 0) ∧ i.size = 1 ∧ i.bytes = 1 := by
    have hm : (Try.prog.info? 5).map (fun i => (i.zero, i.size, i.bytes)) = some (some (.int .u8 0), 1, 1) := by kernel_rfl
    cases h : Try.prog.info? 5 with
    | none => rw [h] at hm; cases hm
    | some i =>
      rw [h] at hm
      simp only [Option.map_some, Option.some.injEq, Prod.mk.injEq] at hm
      exact ⟨i, rfl, hm.1, hm.2.1, hm.2.2⟩
  have := run_makeSlice (P := Try.prog) (w := w) 23 5 i _ Try.underlying23 hi hz .i64 .i64 (n : Int) (n : Int) (by omega) (Int.le_refl _) (by rw [hs]; omega) (by rw [hb]; omega) (by omega)
  rw [hs] at this
  simp only [Int.toNat_natCast, Nat.mul_one] at this
  exact this
theorem crcB_hi (t : BitVec 16) : crcB t (hi8 t) = t <<< 8 := by
  rw [crc_row, BitVec.xor_self, show crcB 0 (0#8) = 0 by decide]
  simp
theorem hi_up (t : BitVec 16) : hi8 (t <<< 8) = lo8 t := by
  unfold hi8 lo8
  ext i hi
  simp
  intro _
  omega
theorem ends_zero (t : BitVec 16) : crcB (crcB t (hi8 t)) (lo8 t) = 0 := by
  rw [crcB_hi, crc_row, hi_up, BitVec.xor_self, show crcB 0 (0#8) = 0 by decide]
  ext i hi
  simp
theorem zeros_zero (m : Nat) : crcN z16 (fun _ => 0) m = z16 := by
  induction m with
  | zero => rfl
  | succ m ih => show crcB (crcN z16 (fun _ => 0) m) 0 = z16; rw [ih]; decide
/-- A stream with its own sum behind it. -/
def sealed (X : Nat → BitVec 8) (n : Nat) (t : BitVec 16) (j : Nat) : BitVec 8 := if j < n then X j else if j = n then hi8 t else lo8 t
theorem sealed_zero (s : BitVec 16) (X : Nat → BitVec 8) (n : Nat) : crcN s (sealed X n (crcN s X n)) (n + 2) = 0 := by
  show crcB (crcB (crcN s (sealed X n (crcN s X n)) n) (sealed X n (crcN s X n) n)) (sealed X n (crcN s X n) (n + 1)) = 0
  rw [crcN_congr s (sealed X n (crcN s X n)) X n (fun i hi => by unfold sealed; rw [if_pos hi])]
  rw [show sealed X n (crcN s X n) n = hi8 (crcN s X n) by unfold sealed; rw [if_neg (by omega), if_pos rfl]]
  rw [show sealed X n (crcN s X n) (n + 1) = lo8 (crcN s X n) by unfold sealed; rw [if_neg (by omega), if_neg (by omega)]]
  exact ends_zero _
theorem row_at (w : World) (arr : Array Value) (e : TypeId) (n : Nat) (Z : Nat → BitVec 8) (h : ∀ j, j < n → arr[j]? = some (.int .u8 (u8v (Z j)))) (C : Nat) (hC : w.heap.size = C) : Row8 (w.alloc (.cells arr e)) (some ⟨C, 0, none⟩) n Z := by
  subst hC
  intro i hi
  refine ⟨_, rfl, ?_⟩
  have e1 : (⟨w.heap.size, 0, none⟩ : Addr).add i = ⟨w.heap.size, i, none⟩ := by simp [Addr.add]; exact fun h => h.symm
  have e2 : (w.alloc (.cells arr e)).heap[w.heap.size]? = some (.cells arr e (0, 0)) := by show (w.heap.push _)[w.heap.size]? = _; simp
  rw [e1]
  unfold World.cell?
  simp only [e2]
  exact h i hi
theorem size_al (w : World) (o : Obj) : (w.alloc o).heap.size = w.heap.size + 1 := by show (w.heap.push _).size = _; simp
theorem own_at (n : Nat) (X : Nat → BitVec 8) (zs : Array Value) (j : Nat) (hj : j < n) : (((List.range n).map fun i => Value.int .u8 (u8v (X i))).toArray ++ zs)[j]? = some (.int .u8 (u8v (X j))) := by
  rw [Array.getElem?_append_left (by simpa using hj)]
  simp [hj]
theorem sealed_at (n : Nat) (X : Nat → BitVec 8) (t : BitVec 16) (zs : Array Value) (j : Nat) (hj : j < n + 2) :
    (((List.range n).map fun i => Value.int .u8 (u8v (X i))).toArray ++ (#[Value.int .u8 (u8v (hi8 t)), .int .u8 (u8v (lo8 t))] ++ zs))[j]? = some (.int .u8 (u8v (sealed X n t j))) := by
  unfold sealed
  by_cases h1 : j < n
  · rw [if_pos h1, Array.getElem?_append_left (by simpa using h1)]
    simp [h1]
  · rw [if_neg h1, Array.getElem?_append_right (by simp; omega)]
    by_cases h2 : j = n
    · subst h2
      rw [if_pos rfl, Array.getElem?_append_left (by simp)]
      simp
    · obtain rfl : j = n + 1 := by omega
      rw [if_neg h2, Array.getElem?_append_left (by simp)]
      simp
theorem zc_size (n : Nat) : (Builtin.zeroCells #[.int .u8 0] n).size = n := by unfold Builtin.zeroCells; simp
theorem zc_at (n j : Nat) (h : j < n) : (Builtin.zeroCells #[.int .u8 0] n)[j]? = some (.int .u8 0) := by
  unfold Builtin.zeroCells
  rw [Array.getElem?_map, Array.getElem?_range, if_pos (by simpa using h)]
  simp [Nat.mod_one]
theorem room1 (n : Nat) (X : Nat → BitVec 8) (K : Nat) (h : n + 2 ≤ K) :
    (((List.range n).map fun i => Value.int .u8 (u8v (X i))).toArray ++ Builtin.zeroCells #[.int .u8 0] (K - n))[n]? = some (.int .u8 0) := by
  rw [Array.getElem?_append_right (by simp)]
  simpa using zc_at (K - n) 0 (by omega)
theorem room2 (n : Nat) (X : Nat → BitVec 8) (K : Nat) (h : n + 2 ≤ K) (v : Value) :
    (((List.range n).map fun i => Value.int .u8 (u8v (X i))).toArray ++ (Builtin.zeroCells #[.int .u8 0] (K - n)).setIfInBounds 0 v)[n + 1]? = some (.int .u8 0) := by
  rw [Array.getElem?_append_right (by simp)]
  rw [show n + 1 - (((List.range n).map fun i => Value.int .u8 (u8v (X i))).toArray).size = 1 by simp, Array.getElem?_setIfInBounds_ne (by omega)]
  exact zc_at (K - n) 1 (by omega)
theorem sealed_at2 (n : Nat) (X : Nat → BitVec 8) (t : BitVec 16) (K : Nat) (h : n + 2 ≤ K) (j : Nat) (hj : j < n + 2) :
    (((List.range n).map fun i => Value.int .u8 (u8v (X i))).toArray ++ (((Builtin.zeroCells #[.int .u8 0] (K - n)).setIfInBounds 0 (.int .u8 (u8v (hi8 t)))).setIfInBounds 1 (.int .u8 (u8v (lo8 t)))))[j]? = some (.int .u8 (u8v (sealed X n t j))) := by
  unfold sealed
  have hz := zc_size (K - n)
  generalize Builtin.zeroCells #[.int .u8 0] (K - n) = Z at hz
  by_cases h1 : j < n
  · rw [if_pos h1, Array.getElem?_append_left (by simpa using h1)]
    simp [h1]
  · rw [if_neg h1, Array.getElem?_append_right (by simp; omega)]
    by_cases h2 : j = n
    · subst h2
      rw [if_pos rfl, show j - (((List.range j).map fun i => Value.int .u8 (u8v (X i))).toArray).size = 0 by simp, Array.getElem?_setIfInBounds_ne (by omega), Array.getElem?_setIfInBounds_self_of_lt (by omega)]
    · obtain rfl : j = n + 1 := by omega
      rw [if_neg h2, show n + 1 - (((List.range n).map fun i => Value.int .u8 (u8v (X i))).toArray).size = 1 by simp, Array.getElem?_setIfInBounds_self_of_lt (by simp; omega)]
set_option maxRecDepth 100000 in
set_option maxHeartbeats 8000000 in
theorem walkCrcEnds (a0 : Int) (a1 : Option Addr) (len1 cap1 : Nat) (z1 : List Int) (a2 : Int) (w : World) (w0 : (Lit.int .u16 a0).wf = true) (w1 : CameI .u8 w a1 len1 cap1 z1) (_w2 : (Lit.int .i64 a2).wf = true) :
    Calls Try.prog 5 #[.int .u16 a0, .slice a1 len1 cap1, .int .i64 a2] w fun e w' => e = .returned (.bool true) ∧ Below w.heap.size w w' := by
  obtain ⟨s, rfl⟩ : ∃ s, a0 = u16v s := ⟨_, (u16_back _ w0).symm⟩
  have HX := Lib.hid (Row8.of_came w1)
  generalize (fun i => BitVec.ofInt 8 (z1.getD i 0)) = X at HX
  clear w0 _w2
  by_cases h3 : 100 < len1
  · go_enter Try.func5, Try.ntmps5
    go_wp2_with fail
    refine (first5 _).mono ?_
    rintro e w' ⟨rfl, rfl⟩
    go_wp2_with fail
    go_ret
    exact ⟨rfl, Below.refl _ _⟩
  have hi1 := Int.emod_nonneg a2 (show (30 : Int) ≠ 0 by omega)
  have hi2 := Int.emod_lt_of_pos a2 (show (0 : Int) < 30 by omega)
  have N0 := Lib.hid fun (w : World) => numberB a2 30 (by omega) (by omega) w
  generalize a2 % 30 = m0 at *
  obtain ⟨m, rfl⟩ := Int.eq_ofNat_of_zero_le hi1
  have hm : m < 30 := by omega
  clear hi1 hi2
  have ix := makeC m (by omega) w
  have OW := Lib.hid (own_made w m 5 (fun _ => 0) (fun j _ => rfl))
  have TB := Lib.hid ((Below.refl w.heap.size w).alloc (Nat.le_refl _) (.cells (madeCells #[.int .u8 0] m) 5))
  generalize w.alloc (.cells (madeCells #[.int .u8 0] m) 5) = W0 at ix OW TB
  have K1 := Lib.hid (moreC s a1 len1 cap1 X (by omega) w HX.out)
  have SZ := Lib.hid (sealed_zero s X len1)
  generalize crcN s X len1 = t at K1 SZ
  have e1 := u16_hi t
  have e2 := u16_lo t
  have BA : ∀ {w' : World} (o : Obj), Below w.heap.size w w' → Below w.heap.size w (w'.alloc o) := fun o h => h.alloc h.size o
  by_cases hz : len1 = 0
  · subst hz
    have hp : ∀ w : World, (pure (#[] : Array Value) : Sem (Array Value)).run Try.prog w = .ok #[] w := fun _ => rfl
    have hs : ∀ (w : World) (a : Addr), (storeCells a []).run Try.prog w = .ok () w := fun _ _ => rfl
    have hl : ∀ (w : World) (a : Addr), (loadCellsFrom a 0 0 #[]).run Try.prog w = .ok #[] w := fun _ _ => rfl
    have R := Lib.hid (fun (K j : Nat) (hj : j < 2) => (by
      have := sealed_at 0 X t (Builtin.zeroCells #[.int .u8 0] K) j hj
      rw [show ((List.range 0).map fun i => Value.int .u8 (u8v (X i))).toArray = #[] from rfl, Array.empty_append] at this
      exact this : (#[Value.int .u8 (u8v (hi8 t)), .int .u8 (u8v (lo8 t))] ++ Builtin.zeroCells #[.int .u8 0] K)[j]? = some (.int .u8 (u8v (sealed X 0 t j)))))
    rcases a1 with _ | p
    all_goals
      have fz : ¬ (281474976710656 < Builtin.nextslicecap 2 0 * Try.t5.bytes) := by decide
      go_enter Try.func5, Try.ntmps5
      go_wp2_with fail
      refine (first5 _).mono ?_
      rintro e w' ⟨rfl, rfl⟩
      go_wp2_with fail
      refine K1.out.mono ?_
      rintro e w' ⟨rfl, rfl⟩
      go_wp2_with fail
      refine (N0.out _).mono ?_
      rintro e w' ⟨rfl, rfl⟩
      go_wp2_with fail
      refine (moreC s _ 2 _ (sealed X 0 t) (by omega) _ ?_).mono ?_
      · exact (row_at _ _ _ 2 (sealed X 0 t) (R.out _) _ (by simp))
      rintro e w' ⟨rfl, rfl⟩
      rw [show crcN s (sealed X 0 t) 2 = 0 from SZ.out]
      have z0 : u16v 0 = 0 := rfl
      have z1 : u16v z16 = 0 := rfl
      go_wp2_with fail
      refine (moreC z16 _ m _ (fun _ => 0) (by omega) _ ?_).mono ?_
      · exact OW.out.row.below (by go_grown)
      rintro e w' ⟨rfl, rfl⟩
      rw [zeros_zero]
      go_wp2_with fail
      go_ret
      refine ⟨rfl, ?_⟩
      repeat' first | exact TB.out | apply Below.drew | apply BA
  obtain ⟨p, rfl⟩ : ∃ p, a1 = some p := by
    rcases w1 with ⟨_, rfl, _⟩ | ⟨p, rfl, _⟩
    · exact absurd rfl hz
    · exact ⟨p, rfl⟩
  clear w1
  have fz : ¬ (281474976710656 < Builtin.nextslicecap len1 0 * Try.t5.bytes) := by
    rw [show Try.t5.bytes = 1 by kernel_rfl]
    unfold Builtin.nextslicecap
    rw [if_pos (by omega)]
    omega
  have W1 := Lib.hid ((TB.out.alloc TB.out.size (.cells #[] 5)).drew)
  have ld : (loadCellsFrom p 0 len1 #[]).run Try.prog (W0.alloc (.cells #[] 5)).drew = .ok ((List.range len1).map fun i => Value.int .u8 (u8v (X i))).toArray (W0.alloc (.cells #[] 5)).drew := by
    have := run_loadCells (P := Try.prog) (W0.alloc (.cells #[] 5)).drew p len1 (fun i => Value.int .u8 (u8v (X i))) (fun j hj => by
      obtain ⟨x, hx, hc⟩ := HX.out j hj
      cases hx
      exact below_cell W1.out hc)
    simpa [loadCells] using this
  by_cases hK : len1 + 2 ≤ (Question.appendCap len1 0 5).cut (W0.tape W0.drawn (Question.appendCap len1 0 5))
  · have r1 := room1 len1 X _ hK
    have r2 := room2 len1 X _ hK (.int .u8 (u8v (hi8 t)))
    go_enter Try.func5, Try.ntmps5
    go_wp2_with fail
    refine (first5 _).mono ?_
    rintro e w' ⟨rfl, rfl⟩
    go_wp2_with fail
    refine K1.out.mono ?_
    rintro e w' ⟨rfl, rfl⟩
    go_wp2_with fail
    refine (N0.out _).mono ?_
    rintro e w' ⟨rfl, rfl⟩
    go_wp2_with fail
    refine (moreC s _ (len1 + 2) _ (sealed X len1 t) (by omega) _ ?_).mono ?_
    · exact (row_at _ _ _ (len1 + 2) (sealed X len1 t) (sealed_at2 len1 X t _ hK) _ (size_al _ _)).below (by go_grown)
    rintro e w' ⟨rfl, rfl⟩
    rw [SZ.out]
    have z0 : u16v 0 = 0 := rfl
    have z1 : u16v z16 = 0 := rfl
    go_wp2_with fail
    refine (moreC z16 _ m _ (fun _ => 0) (by omega) _ ?_).mono ?_
    · exact OW.out.row.below (by go_grown)
    rintro e w' ⟨rfl, rfl⟩
    rw [zeros_zero]
    go_wp2_with fail
    go_ret
    refine ⟨rfl, ?_⟩
    repeat' first | exact TB.out | apply Below.drew | apply BA
  · have ld2 : (loadCellsFrom ⟨W0.heap.size + 1, 0, none⟩ 0 len1 #[]).run Try.prog (((W0.alloc (.cells #[] 5)).alloc (.cells (((List.range len1).map fun i => Value.int .u8 (u8v (X i))).toArray ++ Builtin.zeroCells #[.int .u8 0] ((Question.appendCap len1 0 5).cut (W0.tape W0.drawn (Question.appendCap len1 0 5)) - len1)) 5)).alloc (.cells #[.int .u8 (u8v (hi8 t)), .int .u8 (u8v (lo8 t))] 5)).drew.drew = .ok ((List.range len1).map fun i => Value.int .u8 (u8v (X i))).toArray (((W0.alloc (.cells #[] 5)).alloc (.cells (((List.range len1).map fun i => Value.int .u8 (u8v (X i))).toArray ++ Builtin.zeroCells #[.int .u8 0] ((Question.appendCap len1 0 5).cut (W0.tape W0.drawn (Question.appendCap len1 0 5)) - len1)) 5)).alloc (.cells #[.int .u8 (u8v (hi8 t)), .int .u8 (u8v (lo8 t))] 5)).drew.drew := by
      have R := row_at (W0.alloc (.cells #[] 5)) _ 5 len1 X (own_at len1 X (Builtin.zeroCells #[.int .u8 0] ((Question.appendCap len1 0 5).cut (W0.tape W0.drawn (Question.appendCap len1 0 5)) - len1))) (W0.heap.size + 1) (size_al _ _)
      have R2 := R.below (((Below.refl _ _).alloc (Nat.le_refl _) (.cells #[.int .u8 (u8v (hi8 t)), .int .u8 (u8v (lo8 t))] 5)).drew.drew)
      have := run_loadCells (P := Try.prog) _ ⟨W0.heap.size + 1, 0, none⟩ len1 (fun i => Value.int .u8 (u8v (X i))) (fun j hj => by
        obtain ⟨x, hx, hc⟩ := R2 j hj
        cases hx
        exact hc)
      simpa [loadCells] using this
    have fz2 : ¬ (281474976710656 < Builtin.nextslicecap (len1 + 2) ((Question.appendCap len1 0 5).cut (W0.tape W0.drawn (Question.appendCap len1 0 5))) * Try.t5.bytes) := by
      rw [show Try.t5.bytes = 1 by kernel_rfl]
      unfold Builtin.nextslicecap
      repeat' split
      all_goals omega
    go_enter Try.func5, Try.ntmps5
    go_wp2_with fail
    refine (first5 _).mono ?_
    rintro e w' ⟨rfl, rfl⟩
    go_wp2_with fail
    refine K1.out.mono ?_
    rintro e w' ⟨rfl, rfl⟩
    go_wp2_with fail
    refine (N0.out _).mono ?_
    rintro e w' ⟨rfl, rfl⟩
    go_wp2_with fail
    refine (moreC s _ (len1 + 2) _ (sealed X len1 t) (by omega) _ ?_).mono ?_
    · exact (row_at _ _ _ (len1 + 2) (sealed X len1 t) (sealed_at len1 X t _) _ (by simp))
    rintro e w' ⟨rfl, rfl⟩
    rw [SZ.out]
    have z0 : u16v 0 = 0 := rfl
    have z1 : u16v z16 = 0 := rfl
    go_wp2_with fail
    refine (moreC z16 _ m _ (fun _ => 0) (by omega) _ ?_).mono ?_
    · exact OW.out.row.below (by go_grown)
    rintro e w' ⟨rfl, rfl⟩
    rw [zeros_zero]
    go_wp2_with fail
    go_ret
    refine ⟨rfl, ?_⟩
    repeat' first | exact TB.out | apply Below.drew | apply BA
end Go.Proofs.Ytbgjfcnaiahehab
