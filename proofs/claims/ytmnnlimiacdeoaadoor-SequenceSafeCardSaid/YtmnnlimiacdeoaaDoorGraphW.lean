/- SequenceSafe holds: each call returns true. Conditions: the arguments are numbers of 64 bits and slices of them; the table of ends lies in memory as the program's text lays it. -/
import Derived.Test.YtmnnlimiacdeoaaDoorGraphQ
namespace Go.Proofs.YtmnnlimiacdeoaaDoor
open Go.RowKit
/-- A slice of numbers that came in. -/
def Came (w : World) (a : Option Addr) (len cap : Nat) (zs : List Int) : Prop :=
  (a = none ∧ len = 0 ∧ cap = 0 ∧ zs = []) ∨
  ∃ x, a = some x ∧ len ≤ cap ∧ cap ≤ maxLen ∧ zs.length = cap ∧ (∀ i, i < zs.length → w.cell? (x.add i) = some (.int .i64 (zs.getD i 0))) ∧ ∀ n ∈ zs, (Lit.int .i64 n).wf = true
theorem Came.at {w : World} {a : Option Addr} {len cap : Nat} {zs : List Int} (h : Came w a len cap zs) (i : Nat) (hi : i < len) :
    ∃ x, a = some x ∧ w.cell? (x.add i) = some (.int .i64 (zs.getD i 0)) := by
  rcases h with ⟨_, rfl, _⟩ | ⟨x, rfl, h1, _, h3, h4, _⟩
  · omega
  · exact ⟨x, rfl, h4 i (by omega)⟩
theorem Came.small {w : World} {a : Option Addr} {len cap : Nat} {zs : List Int} (h : Came w a len cap zs) : len ≤ maxLen := by
  rcases h with ⟨_, rfl, _⟩ | ⟨x, rfl, h1, h2, _⟩
  · omega
  · omega
theorem below_cell {w wr : World} {p : Addr} {v : Value} (hb : Below w.heap.size w wr) (h : w.cell? p = some v) : wr.cell? p = some v := by
  have hl := block_lt_of_cell h
  exact (hb.cell (p := p) hl).trans h
theorem nxt_in (t told maybe : BitVec 7) : nxt t told maybe &&& ~~~t = 0 := by
  unfold nxt; split
  · exact and_not t
  · ext i; simp
theorem safe_next (t told maybe : BitVec 7) (hj : jnd t = false) : sf told maybe (nxt t told maybe) = true := by
  unfold sf nxt; split
  · rename_i h
    have : t ||| maybe = t := by
      have h2 : maybe &&& ~~~t = 0 := by
        ext i hi
        have := congrArg (fun z => z[i]) h
        simp at this ⊢
        intro hm; exact this (Or.inr hm)
      rw [BitVec.or_comm]; exact sub_or maybe t h2
    rw [this, hj]; simp
  · rw [show told &&& t &&& ~~~told = 0 from and_and_not told t]; rfl
theorem next_apart (t told maybe : BitVec 7) (hj : jnd t = false) (hn : ¬ nxt t told maybe &&& ~~~told = 0) : jnd (nxt t told maybe ||| maybe ||| told) = false := by
  unfold nxt at *; split
  · rename_i h
    have h2 : told ||| maybe ||| t = t := sub_or (told ||| maybe) t h
    have : t ||| maybe ||| told = t := by
      rw [BitVec.or_assoc, BitVec.or_comm t, BitVec.or_comm maybe]; exact h2
    rw [this, hj]
  · rename_i h
    rw [if_neg h] at hn
    exact absurd (and_and_not told t) hn
set_option maxRecDepth 100000 in
set_option maxHeartbeats 8000000 in
theorem walkSequenceSafe (a0 : Option Addr) (len0 cap0 : Nat) (z0 : List Int) (a1 : Option Addr) (len1 cap1 : Nat) (z1 : List Int) (a2 : Int) (a3 : Int) (w : World) (w0 : Came w a0 len0 cap0 z0) (w1 : Came w a1 len1 cap1 z1) (_w2 : (Lit.int .i64 a2).wf = true) (_w3 : (Lit.int .i64 a3).wf = true) (hT : Tab w) :
    Calls Tryd.prog 8 #[.slice a0 len0 cap0, .slice a1 len1 cap1, .int .i64 a2, .int .i64 a3] w fun e w' => e = .returned (.bool true) ∧ Below w.heap.size w w' := by
  have HT := Lib.hid hT
  have C0 := Lib.hid fun i hi => w0.at i hi
  have C1 := Lib.hid fun i hi => w1.at i hi
  clear hT _w2 _w3 w0 w1
  have TB0 := Lib.hid (Below.refl w.heap.size w)
  have N0 := Lib.hid fun (w : World) => number7 a3 w
  generalize BitVec.ofInt 7 a3 = mb0 at *
  by_cases h1 : 60 < len0
  · go_enter Tryd.func8, Tryd.ntmps8
    go_wp2_with fail
    refine (first23 _).mono ?_
    rintro e w' ⟨he, rfl⟩
    subst he
    go_wp2_with fail
    go_ret
    exact ⟨rfl, TB0.out⟩
  by_cases h2 : len1 < len0
  · go_enter Tryd.func8, Tryd.ntmps8
    go_wp2_with fail
    refine (first23 _).mono ?_
    rintro e w' ⟨he, rfl⟩
    subst he
    go_wp2_with fail
    go_ret
    exact ⟨rfl, TB0.out⟩
  go_enter Tryd.func8, Tryd.ntmps8
  go_wp2_with fail
  refine (first23 _).mono ?_
  rintro e w' ⟨he, rfl⟩
  subst he
  go_wp2_with fail
  refine (N0.out _).mono ?_
  rintro e w' ⟨he, rfl⟩
  subst he
  go_wp2_with fail
  go_loopw [2, 3, 10] (fun t m v wr => ∃ i : Nat, ∃ told maybe : BitVec 7, i ≤ len0 ∧ v = .int .i64 i ∧ t = .int .i64 (m7 told) ∧ m = .int .i64 (m7 maybe) ∧ Below w.heap.size w wr) (fun _ _ v _ => len0 - (intOf v).toNat)
  case atStart => exact ⟨0, 0, mb0, by omega, rfl, rfl, rfl, TB0.out⟩
  case round =>
    obtain ⟨i, told, maybe, hi, rfl, rfl, rfl, hb⟩ := hrel
    clear TB0
    have TB0 := Lib.hid hb
    clear hb
    by_cases hl : i < len0
    · obtain ⟨x0, rfl, c0⟩ := C0.out i hl
      obtain ⟨x1, rfl, c1⟩ := C1.out i (by omega)
      have c0' := below_cell TB0.out c0
      generalize z0.getD i 0 = y0 at *
      generalize z1.getD i 0 = y1 at *
      have N1 := Lib.hid fun (w : World) => number7 y0 w
      have N2 := Lib.hid fun (w : World) => number7 y1 w
      generalize BitVec.ofInt 7 y0 = t at *
      generalize BitVec.ofInt 7 y1 = lt at *
      have CL := Lib.hid c1
      clear c0 c1
      go_wp2_with fail
      refine (N1.out _).mono ?_
      rintro e w' ⟨he, rfl⟩
      subst he
      have KJ := Lib.hid fun (w : World) (hT : Tab w) => joinedM t w hT
      cases hj : jnd t
      · rw [hj] at KJ
        have S1 := Lib.hid (safe_next t told maybe hj)
        have S2 := Lib.hid (nxt_in t told maybe)
        have S3 := Lib.hid (next_apart t told maybe hj)
        clear hj
        obtain ⟨n, hn⟩ : ∃ n, nxt t told maybe = n := ⟨_, rfl⟩
        rw [hn] at S1 S2 S3
        have HN := Lib.hid hn
        clear hn
        have q1 := m7_andNot n t
        have q2 : (m7 (n &&& ~~~t) != 0) = false := by rw [S2.out]; rfl
        have q3 := m7_andNot n told
        have q4 := m7_or n maybe
        have q5 := m7_or (n ||| maybe) told
        have q6 := m7_and maybe lt
        have q7 := m7_or n (maybe &&& lt)
        by_cases hz : n &&& ~~~told = 0
        · have q8 : (m7 (n &&& ~~~told) != 0) = false := by rw [hz]; rfl
          clear hz
          go_wp2_with fail
          refine (KJ.out _ (HT.out.below TB0.out)).mono ?_
          rintro e w1 ⟨he, hb⟩
          subst he
          have TB1 := Lib.hid (TB0.out.trans (hb.mono TB0.out.size))
          clear hb TB0
          go_wp2_with fail
          refine (nextC t told maybe _).mono ?_
          rintro e w' ⟨he, rfl⟩
          rw [HN.out] at he
          subst he
          go_wp2_with fail
          refine (safeC told maybe n _ (HT.out.below TB1.out)).mono ?_
          rintro e w2 ⟨he, hb⟩
          rw [S1.out] at he
          subst he
          have TB2 := Lib.hid (TB1.out.trans (hb.mono TB1.out.size))
          clear hb TB1
          have c1 := below_cell TB2.out CL.out
          go_wp2_with fail
          refine (N2.out _).mono ?_
          rintro e w' ⟨he, rfl⟩
          subst he
          clear c1
          go_wp2_with fail
          go_roundw
          case rel => exact ⟨i + 1, n, n ||| (maybe &&& lt), by omega, by go_num, rfl, rfl, TB2.out⟩
          case measure => simp [intOf]; omega
        · have q8 : (m7 (n &&& ~~~told) != 0) = true := by rw [m7_some]; simpa using hz
          have S4 := Lib.hid (S3.out hz)
          have KK := Lib.hid fun (w : World) (hT : Tab w) => joinedM (n ||| maybe ||| told) w hT
          rw [S4.out] at KK
          clear hz
          go_wp2_with fail
          refine (KJ.out _ (HT.out.below TB0.out)).mono ?_
          rintro e w1 ⟨he, hb⟩
          subst he
          have TB1 := Lib.hid (TB0.out.trans (hb.mono TB0.out.size))
          clear hb TB0
          go_wp2_with fail
          refine (nextC t told maybe _).mono ?_
          rintro e w' ⟨he, rfl⟩
          rw [HN.out] at he
          subst he
          go_wp2_with fail
          refine (safeC told maybe n _ (HT.out.below TB1.out)).mono ?_
          rintro e w2 ⟨he, hb⟩
          rw [S1.out] at he
          subst he
          have TB2 := Lib.hid (TB1.out.trans (hb.mono TB1.out.size))
          clear hb TB1
          go_wp2_with fail
          refine (KK.out _ (HT.out.below TB2.out)).mono ?_
          rintro e w3 ⟨he, hb⟩
          subst he
          have TB3 := Lib.hid (TB2.out.trans (hb.mono TB2.out.size))
          clear hb TB2
          have c1 := below_cell TB3.out CL.out
          go_wp2_with fail
          refine (N2.out _).mono ?_
          rintro e w' ⟨he, rfl⟩
          subst he
          clear c1
          go_wp2_with fail
          go_roundw
          case rel => exact ⟨i + 1, n, n ||| (maybe &&& lt), by omega, by go_num, rfl, rfl, TB3.out⟩
          case measure => simp [intOf]; omega
      · rw [hj] at KJ
        clear hj
        go_wp2_with fail
        refine (KJ.out _ (HT.out.below TB0.out)).mono ?_
        rintro e w1 ⟨he, hb⟩
        subst he
        have TB1 := Lib.hid (TB0.out.trans (hb.mono TB0.out.size))
        clear hb TB0
        go_wp2_with fail
        go_roundw
        case rel => exact ⟨i + 1, told, maybe, by omega, by go_num, rfl, rfl, TB1.out⟩
        case measure => simp [intOf]; omega
    · go_wp2_with fail
      go_ret
      exact ⟨rfl, TB0.out⟩
end Go.Proofs.YtmnnlimiacdeoaaDoor
