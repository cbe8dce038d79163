/- What the graph's functions answer, each by a plain definition. Conditions: the table of ends lies in memory as the program's text lays it. -/
import Derived.Test.YtbeemfkndpandaaDoorGraphD
import Derived.Laws.Rows
namespace Go.Proofs.YtbeemfkndpandaaDoor
open Go.RowKit
theorem reachBad (a n : Int) (hn : n < 0 ∨ 7 ≤ n) (w : World) :
    Calls Tryd.prog 43 #[.int .i64 a, .int .i64 n] w fun e w' => e = .returned (.int .i64 0) ∧ Below w.heap.size w w' := by
  rcases hn with h | h
  all_goals
    go_enter Tryd.func43, Tryd.ntmps43
    go_wp2
    go_ret
    exact ⟨rfl, Below.refl _ _⟩
/-- The facts on one contactor's bit of a mask. -/
theorem bit_facts (a : Int) (m : BitVec 7) (hm : BitVec.ofInt 7 a = m) :
    (bits .and .i64 a 1 != 0) = m.getLsbD 0 ∧ (bits .and .i64 a 2 != 0) = m.getLsbD 1 ∧ (bits .and .i64 a 4 != 0) = m.getLsbD 2 ∧ (bits .and .i64 a 8 != 0) = m.getLsbD 3 ∧
      (bits .and .i64 a 16 != 0) = m.getLsbD 4 ∧ (bits .and .i64 a 32 != 0) = m.getLsbD 5 ∧ (bits .and .i64 a 64 != 0) = m.getLsbD 6 := by
  subst hm
  exact ⟨has a 0 (by omega), has a 1 (by omega), has a 2 (by omega), has a 3 (by omega), has a 4 (by omega), has a 5 (by omega), has a 6 (by omega)⟩
theorem stp_yes (m r : BitVec 7) (c : Nat) (h1 : m.getLsbD c = true) (h2 : (r &&& both c != 0) = true) : stp m r c = r ||| both c := by
  unfold stp; rw [h1, h2]; rfl
theorem stp_no1 (m r : BitVec 7) (c : Nat) (h1 : m.getLsbD c = false) : stp m r c = r := by
  unfold stp; rw [h1]; rfl
theorem stp_no2 (m r : BitVec 7) (c : Nat) (h2 : (r &&& both c != 0) = false) : stp m r c = r := by
  unfold stp; rw [h2]; simp
theorem m7_some (x : BitVec 7) : (m7 x != 0) = (x != 0) := by
  rw [bne, m7_none, bne]; rfl
theorem and0 (r : BitVec 7) : bits .and .i64 (m7 r) 17 = m7 (r &&& both 0) := by
  have := m7_and r (both 0)
  rwa [show m7 (both 0) = 17 by decide] at this
theorem or0 (r : BitVec 7) : bits .or .i64 (m7 r) 17 = m7 (r ||| both 0) := by
  have := m7_or r (both 0)
  rwa [show m7 (both 0) = 17 by decide] at this
theorem and1 (r : BitVec 7) : bits .and .i64 (m7 r) 18 = m7 (r &&& both 1) := by
  have := m7_and r (both 1)
  rwa [show m7 (both 1) = 18 by decide] at this
theorem or1 (r : BitVec 7) : bits .or .i64 (m7 r) 18 = m7 (r ||| both 1) := by
  have := m7_or r (both 1)
  rwa [show m7 (both 1) = 18 by decide] at this
theorem and2 (r : BitVec 7) : bits .and .i64 (m7 r) 36 = m7 (r &&& both 2) := by
  have := m7_and r (both 2)
  rwa [show m7 (both 2) = 36 by decide] at this
theorem or2 (r : BitVec 7) : bits .or .i64 (m7 r) 36 = m7 (r ||| both 2) := by
  have := m7_or r (both 2)
  rwa [show m7 (both 2) = 36 by decide] at this
theorem and3 (r : BitVec 7) : bits .and .i64 (m7 r) 40 = m7 (r &&& both 3) := by
  have := m7_and r (both 3)
  rwa [show m7 (both 3) = 40 by decide] at this
theorem or3 (r : BitVec 7) : bits .or .i64 (m7 r) 40 = m7 (r ||| both 3) := by
  have := m7_or r (both 3)
  rwa [show m7 (both 3) = 40 by decide] at this
theorem and4 (r : BitVec 7) : bits .and .i64 (m7 r) 48 = m7 (r &&& both 4) := by
  have := m7_and r (both 4)
  rwa [show m7 (both 4) = 48 by decide] at this
theorem or4 (r : BitVec 7) : bits .or .i64 (m7 r) 48 = m7 (r ||| both 4) := by
  have := m7_or r (both 4)
  rwa [show m7 (both 4) = 48 by decide] at this
theorem and5 (r : BitVec 7) : bits .and .i64 (m7 r) 80 = m7 (r &&& both 5) := by
  have := m7_and r (both 5)
  rwa [show m7 (both 5) = 80 by decide] at this
theorem or5 (r : BitVec 7) : bits .or .i64 (m7 r) 80 = m7 (r ||| both 5) := by
  have := m7_or r (both 5)
  rwa [show m7 (both 5) = 80 by decide] at this
theorem and6 (r : BitVec 7) : bits .and .i64 (m7 r) 96 = m7 (r &&& both 6) := by
  have := m7_and r (both 6)
  rwa [show m7 (both 6) = 96 by decide] at this
theorem or6 (r : BitVec 7) : bits .or .i64 (m7 r) 96 = m7 (r ||| both 6) := by
  have := m7_or r (both 6)
  rwa [show m7 (both 6) = 96 by decide] at this
theorem lit0 : bits .or .i64 1 16 = 17 := by kernel_rfl
theorem lit1 : bits .or .i64 2 16 = 18 := by kernel_rfl
theorem lit2 : bits .or .i64 4 32 = 36 := by kernel_rfl
theorem lit3 : bits .or .i64 8 32 = 40 := by kernel_rfl
theorem lit4 : bits .or .i64 16 32 = 48 := by kernel_rfl
theorem lit5 : bits .or .i64 16 64 = 80 := by kernel_rfl
theorem lit6 : bits .or .i64 32 64 = 96 := by kernel_rfl
theorem shl7' : ∀ n : Fin 7, wrap64 (2 ^ n.val) = m7 (bitOf n.val) := by decide +kernel
theorem shl7 (n : Nat) (hn : n < 7) : wrap64 (2 ^ n) = m7 (bitOf n) := shl7' ⟨n, hn⟩
theorem idx0 (w : World) : (Instr.index 86 (.agg ends14) (.int .i64 0)).run Tryd.prog w = .ok (.agg #[.int .i64 0, .int .i64 4]) w := by kernel_rfl
theorem idx1 (w : World) : (Instr.index 86 (.agg ends14) (.int .i64 1)).run Tryd.prog w = .ok (.agg #[.int .i64 1, .int .i64 4]) w := by kernel_rfl
theorem idx2 (w : World) : (Instr.index 86 (.agg ends14) (.int .i64 2)).run Tryd.prog w = .ok (.agg #[.int .i64 2, .int .i64 5]) w := by kernel_rfl
theorem idx3 (w : World) : (Instr.index 86 (.agg ends14) (.int .i64 3)).run Tryd.prog w = .ok (.agg #[.int .i64 3, .int .i64 5]) w := by kernel_rfl
theorem idx4 (w : World) : (Instr.index 86 (.agg ends14) (.int .i64 4)).run Tryd.prog w = .ok (.agg #[.int .i64 4, .int .i64 5]) w := by kernel_rfl
theorem idx5 (w : World) : (Instr.index 86 (.agg ends14) (.int .i64 5)).run Tryd.prog w = .ok (.agg #[.int .i64 4, .int .i64 6]) w := by kernel_rfl
theorem idx6 (w : World) : (Instr.index 86 (.agg ends14) (.int .i64 6)).run Tryd.prog w = .ok (.agg #[.int .i64 5, .int .i64 6]) w := by kernel_rfl
set_option maxRecDepth 100000 in
set_option maxHeartbeats 4000000 in
theorem reachC (a : Int) (m : BitVec 7) (hm : BitVec.ofInt 7 a = m) (n : Nat) (hn : n < 7) (w : World) (hT : Tab w) :
    Calls Tryd.prog 43 #[.int .i64 a, .int .i64 n] w fun e w' => e = .returned (.int .i64 (m7 (rch m n))) ∧ Below w.heap.size w w' := by
  have e0 := shl7 n hn
  have HT := Lib.hid hT
  have HB := Lib.hid (bit_facts a m hm)
  clear hT hm
  go_enter Tryd.func43, Tryd.ntmps43
  go_wp2
  rw [e0]
  clear e0
  go_loopw [5] (fun v wr => ∃ i : Nat, v = .int .i64 (m7 (pass m i (bitOf n))) ∧ Below w.heap.size w wr) (fun v _ => 128 - (intOf v).toNat)
  case atStart => exact ⟨0, rfl, Below.refl _ _⟩
  case round =>
    obtain ⟨i, rfl, hb⟩ := hrel
    obtain ⟨r, hi⟩ : ∃ r, r = pass m i (bitOf n) := ⟨_, rfl⟩
    rw [← hi]
    have HI := Lib.hid hi.symm
    clear hi
    have HW := Lib.hid hb
    clear hb
    obtain ⟨tt, fr, hg1⟩ := HT.out.below HW.out
    have HG := Lib.hid hg1
    clear hg1
    go_wp2_with (refine wpList_load_row rfl 86 _ rfl 1 rfl tt _ fr _ HG.out Tryd.underlying86 rfl (by kernel_rfl) ?_)
    go_loopw [6, 20] (fun v c wr => ∃ k : Nat, k ≤ 7 ∧ c = .int .i64 k ∧ v = .int .i64 (m7 (fold m k r)) ∧ Below w.heap.size w wr) (fun _ c _ => 7 - (intOf c).toNat)
    case atStart => exact ⟨0, by omega, rfl, rfl, HW.out⟩
    case round =>
      obtain ⟨k, hk, rfl, rfl, hb⟩ := hrel
      have HV := Lib.hid hb
      clear hb HW HG
      by_cases h7 : k = 7
      · subst h7
        clear hk
        by_cases hr : fold m 7 r = r
        · have hs : r = rch m n := by
            have hi := HI.out
            exact hi.symm.trans (rch_stop m n hn i (by rw [hi]; exact hr))
          rw [hr]
          clear hr
          have es : (m7 r == m7 r) = true := by simp
          go_wp2
          go_ret
          exact ⟨ret_i (congrArg m7 hs), HV.out⟩
        · have es : (m7 (fold m 7 r) == m7 r) = false := by rw [m7_eq]; exact decide_eq_false hr
          have hup := fold_up m 7 r
          have hne : r.toNat ≠ (fold m 7 r).toNat := fun h => hr (BitVec.eq_of_toNat_eq h).symm
          have hlt := (fold m 7 r).isLt
          have HX := Lib.hid (And.intro hup (And.intro hne hlt))
          clear hr hup hne hlt
          go_wp2
          go_roundw
          case rel => exact ⟨i + 1, by rw [← HI.out]; rfl, HV.out⟩
          case measure =>
            obtain ⟨h1, h2, h3⟩ := HX.out
            simp only [intOf, m7]
            omega
      · match k, hk, h7 with
        | 0, _, _ =>
          clear hk h7
          have eb := HB.out.1
          cases hb : m.getLsbD 0
          · rw [hb] at eb
            have es := stp_no1 m (fold m 0 r) 0 hb
            have ix := idx0 wr
            have ES := Lib.hid es
            clear hb es
            go_wp2
            go_quiet (fail)
            go_wp2
            go_roundw
            case rel => exact ⟨1, by omega, rfl, by rw [show fold m 1 r = stp m (fold m 0 r) 0 from rfl, ES.out], below_drewN (HV.out.alloc HV.out.size _) _⟩
            case measure => simp [intOf]
          · rw [hb] at eb
            have e0 := lit0
            have e1 := and0 (fold m 0 r)
            have ix := idx0 wr
            cases hc : (fold m 0 r &&& both 0 != 0)
            · have e2 : (m7 (fold m 0 r &&& both 0) != 0) = false := by rw [m7_some]; exact hc
              have ES := Lib.hid (stp_no2 m (fold m 0 r) 0 hc)
              clear hb hc
              go_wp2
              go_quiet (fail)
              go_wp2
              go_roundw
              case rel => exact ⟨1, by omega, rfl, by rw [show fold m 1 r = stp m (fold m 0 r) 0 from rfl, ES.out], below_drewN (HV.out.alloc HV.out.size _) _⟩
              case measure => simp [intOf]
            · have e2 : (m7 (fold m 0 r &&& both 0) != 0) = true := by rw [m7_some]; exact hc
              have e3 := or0 (fold m 0 r)
              have ES := Lib.hid (stp_yes m (fold m 0 r) 0 hb hc)
              clear hb hc
              go_wp2
              go_quiet (fail)
              go_wp2
              go_roundw
              case rel => exact ⟨1, by omega, rfl, by rw [show fold m 1 r = stp m (fold m 0 r) 0 from rfl, ES.out], below_drewN (HV.out.alloc HV.out.size _) _⟩
              case measure => simp [intOf]
        | 1, _, _ =>
          clear hk h7
          have eb := HB.out.2.1
          cases hb : m.getLsbD 1
          · rw [hb] at eb
            have es := stp_no1 m (fold m 1 r) 1 hb
            have ix := idx1 wr
            have ES := Lib.hid es
            clear hb es
            go_wp2
            go_quiet (fail)
            go_wp2
            go_roundw
            case rel => exact ⟨2, by omega, rfl, by rw [show fold m 2 r = stp m (fold m 1 r) 1 from rfl, ES.out], below_drewN (HV.out.alloc HV.out.size _) _⟩
            case measure => simp [intOf]
          · rw [hb] at eb
            have e0 := lit1
            have e1 := and1 (fold m 1 r)
            have ix := idx1 wr
            cases hc : (fold m 1 r &&& both 1 != 0)
            · have e2 : (m7 (fold m 1 r &&& both 1) != 0) = false := by rw [m7_some]; exact hc
              have ES := Lib.hid (stp_no2 m (fold m 1 r) 1 hc)
              clear hb hc
              go_wp2
              go_quiet (fail)
              go_wp2
              go_roundw
              case rel => exact ⟨2, by omega, rfl, by rw [show fold m 2 r = stp m (fold m 1 r) 1 from rfl, ES.out], below_drewN (HV.out.alloc HV.out.size _) _⟩
              case measure => simp [intOf]
            · have e2 : (m7 (fold m 1 r &&& both 1) != 0) = true := by rw [m7_some]; exact hc
              have e3 := or1 (fold m 1 r)
              have ES := Lib.hid (stp_yes m (fold m 1 r) 1 hb hc)
              clear hb hc
              go_wp2
              go_quiet (fail)
              go_wp2
              go_roundw
              case rel => exact ⟨2, by omega, rfl, by rw [show fold m 2 r = stp m (fold m 1 r) 1 from rfl, ES.out], below_drewN (HV.out.alloc HV.out.size _) _⟩
              case measure => simp [intOf]
        | 2, _, _ =>
          clear hk h7
          have eb := HB.out.2.2.1
          cases hb : m.getLsbD 2
          · rw [hb] at eb
            have es := stp_no1 m (fold m 2 r) 2 hb
            have ix := idx2 wr
            have ES := Lib.hid es
            clear hb es
            go_wp2
            go_quiet (fail)
            go_wp2
            go_roundw
            case rel => exact ⟨3, by omega, rfl, by rw [show fold m 3 r = stp m (fold m 2 r) 2 from rfl, ES.out], below_drewN (HV.out.alloc HV.out.size _) _⟩
            case measure => simp [intOf]
          · rw [hb] at eb
            have e0 := lit2
            have e1 := and2 (fold m 2 r)
            have ix := idx2 wr
            cases hc : (fold m 2 r &&& both 2 != 0)
            · have e2 : (m7 (fold m 2 r &&& both 2) != 0) = false := by rw [m7_some]; exact hc
              have ES := Lib.hid (stp_no2 m (fold m 2 r) 2 hc)
              clear hb hc
              go_wp2
              go_quiet (fail)
              go_wp2
              go_roundw
              case rel => exact ⟨3, by omega, rfl, by rw [show fold m 3 r = stp m (fold m 2 r) 2 from rfl, ES.out], below_drewN (HV.out.alloc HV.out.size _) _⟩
              case measure => simp [intOf]
            · have e2 : (m7 (fold m 2 r &&& both 2) != 0) = true := by rw [m7_some]; exact hc
              have e3 := or2 (fold m 2 r)
              have ES := Lib.hid (stp_yes m (fold m 2 r) 2 hb hc)
              clear hb hc
              go_wp2
              go_quiet (fail)
              go_wp2
              go_roundw
              case rel => exact ⟨3, by omega, rfl, by rw [show fold m 3 r = stp m (fold m 2 r) 2 from rfl, ES.out], below_drewN (HV.out.alloc HV.out.size _) _⟩
              case measure => simp [intOf]
        | 3, _, _ =>
          clear hk h7
          have eb := HB.out.2.2.2.1
          cases hb : m.getLsbD 3
          · rw [hb] at eb
            have es := stp_no1 m (fold m 3 r) 3 hb
            have ix := idx3 wr
            have ES := Lib.hid es
            clear hb es
            go_wp2
            go_quiet (fail)
            go_wp2
            go_roundw
            case rel => exact ⟨4, by omega, rfl, by rw [show fold m 4 r = stp m (fold m 3 r) 3 from rfl, ES.out], below_drewN (HV.out.alloc HV.out.size _) _⟩
            case measure => simp [intOf]
          · rw [hb] at eb
            have e0 := lit3
            have e1 := and3 (fold m 3 r)
            have ix := idx3 wr
            cases hc : (fold m 3 r &&& both 3 != 0)
            · have e2 : (m7 (fold m 3 r &&& both 3) != 0) = false := by rw [m7_some]; exact hc
              have ES := Lib.hid (stp_no2 m (fold m 3 r) 3 hc)
              clear hb hc
              go_wp2
              go_quiet (fail)
              go_wp2
              go_roundw
              case rel => exact ⟨4, by omega, rfl, by rw [show fold m 4 r = stp m (fold m 3 r) 3 from rfl, ES.out], below_drewN (HV.out.alloc HV.out.size _) _⟩
              case measure => simp [intOf]
            · have e2 : (m7 (fold m 3 r &&& both 3) != 0) = true := by rw [m7_some]; exact hc
              have e3 := or3 (fold m 3 r)
              have ES := Lib.hid (stp_yes m (fold m 3 r) 3 hb hc)
              clear hb hc
              go_wp2
              go_quiet (fail)
              go_wp2
              go_roundw
              case rel => exact ⟨4, by omega, rfl, by rw [show fold m 4 r = stp m (fold m 3 r) 3 from rfl, ES.out], below_drewN (HV.out.alloc HV.out.size _) _⟩
              case measure => simp [intOf]
        | 4, _, _ =>
          clear hk h7
          have eb := HB.out.2.2.2.2.1
          cases hb : m.getLsbD 4
          · rw [hb] at eb
            have es := stp_no1 m (fold m 4 r) 4 hb
            have ix := idx4 wr
            have ES := Lib.hid es
            clear hb es
            go_wp2
            go_quiet (fail)
            go_wp2
            go_roundw
            case rel => exact ⟨5, by omega, rfl, by rw [show fold m 5 r = stp m (fold m 4 r) 4 from rfl, ES.out], below_drewN (HV.out.alloc HV.out.size _) _⟩
            case measure => simp [intOf]
          · rw [hb] at eb
            have e0 := lit4
            have e1 := and4 (fold m 4 r)
            have ix := idx4 wr
            cases hc : (fold m 4 r &&& both 4 != 0)
            · have e2 : (m7 (fold m 4 r &&& both 4) != 0) = false := by rw [m7_some]; exact hc
              have ES := Lib.hid (stp_no2 m (fold m 4 r) 4 hc)
              clear hb hc
              go_wp2
              go_quiet (fail)
              go_wp2
              go_roundw
              case rel => exact ⟨5, by omega, rfl, by rw [show fold m 5 r = stp m (fold m 4 r) 4 from rfl, ES.out], below_drewN (HV.out.alloc HV.out.size _) _⟩
              case measure => simp [intOf]
            · have e2 : (m7 (fold m 4 r &&& both 4) != 0) = true := by rw [m7_some]; exact hc
              have e3 := or4 (fold m 4 r)
              have ES := Lib.hid (stp_yes m (fold m 4 r) 4 hb hc)
              clear hb hc
              go_wp2
              go_quiet (fail)
              go_wp2
              go_roundw
              case rel => exact ⟨5, by omega, rfl, by rw [show fold m 5 r = stp m (fold m 4 r) 4 from rfl, ES.out], below_drewN (HV.out.alloc HV.out.size _) _⟩
              case measure => simp [intOf]
        | 5, _, _ =>
          clear hk h7
          have eb := HB.out.2.2.2.2.2.1
          cases hb : m.getLsbD 5
          · rw [hb] at eb
            have es := stp_no1 m (fold m 5 r) 5 hb
            have ix := idx5 wr
            have ES := Lib.hid es
            clear hb es
            go_wp2
            go_quiet (fail)
            go_wp2
            go_roundw
            case rel => exact ⟨6, by omega, rfl, by rw [show fold m 6 r = stp m (fold m 5 r) 5 from rfl, ES.out], below_drewN (HV.out.alloc HV.out.size _) _⟩
            case measure => simp [intOf]
          · rw [hb] at eb
            have e0 := lit5
            have e1 := and5 (fold m 5 r)
            have ix := idx5 wr
            cases hc : (fold m 5 r &&& both 5 != 0)
            · have e2 : (m7 (fold m 5 r &&& both 5) != 0) = false := by rw [m7_some]; exact hc
              have ES := Lib.hid (stp_no2 m (fold m 5 r) 5 hc)
              clear hb hc
              go_wp2
              go_quiet (fail)
              go_wp2
              go_roundw
              case rel => exact ⟨6, by omega, rfl, by rw [show fold m 6 r = stp m (fold m 5 r) 5 from rfl, ES.out], below_drewN (HV.out.alloc HV.out.size _) _⟩
              case measure => simp [intOf]
            · have e2 : (m7 (fold m 5 r &&& both 5) != 0) = true := by rw [m7_some]; exact hc
              have e3 := or5 (fold m 5 r)
              have ES := Lib.hid (stp_yes m (fold m 5 r) 5 hb hc)
              clear hb hc
              go_wp2
              go_quiet (fail)
              go_wp2
              go_roundw
              case rel => exact ⟨6, by omega, rfl, by rw [show fold m 6 r = stp m (fold m 5 r) 5 from rfl, ES.out], below_drewN (HV.out.alloc HV.out.size _) _⟩
              case measure => simp [intOf]
        | 6, _, _ =>
          clear hk h7
          have eb := HB.out.2.2.2.2.2.2
          cases hb : m.getLsbD 6
          · rw [hb] at eb
            have es := stp_no1 m (fold m 6 r) 6 hb
            have ix := idx6 wr
            have ES := Lib.hid es
            clear hb es
            go_wp2
            go_quiet (fail)
            go_wp2
            go_roundw
            case rel => exact ⟨7, by omega, rfl, by rw [show fold m 7 r = stp m (fold m 6 r) 6 from rfl, ES.out], below_drewN (HV.out.alloc HV.out.size _) _⟩
            case measure => simp [intOf]
          · rw [hb] at eb
            have e0 := lit6
            have e1 := and6 (fold m 6 r)
            have ix := idx6 wr
            cases hc : (fold m 6 r &&& both 6 != 0)
            · have e2 : (m7 (fold m 6 r &&& both 6) != 0) = false := by rw [m7_some]; exact hc
              have ES := Lib.hid (stp_no2 m (fold m 6 r) 6 hc)
              clear hb hc
              go_wp2
              go_quiet (fail)
              go_wp2
              go_roundw
              case rel => exact ⟨7, by omega, rfl, by rw [show fold m 7 r = stp m (fold m 6 r) 6 from rfl, ES.out], below_drewN (HV.out.alloc HV.out.size _) _⟩
              case measure => simp [intOf]
            · have e2 : (m7 (fold m 6 r &&& both 6) != 0) = true := by rw [m7_some]; exact hc
              have e3 := or6 (fold m 6 r)
              have ES := Lib.hid (stp_yes m (fold m 6 r) 6 hb hc)
              clear hb hc
              go_wp2
              go_quiet (fail)
              go_wp2
              go_roundw
              case rel => exact ⟨7, by omega, rfl, by rw [show fold m 7 r = stp m (fold m 6 r) 6 from rfl, ES.out], below_drewN (HV.out.alloc HV.out.size _) _⟩
              case measure => simp [intOf]
        | k + 7, hk, h7 => omega
end Go.Proofs.YtbeemfkndpandaaDoor
