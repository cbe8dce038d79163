/- The bytes of a record that may be. Conditions: it may be. -/
import Derived.Test.YtngomgkinaodjaaDoorSlotA
namespace Go.Proofs.YtngomgkinaodjaaDoor
open Go Go.RowKit
set_option linter.unusedVariables false
set_option maxRecDepth 20000
def rec10 (seq mode locks : Int) : List Int := [165] ++ beL 4 seq ++ [mode] ++ beL 4 locks
def recQ (seq mode locks a b c d : Int) : Nat → List Int
  | 0 => rec10 seq mode locks
  | 1 => rec10 seq mode locks ++ beL 8 a
  | 2 => rec10 seq mode locks ++ beL 8 a ++ beL 8 b
  | 3 => rec10 seq mode locks ++ beL 8 a ++ beL 8 b ++ beL 8 c
  | _ => rec10 seq mode locks ++ beL 8 a ++ beL 8 b ++ beL 8 c ++ beL 8 d
def sumI (l : List Int) : Int := u16v (crcN 65535 (fun i => BitVec.ofInt 8 (l.getD (i + 1) 0)) 41)
def recS (seq mode locks a b c d : Int) : List Int := recQ seq mode locks a b c d 4 ++ beL 2 (sumI (recQ seq mode locks a b c d 4))
theorem beL_in (k : Nat) (n : Int) : ∀ x ∈ beL k n, 0 ≤ x ∧ x < 256 := by
  induction k with
  | zero => intro x hx; cases hx
  | succ k ih =>
    intro x hx
    rcases List.mem_cons.1 hx with rfl | h
    · exact ⟨Int.emod_nonneg _ (by omega), Int.emod_lt_of_pos _ (by omega)⟩
    · exact ih x h
theorem recQ_len (seq mode locks a b c d : Int) : (recQ seq mode locks a b c d 4).length = 42 := by
  show (rec10 seq mode locks ++ beL 8 a ++ beL 8 b ++ beL 8 c ++ beL 8 d).length = 42
  simp [rec10, beL_len]
theorem recQ_in {seq mode locks a b c d : Int} (h : RecOk seq mode locks a b c d) : ∀ x ∈ recQ seq mode locks a b c d 4, 0 ≤ x ∧ x < 256 := by
  intro x hx
  have := h.m
  change x ∈ rec10 seq mode locks ++ beL 8 a ++ beL 8 b ++ beL 8 c ++ beL 8 d at hx
  unfold rec10 at hx
  simp only [List.mem_append, List.mem_singleton] at hx
  rcases hx with (((((((rfl | h) | rfl) | h) | h) | h) | h) | h)
  · omega
  · exact beL_in _ _ _ h
  · omega
  all_goals exact beL_in _ _ _ h
theorem sumI_in (l : List Int) : 0 ≤ sumI l ∧ sumI l < 65536 := by
  unfold sumI u16v
  have := (crcN 65535 (fun i => BitVec.ofInt 8 (l.getD (i + 1) 0)) 41).isLt
  omega
theorem owns_down {w : World} {base base' : Nat} {e : TypeId} {size : Nat} {v : Value} {n : Nat} {xs : List Value} (h : w.ownsRow base e size v n xs) (hb : base' ≤ base) : w.ownsRow base' e size v n xs :=
  ⟨h.1, h.2.imp id fun ⟨g, cap, cur, hv, hg, r⟩ => ⟨g, cap, cur, hv, Nat.le_trans hb hg, r⟩⟩
set_option maxHeartbeats 16000000 in
theorem slotBytes {seq mode locks a b c d : Int} (h : RecOk seq mode locks a b c d) (w : World) :
    Calls Tryd.prog 26 #[.agg #[.int .u32 seq, .int .i64 mode, .int .u32 locks, .int .i64 a, .int .i64 b, .int .i64 c, .int .i64 d]] w fun e w' => ∃ va vc, e = .returned (.tuple #[.slice va 44 vc, .nilIface]) ∧ w'.ownsRow w.heap.size 5 1 (.slice va 44 vc) 44 (u8s (recS seq mode locks a b c d)) ∧ Below w.heap.size w w' := by
  obtain ⟨i0, hi0, hz0, hz1, hz2⟩ := infoB
  have hmx : (1000000 : Nat) ≤ maxLen := by decide
  have K := Lib.hid fun (u : World) => checkS h u
  have HH := Lib.hid h
  clear h
  go_enter Tryd.func26, Tryd.ntmps26
  go_upto_region 1 with fail
  have B0 := Lib.hid (Bx.new w #[.int .u32 seq, .int .i64 mode, .int .u32 locks, .int .i64 a, .int .i64 b, .int .i64 c, .int .i64 d] 51)
  generalize World.alloc w _ = W at *
  have x0 : W.cell? ⟨w.heap.size, 0, none⟩ = some (.int .u32 seq) := B0.out.cell 0 rfl
  have x1 : W.cell? ⟨w.heap.size, 1, none⟩ = some (.int .i64 mode) := B0.out.cell 1 rfl
  have x2 : W.cell? ⟨w.heap.size, 2, none⟩ = some (.int .u32 locks) := B0.out.cell 2 rfl
  have x3 : W.cell? ⟨w.heap.size, 3, none⟩ = some (.int .i64 a) := B0.out.cell 3 rfl
  have x4 : W.cell? ⟨w.heap.size, 4, none⟩ = some (.int .i64 b) := B0.out.cell 4 rfl
  have x5 : W.cell? ⟨w.heap.size, 5, none⟩ = some (.int .i64 c) := B0.out.cell 5 rfl
  have x6 : W.cell? ⟨w.heap.size, 6, none⟩ = some (.int .i64 d) := B0.out.cell 6 rfl
  go_wp2_with fail
  refine (K.out _).mono ?_
  rintro e w1 ⟨rfl, hb⟩
  have B1 := Lib.hid (B0.out.below hb)
  clear hb B0 K x0 x1 x2 x3 x4 x5 x6
  have mk := run_makeSlice (P := Tryd.prog) (w := w1) 22 5 i0 _ Tryd.underlying22 hi0 hz0 .i64 .i64 (0 : Int) (44 : Int) (by omega) (by omega) (by rw [hz1]; decide) (by rw [hz2]; decide) (by decide)
  rw [hz1] at mk
  simp only [Int.toNat_zero, Nat.mul_one, show (44 : Int).toNat = 44 from rfl] at mk
  go_upto_region 5 with fail
  have O2 := Lib.hid (World.ownsRow_made (base := w1.heap.size) (size := 1) (e := 5) w1 (madeCells #[.int .u8 0] 44) 44 (Nat.le_refl _) (by omega) (by simp [madeCells]))
  have F2 := Lib.hid ((Below.refl w1.heap.size w1).alloc (Nat.le_refl _) (.cells (madeCells #[.int .u8 0] 44) 5))
  clear mk
  generalize World.alloc w1 _ = w2 at *
  go_upto_region 6 with (first
    | (at_builtin
       refine wpList_append_lies _ rfl _ _ 22 rfl w1.heap.size 5 i0 (.int .u8 0) 1 1 Tryd.underlying22 hi0 hz0 hz1 hz2 rfl (by decide) _ 0 _ rfl (O2.out.alloc _) ⟨w2.heap.size, 0, none⟩ 1 1 [.int .u8 165] rfl ?hl (World.news_of_block (heap_alloc_new _ _)) ?h1 (by decide) (by omega) (by omega) (by have := F2.out.size; simp; omega) _ rfl ?_
       case hl => rfl
       case h1 => simp [Value.oneCell']
       intro w3g w3c w3 hown' hgrow hat hlt
       have Ow3 := Lib.hid hown'
       have Fw3 := Lib.hid ((F2.out.alloc F2.out.size _).grown hgrow (by have := F2.out.size; simp; omega) (fun q hq => O2.out.lt q hq |>.1))
       clear hown' hgrow hat hlt))
  have O3 := Lib.hid (show w3.ownsRow w1.heap.size 5 1 (.slice (some ⟨w3g, 0, none⟩) 1 w3c) 1 (u8s [165]) from Ow3.out)
  have B3 := Lib.hid (B1.out.below Fw3.out)
  clear O2 F2 Ow3
  have x0 : w3.cell? ⟨w.heap.size, 0, none⟩ = some (.int .u32 seq) := B3.out.cell 0 rfl
  have vq : IntKind.u64.wrap seq = seq := by have := HH.out.s; rw [IntKind.wrap_u64]; omega
  go_wp2_with fail
  refine (numberS (m := 1) 4 (by omega) (by omega) seq HH.out.s.1 _ Fw3.out.size O3.out).mono ?_
  rintro e w4 ⟨va4, vc4, rfl, ho, hb⟩
  have O4 := Lib.hid (show w4.ownsRow w1.heap.size 5 1 (.slice va4 5 vc4) 5 (u8s ([165] ++ beL 4 seq)) by rw [u8s_app]; exact ho)
  have F4 := Lib.hid (Fw3.out.trans hb)
  clear ho hb O3 Fw3 B3 x0 vq
  have x1 : w4.cell? ⟨w.heap.size, 1, none⟩ = some (.int .i64 mode) := (B1.out.below F4.out).cell 1 rfl
  have vm : IntKind.u8.wrap mode = mode := by have := HH.out.m; rw [IntKind.wrap_u8]; omega
  go_upto_region 8 with (first
    | (at_builtin
       refine wpList_append_lies _ rfl _ _ 22 rfl w1.heap.size 5 i0 (.int .u8 0) 1 1 Tryd.underlying22 hi0 hz0 hz1 hz2 rfl (by decide) _ 5 _ rfl (O4.out.alloc _) ⟨w4.heap.size, 0, none⟩ 1 1 [.int .u8 mode] rfl ?hl (World.news_of_block (heap_alloc_new _ _)) ?h1 (by decide) (by omega) (by omega) (by have := F4.out.size; simp; omega) _ rfl ?_
       case hl => rfl
       case h1 => simp [Value.oneCell']
       intro w5g w5c w5 hown' hgrow hat hlt
       have Ow5 := Lib.hid hown'
       have Fw5 := Lib.hid ((F4.out.alloc F4.out.size _).grown hgrow (by have := F4.out.size; simp; omega) (fun q hq => O4.out.lt q hq |>.1))
       clear hown' hgrow hat hlt))
  have O5 := Lib.hid (show w5.ownsRow w1.heap.size 5 1 (.slice (some ⟨w5g, 0, none⟩) 6 w5c) 6 (u8s ([165] ++ beL 4 seq ++ [mode])) by rw [u8s_app]; exact Ow5.out)
  clear Ow5 O4 F4 x1 vm
  have x2 : w5.cell? ⟨w.heap.size, 2, none⟩ = some (.int .u32 locks) := (B1.out.below Fw5.out).cell 2 rfl
  have vl : IntKind.u64.wrap locks = locks := by have := HH.out.l; rw [IntKind.wrap_u64]; omega
  go_wp2_with fail
  refine (numberS (m := 6) 4 (by omega) (by omega) locks HH.out.l.1 _ Fw5.out.size O5.out).mono ?_
  rintro e w6 ⟨va6, vc6, rfl, ho, hb⟩
  have O6 := Lib.hid (show w6.ownsRow w1.heap.size 5 1 (.slice va6 10 vc6) 10 (u8s (recQ seq mode locks a b c d 0)) by show w6.ownsRow w1.heap.size 5 1 (.slice va6 10 vc6) 10 (u8s (([165] ++ beL 4 seq ++ [mode]) ++ beL 4 locks)); rw [u8s_app]; exact ho)
  have F6 := Lib.hid (Fw5.out.trans hb)
  clear ho hb O5 Fw5 x2 vl
  have y3 : w6.cell? ⟨w.heap.size, 3, none⟩ = some (.int .i64 a) := (B1.out.below F6.out).cell 3 rfl
  have y4 : w6.cell? ⟨w.heap.size, 4, none⟩ = some (.int .i64 b) := (B1.out.below F6.out).cell 4 rfl
  have y5 : w6.cell? ⟨w.heap.size, 5, none⟩ = some (.int .i64 c) := (B1.out.below F6.out).cell 5 rfl
  have y6 : w6.cell? ⟨w.heap.size, 6, none⟩ = some (.int .i64 d) := (B1.out.below F6.out).cell 6 rfl
  go_wp2_with fail
  go_loopw [5, 7, 46] (fun s q v wr => ∃ (j : Nat) (va : Option Addr) (vc : Nat), j ≤ 4 ∧ v = .int .i64 j ∧ s = .slice va (10 + 8 * j) vc ∧ wr.ownsRow w1.heap.size 5 1 (.slice va (10 + 8 * j) vc) (10 + 8 * j) (u8s (recQ seq mode locks a b c d j)) ∧ Below w1.heap.size w1 wr) (fun _ _ v _ => 4 - (intOf v).toNat)
  case atStart => exact ⟨0, va6, vc6, by omega, rfl, rfl, O6.out, F6.out⟩
  case round =>
    obtain ⟨j, va, vc, hj, rfl, rfl, ho, hb⟩ := hrel
    have OJ := Lib.hid ho
    have FJ := Lib.hid hb
    clear ho hb O6 F6
    rcases (show j = 0 ∨ j = 1 ∨ j = 2 ∨ j = 3 ∨ j = 4 by omega) with rfl | rfl | rfl | rfl | rfl
    · have vq : IntKind.u64.wrap a = a := by have h1 := HH.out.q; have h2 := HH.out.r; rw [IntKind.wrap_u64]; omega
      have ix : ∀ u : World, (Instr.index 78 (.agg #[.int .i64 a, .int .i64 b, .int .i64 c, .int .i64 d]) (.int .i64 0)).run Tryd.prog u = .ok (.int .i64 a) u := fun u => by kernel_rfl
      go_wp2_with fail
      refine (numberS (m := 10) 8 (by omega) (by omega) a HH.out.q.1 _ FJ.out.size OJ.out).mono ?_
      rintro e w7 ⟨va7, vc7, rfl, ho, hb⟩
      have O7 := Lib.hid (show w7.ownsRow w1.heap.size 5 1 (.slice va7 (10 + 8 * 1) vc7) (10 + 8 * 1) (u8s (recQ seq mode locks a b c d 1)) by show w7.ownsRow w1.heap.size 5 1 (.slice va7 18 vc7) 18 (u8s (recQ seq mode locks a b c d 0 ++ beL 8 a)); rw [u8s_app]; exact ho)
      have F7 := Lib.hid (FJ.out.trans hb)
      clear ho hb
      go_wp2_with fail
      go_roundw
      case rel => exact ⟨1, va7, vc7, by omega, rfl, rfl, O7.out, F7.out⟩
      case measure => simp [intOf]
    · have vq : IntKind.u64.wrap b = b := by have h1 := HH.out.q; have h2 := HH.out.r; rw [IntKind.wrap_u64]; omega
      have ix : ∀ u : World, (Instr.index 78 (.agg #[.int .i64 a, .int .i64 b, .int .i64 c, .int .i64 d]) (.int .i64 1)).run Tryd.prog u = .ok (.int .i64 b) u := fun u => by kernel_rfl
      go_wp2_with fail
      refine (numberS (m := 18) 8 (by omega) (by omega) b (Int.le_trans HH.out.q.1 HH.out.q.2.1) _ FJ.out.size OJ.out).mono ?_
      rintro e w7 ⟨va7, vc7, rfl, ho, hb⟩
      have O7 := Lib.hid (show w7.ownsRow w1.heap.size 5 1 (.slice va7 (10 + 8 * 2) vc7) (10 + 8 * 2) (u8s (recQ seq mode locks a b c d 2)) by show w7.ownsRow w1.heap.size 5 1 (.slice va7 26 vc7) 26 (u8s (recQ seq mode locks a b c d 1 ++ beL 8 b)); rw [u8s_app]; exact ho)
      have F7 := Lib.hid (FJ.out.trans hb)
      clear ho hb
      go_wp2_with fail
      go_roundw
      case rel => exact ⟨2, va7, vc7, by omega, rfl, rfl, O7.out, F7.out⟩
      case measure => simp [intOf]
    · have vq : IntKind.u64.wrap c = c := by have h1 := HH.out.q; have h2 := HH.out.r; rw [IntKind.wrap_u64]; omega
      have ix : ∀ u : World, (Instr.index 78 (.agg #[.int .i64 a, .int .i64 b, .int .i64 c, .int .i64 d]) (.int .i64 2)).run Tryd.prog u = .ok (.int .i64 c) u := fun u => by kernel_rfl
      go_wp2_with fail
      refine (numberS (m := 26) 8 (by omega) (by omega) c HH.out.r.1 _ FJ.out.size OJ.out).mono ?_
      rintro e w7 ⟨va7, vc7, rfl, ho, hb⟩
      have O7 := Lib.hid (show w7.ownsRow w1.heap.size 5 1 (.slice va7 (10 + 8 * 3) vc7) (10 + 8 * 3) (u8s (recQ seq mode locks a b c d 3)) by show w7.ownsRow w1.heap.size 5 1 (.slice va7 34 vc7) 34 (u8s (recQ seq mode locks a b c d 2 ++ beL 8 c)); rw [u8s_app]; exact ho)
      have F7 := Lib.hid (FJ.out.trans hb)
      clear ho hb
      go_wp2_with fail
      go_roundw
      case rel => exact ⟨3, va7, vc7, by omega, rfl, rfl, O7.out, F7.out⟩
      case measure => simp [intOf]
    · have vq : IntKind.u64.wrap d = d := by have h1 := HH.out.q; have h2 := HH.out.r; rw [IntKind.wrap_u64]; omega
      have ix : ∀ u : World, (Instr.index 78 (.agg #[.int .i64 a, .int .i64 b, .int .i64 c, .int .i64 d]) (.int .i64 3)).run Tryd.prog u = .ok (.int .i64 d) u := fun u => by kernel_rfl
      go_wp2_with fail
      refine (numberS (m := 34) 8 (by omega) (by omega) d (Int.le_trans HH.out.r.1 HH.out.r.2.1) _ FJ.out.size OJ.out).mono ?_
      rintro e w7 ⟨va7, vc7, rfl, ho, hb⟩
      have O7 := Lib.hid (show w7.ownsRow w1.heap.size 5 1 (.slice va7 (10 + 8 * 4) vc7) (10 + 8 * 4) (u8s (recQ seq mode locks a b c d 4)) by show w7.ownsRow w1.heap.size 5 1 (.slice va7 42 vc7) 42 (u8s (recQ seq mode locks a b c d 3 ++ beL 8 d)); rw [u8s_app]; exact ho)
      have F7 := Lib.hid (FJ.out.trans hb)
      clear ho hb
      go_wp2_with fail
      go_roundw
      case rel => exact ⟨4, va7, vc7, by omega, rfl, rfl, O7.out, F7.out⟩
      case measure => simp [intOf]
    · have O8 := Lib.hid (show wr.ownsRow w1.heap.size 5 1 (.slice va 42 vc) 42 (u8s (recQ seq mode locks a b c d 4)) from OJ.out)
      have LL := Lib.hid (recQ_len seq mode locks a b c d)
      have LI := Lib.hid (recQ_in HH.out)
      have SI := Lib.hid (sumI_in (recQ seq mode locks a b c d 4))
      have ES := Lib.hid (show recS seq mode locks a b c d = recQ seq mode locks a b c d 4 ++ beL 2 (sumI (recQ seq mode locks a b c d 4)) from rfl)
      generalize recQ seq mode locks a b c d 4 = L at *
      obtain ⟨g, hva, hcap⟩ : ∃ g, va = some ⟨g, 0, none⟩ ∧ 42 ≤ vc := by
        rcases O8.out.2 with ⟨_, h0⟩ | ⟨g, cap, cur, hv, _, _, hc, _⟩
        · omega
        · cases hv; exact ⟨g, rfl, hc⟩
      subst hva
      have R8 : Row8 wr (some ⟨g, 1, none⟩) 41 (fun i => BitVec.ofInt 8 (L.getD (i + 1) 0)) := fun i hi => by
        have hl : i + 1 < L.length := by rw [LL.out]; omega
        have hx : L.getD (i + 1) 0 = L[i + 1] := by simp [List.getD, hl]
        have hb := LI.out L[i + 1] (List.getElem_mem hl)
        have hc := O8.out.cells (g := g) rfl (i + 1) (.int .u8 L[i + 1]) (by unfold u8s; simp [hl])
        refine ⟨_, rfl, ?_⟩
        show wr.cell? _ = some (.int .u8 (u8v (BitVec.ofInt 8 (L.getD (i + 1) 0))))
        rw [hx, show u8v (BitVec.ofInt 8 L[i + 1]) = L[i + 1] by unfold u8v; rw [BitVec.toNat_ofInt]; omega]
        rw [← hc]
        congr 1
        unfold Addr.add
        by_cases h0 : i = 0
        · subst h0; simp
        · simp [h0]; omega
      have KS := sumC (some ⟨g, 1, none⟩) 41 (vc - 1) (fun i => BitVec.ofInt 8 (L.getD (i + 1) 0)) (by omega) wr R8
      rw [show u16v (crcN 65535 (fun i => BitVec.ofInt 8 (L.getD (i + 1) 0)) 41) = sumI L from rfl] at KS
      have KS := Lib.hid KS
      have vz : IntKind.u64.wrap (sumI L) = sumI L := by have := SI.out; rw [IntKind.wrap_u64]; omega
      have hc1 : ¬ vc = 1 := by omega
      clear R8 LL LI OJ y3 y4 y5 y6 hj
      go_wp2_with fail
      refine KS.out.mono ?_
      rintro e w9 ⟨rfl, rfl⟩
      go_wp2_with fail
      refine (numberS (m := 42) 2 (by omega) (by omega) (sumI L) SI.out.1 _ FJ.out.size O8.out).mono ?_
      rintro e w8 ⟨va8, vc8, rfl, ho, hb⟩
      have O9 := Lib.hid (show w8.ownsRow w.heap.size 5 1 (.slice va8 44 vc8) 44 (u8s (recS seq mode locks a b c d)) by
        rw [ES.out, u8s_app]
        exact owns_down ho B1.out.lo.size)
      have L9 := Lib.hid (B1.out.lo.trans ((FJ.out.trans hb).mono B1.out.lo.size))
      clear ho hb
      go_wp2_with fail
      go_returns
      exact ⟨va8, vc8, rfl, O9.out, L9.out⟩
end Go.Proofs.YtngomgkinaodjaaDoor
