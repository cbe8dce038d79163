/- What cells' flags are, by plain definitions. Conditions: each cell's volts are from 0 to 6000. -/
import Derived.Test.YtomjhoaffbjkgaaCellV
import Derived.Test.YtomjhoaffbjkgaaCfg
import Derived.OwnWalk
import Derived.Laws.OwnMore
import Derived.Maps.AppendAt
import Derived.Deep.AppendLies
namespace Go.Proofs.Ytomjhoaffbjkgaa
open Go.RowKit
set_option linter.unusedVariables false
def cellsA (v : Nat → Int) (f : Nat → Bool) : Array Value := #[.int .i64 (v 0), .bool (f 0), .int .i64 (v 1), .bool (f 1), .int .i64 (v 2), .bool (f 2), .int .i64 (v 3), .bool (f 3)]
theorem boxes3 {w : World} {A B C : Array Value} {s t u : TypeId} {W : World} (h : ((w.alloc (.cells A s)).alloc (.cells B t)).alloc (.cells C u) = W) :
    W.heap[w.heap.size]? = some (.cells A s (0, 0)) ∧ W.heap[w.heap.size + 1]? = some (.cells B t (0, 0)) ∧ W.heap[w.heap.size + 2]? = some (.cells C u (0, 0)) ∧ Below w.heap.size w W ∧ W.heap.size = w.heap.size + 3 := by
  subst h
  have b1 := (Below.refl (w.heap.size + 1) (w.alloc (.cells A s))).alloc (by simp) (.cells B t)
  have b2 := (Below.refl (w.heap.size + 2) ((w.alloc (.cells A s)).alloc (.cells B t))).alloc (by simp) (.cells C u)
  refine ⟨?_, ?_, ?_, (((Below.refl _ w).alloc (Nat.le_refl _) _).alloc (by simp) _).alloc (by simp; omega) _, by simp⟩
  · rw [b2.block _ (by omega), b1.block _ (by omega)]; exact heap_alloc_new _ _
  · rw [b2.block _ (by omega)]; exact heap_alloc2_new _ _ _
  · have := heap_alloc_new ((w.alloc (.cells A s)).alloc (.cells B t)) (.cells C u)
    simpa using this
theorem i64I : (Try.prog.info? 2).map (fun i => (i.zero, i.size, i.bytes)) = some (some (.int .i64 0), 1, 8) := by kernel_rfl
theorem volts_succ (v : Nat → Int) (f : Nat → Bool) (k : Nat) : volts v f (k + 1) = if f k = true then volts v f k ++ [v k] else volts v f k := rfl
theorem fl_or8 (u o g : Bool) : bits .or .i64 (fl u o g false false) 8 = fl u o g true false := by
  cases u <;> cases o <;> cases g <;> rfl
theorem fl_or16 (u o g h : Bool) : bits .or .i64 (fl u o g h false) 16 = fl u o g h true := by
  cases u <;> cases o <;> cases g <;> cases h <;> rfl
set_option maxHeartbeats 4000000 in
theorem flagsC (A : Array Value) (mn mx gp tm : Int) (h11 : A[11]? = some (.int .i64 mn)) (h12 : A[12]? = some (.int .i64 mx)) (h13 : A[13]? = some (.int .i64 gp)) (h14 : A[14]? = some (.int .i64 tm)) (hsz : A.size = 27)
    (v : Nat → Int) (f : Nat → Bool) (hv : ∀ i, i < 4 → 0 ≤ v i ∧ v i ≤ 6000) (tv : Int) (tf : Bool) (w : World) :
    Calls Try.prog 24 #[.agg A, .agg (cellsA v f), .agg #[.int .i64 tv, .bool tf]] w fun e w' => e = .returned (.int .i64 (flagsL mn mx gp tm (volts v f 4) tv tf)) ∧ Below w.heap.size w w' := by
  obtain ⟨i0, hi0, hz0, hz1, hz2⟩ := info_parts i64I
  have HV := Lib.hid hv
  clear hv
  go_enter Try.func24, Try.ntmps24
  go_upto_region 2 with fail
  generalize hW : World.alloc (World.alloc (World.alloc w _) _) _ = W0
  obtain ⟨r0, r1, r2, hb0, hs0⟩ := boxes3 hW
  clear hW
  have c14 : W0.cell? ⟨w.heap.size, 14, none⟩ = some (.int .i64 tm) := (cell_of_row W0 _ 14 _ _ _ r0).trans h14
  have R0 := Lib.hid r0
  have R1 := Lib.hid r1
  have R2 := Lib.hid r2
  have HB := Lib.hid hb0
  clear r0 r1 r2 hb0 c14
  have e11 := Lib.hid h11
  have e12 := Lib.hid h12
  have e13 := Lib.hid h13
  have e14 := Lib.hid h14
  have esz := Lib.hid hsz
  clear h11 h12 h13 h14 hsz
  have hs := Nat.le_of_eq hs0.symm
  clear hs0
  go_wp2_with (refine wpList_load_row rfl 51 _ rfl (w.heap.size + 1) rfl 51 _ (0, 0) _ R1.out Try.underlying51 rfl (by kernel_rfl) ?_)
  go_loopw [7, 12] (fun s i wr => ∃ k : Nat, k ≤ 4 ∧ i = .int .i64 k ∧ wr.ownsRow (w.heap.size + 3) 2 1 s (volts v f k).length ((volts v f k).map (Value.int .i64)) ∧ wr.heap[w.heap.size]? = some (.cells A 34 (0, 0)) ∧ wr.heap[w.heap.size + 2]? = some (.cells #[.int .i64 tv, .bool tf] 50 (0, 0)) ∧ Below w.heap.size w wr) (fun _ i _ => 4 - (intOf i).toNat)
  case atStart => exact ⟨0, by omega, rfl, ⟨rfl, .inl ⟨rfl, rfl⟩⟩, R0.out, R2.out, HB.out⟩
  case round =>
    obtain ⟨k, hk, rfl, hown, g0, g2, hb⟩ := hrel
    have FW := Lib.hid hown
    have F0 := Lib.hid g0
    have F2 := Lib.hid g2
    have FB := Lib.hid hb
    clear hown g0 g2 hb
    have bs : w.heap.size + 3 ≤ wr.heap.size := by have := (Array.getElem?_eq_some_iff.1 F2.out).1; omega
    unfold cellsA
    by_cases hlt : k < 4
    · have hx : ∀ w : World, (Instr.index 51 (.agg #[.int .i64 (v 0), .bool (f 0), .int .i64 (v 1), .bool (f 1), .int .i64 (v 2), .bool (f 2), .int .i64 (v 3), .bool (f 3)]) (.int .i64 k)).run Try.prog w = .ok (.agg #[.int .i64 (v k), .bool (f k)]) w := by
        intro w
        obtain rfl | rfl | rfl | rfl : k = 0 ∨ k = 1 ∨ k = 2 ∨ k = 3 := by omega
        all_goals kernel_rfl
      obtain ⟨fk, hfk⟩ : ∃ b, f k = b := ⟨_, rfl⟩
      rw [hfk] at hx
      have HF := Lib.hid hfk
      clear hfk
      cases fk
      · go_wp2_with fail
        go_roundw
        case rel =>
          have hk1 : volts v f (k + 1) = volts v f k := by rw [volts_succ, HF.out]; rfl
          have al := (Below.refl wr.heap.size wr).alloc (Nat.le_refl _) (.cells #[.int .i64 (v k), .bool false] 50)
          exact ⟨k + 1, by omega, by go_num, by rw [hk1]; exact FW.out.alloc _, (al.block _ (by omega)).trans F0.out, (al.block _ (by omega)).trans F2.out, FB.out.trans (al.mono FB.out.size)⟩
        case measure => simp [intOf]; omega
      · have hvl := Lib.hid (show (volts v f k).length ≤ 3 by have := volts_len v f k; omega)
        have hk1 := Lib.hid (show volts v f (k + 1) = volts v f k ++ [v k] by rw [volts_succ, HF.out]; rfl)
        go_upto_region 6 with fail
        generalize hW : World.alloc wr _ = W6
        obtain ⟨x0, x1, x2, x3, x4, x5⟩ : W6.cell? ⟨wr.heap.size, 0, none⟩ = some (.int .i64 (v k)) ∧ Hid (W6.ownsRow (w.heap.size + 3) 2 1 u7 (volts v f k).length ((volts v f k).map (Value.int .i64))) ∧ Hid (W6.heap[w.heap.size]? = some (.cells A 34 (0, 0))) ∧ Hid (W6.heap[w.heap.size + 2]? = some (.cells #[.int .i64 tv, .bool tf] 50 (0, 0))) ∧ Hid (Below w.heap.size w W6) ∧ w.heap.size + 3 ≤ W6.heap.size := by
          rw [← hW]
          have al := (Below.refl wr.heap.size wr).alloc (Nat.le_refl _) (.cells #[.int .i64 (v k), .bool true] 50)
          exact ⟨cell_of_row _ _ 0 _ _ _ (heap_alloc_new _ _), Lib.hid (FW.out.alloc _), Lib.hid ((al.block _ (by omega)).trans F0.out), Lib.hid ((al.block _ (by omega)).trans F2.out), Lib.hid (FB.out.trans (al.mono FB.out.size)), by simp; omega⟩
        clear hW FW F0 F2 FB
        have hne : ∀ j, j < w.heap.size + 3 → some j ≠ u7.ownBlock := fun j hj e => by have := (x1.out.lt j e.symm).1; omega
        have HN := Lib.hid hne
        clear hne
        go_wp2_with (at_builtin
                     refine wpList_append_lies _ rfl _ _ 64 rfl (w.heap.size + 3) 2 i0 (.int .i64 0) 1 8 Try.underlying64 hi0 hz0 hz1 hz2 rfl (by decide) u7 _ _ rfl (x1.out.alloc _) ⟨W6.heap.size, 0, none⟩ 1 1 _ rfl ?hl (World.news_of_block (heap_alloc_new _ _)) ?h1 (by decide) (by have := hvl.out; unfold maxLen; omega) (by have := hvl.out; omega) (by simp; omega) _ rfl ?_
                     case hl => rfl
                     case h1 => simp [Value.oneCell']
                     intro g cap w3 hown' hgrow hat hlt'
                     have al := (Below.refl W6.heap.size W6).alloc (Nat.le_refl _) (.cells #[.int .i64 (v k)] 2)
                     have G0 := Lib.hid ((hgrow.block _ (by simp; omega) (HN.out _ (by omega))).trans ((al.block _ (by omega)).trans x2.out))
                     have G2 := Lib.hid ((hgrow.block _ (by simp; omega) (HN.out _ (by omega))).trans ((al.block _ (by omega)).trans x3.out))
                     have G4 := Lib.hid hown'
                     have G5 := Lib.hid ((x4.out.alloc x4.out.size _).grown hgrow (by simp; omega) (fun q hq => Nat.le_trans (by omega) (x1.out.lt q hq).1))
                     clear hown' hgrow hat al hlt')
        go_roundw
        case rel => exact ⟨k + 1, by omega, by go_num, by rw [hk1.out, List.map_append, List.length_append]; exact G4.out, G0.out, G2.out, G5.out⟩
        case measure => simp [intOf]; omega
    · obtain rfl : k = 4 := by omega
      have g0 := F0.out
      have g2 := F2.out
      have c14 : wr.cell? ⟨w.heap.size, 14, none⟩ = some (.int .i64 tm) := (cell_of_row wr _ 14 _ _ _ g0).trans e14.out
      have d0 : wr.cell? ⟨w.heap.size + 2, 0, none⟩ = some (.int .i64 tv) := cell_of_row wr _ 0 _ _ _ g2
      have d1 : wr.cell? ⟨w.heap.size + 2, 1, none⟩ = some (.bool tf) := cell_of_row wr _ 1 _ _ _ g2
      clear g0 g2
      have VM := Lib.hid (volts_mem v f (fun z => 0 ≤ z ∧ z ≤ 6000) 4 HV.out)
      obtain ⟨L, hL⟩ : ∃ L, volts v f 4 = L := ⟨_, rfl⟩
      have hle := volts_len v f 4
      rw [hL] at FW VM hle
      have HL := Lib.hid hL
      clear hL
      by_cases hemp : L = []
      · obtain ⟨oa, c, rfl⟩ : ∃ oa c, u7 = .slice oa 0 c := by
          rcases FW.out.2 with ⟨h, _⟩ | ⟨g, cap, cur, h, _⟩
          · exact ⟨_, _, h⟩
          · rw [hemp] at h; exact ⟨_, _, h⟩
        clear FW
        have HE := Lib.hid hemp
        clear hemp
        by_cases ht : tm < tv <;> cases tf
        all_goals
          go_wp2_with fail
          go_ret
          refine ⟨ret_i64 ?_, FB.out⟩
          unfold flagsL
          rw [HL.out, HE.out]
          first
          | rw [decide_eq_true (show true = true ∧ tm < tv from ⟨rfl, by omega⟩)]; rfl
          | rw [decide_eq_false (show ¬ (true = true ∧ tm < tv) by omega)]; rfl
          | rfl
      · obtain ⟨g, cap, rfl⟩ : ∃ g cap, u7 = .slice (some ⟨g, 0, none⟩) L.length cap := by
          rcases FW.out.2 with ⟨_, h⟩ | ⟨g, cap, cur, h, _⟩
          · exact absurd (List.eq_nil_of_length_eq_zero h) hemp
          · exact ⟨_, _, h⟩
        have hpos : 0 < L.length := Nat.pos_of_ne_zero fun h => hemp (List.eq_nil_of_length_eq_zero h)
        have HC := Lib.hid (show ∀ i, i < L.length → wr.cell? ⟨g, i, none⟩ = some (.int .i64 (L.getD i 0)) from fun i hi => by
          rw [FW.out.cellAt i (by omega)]; simp [List.getD, hi])
        have KV := Lib.hid fun (w : World) hc => voltC A mn mx gp e11.out e12.out e13.out g L.length cap L rfl hpos hle VM.out w hc
        clear FW hemp VM
        obtain ⟨n, hn⟩ : ∃ n, L.length = n := ⟨_, rfl⟩
        rw [hn] at KV HC hpos hle
        rw [hn]
        have HN := Lib.hid hn
        clear hn
        by_cases ht : tm < tv <;> cases tf <;> by_cases h3 : n < 3
        all_goals
          go_wp2_with (refine wpList_load_row rfl 34 _ rfl w.heap.size rfl 34 A (0, 0) _ F0.out Try.underlying34 rfl (by rw [esz.out]; kernel_rfl) ?_)
          refine (KV.out _ HC.out).mono ?_
          rintro e w4 ⟨rfl, hb4⟩
          have c14' := below_cell hb4 c14
          have d0' := below_cell hb4 d0
          have d1' := below_cell hb4 d1
          have HB4 := Lib.hid (FB.out.trans (hb4.mono FB.out.size))
          clear hb4 c14 d0 d1
          go_wp2_with fail
          go_ret
          refine ⟨ret_i64 ?_, HB4.out⟩
          unfold flagsL
          rw [HL.out, HN.out]
          unfold vflags
          (try rw [fl_or8])
          (try rw [fl_or16])
          congr 1
          all_goals (simp <;> omega)
end Go.Proofs.Ytomjhoaffbjkgaa
