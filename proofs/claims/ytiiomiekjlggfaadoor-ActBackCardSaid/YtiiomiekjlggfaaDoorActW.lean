/- ActBack: what was put out is read as it was; with a byte more it is too long. Conditions: the seven errors lie apart. -/
import Derived.Test.YtiiomiekjlggfaaDoorActU
import Derived.Test.YtiiomiekjlggfaaDoorBytC
namespace Go.Proofs.YtiiomiekjlggfaaDoor
open Go Go.RowKit
set_option linter.unusedVariables false
set_option maxRecDepth 20000
theorem back7 (a b c d e : Int) (h : goodO a b c d e = true) : rdC 96 7 (pF a b c d e) = 0 ∧ rdV 96 7 (pF a b c d e) = outV a b c d e := by
  have g := (goodO_is a b c d e).1 h
  have e1 : pF a b c d e 1 * 256 + pF a b c d e 2 = b := by show b / 256 * 256 + b % 256 = b; omega
  have e2 : pF a b c d e 5 * 256 + pF a b c d e 6 = e := by show e / 256 * 256 + e % 256 = e; omega
  have k : rdC 96 7 (pF a b c d e) = 0 := by
    unfold rdC
    rw [if_pos rfl, if_neg (by omega), if_neg (by omega), e1, e2]
    exact if_pos h
  refine ⟨k, ?_⟩
  unfold rdV
  rw [k, if_pos rfl, e1, e2]
  rfl
theorem pF_in (a b c d e : Int) (h : goodO a b c d e = true) : ∀ i, i < 7 → 0 ≤ pF a b c d e i ∧ pF a b c d e i < 256 := by
  have g := (goodO_is a b c d e).1 h
  intro i hi
  unfold pF
  (repeat' split) <;> omega
set_option maxHeartbeats 16000000 in
theorem walkActBack (a0 : Int) (a1 : Int) (a2 : Int) (a3 : Int) (a4 : Int) (a5 : Int) (w : World) (w0 : (Lit.int .i64 a0).wf = true) (w1 : (Lit.int .i64 a1).wf = true) (w2 : (Lit.int .i64 a2).wf = true) (w3 : (Lit.int .i64 a3).wf = true) (w4 : (Lit.int .i64 a4).wf = true) (w5 : (Lit.int .u8 a5).wf = true) (hE : ∃ E, Ers E w) :
    Calls Tryd.prog 8 #[.int .i64 a0, .int .i64 a1, .int .i64 a2, .int .i64 a3, .int .i64 a4, .int .u8 a5] w fun e w' => e = .returned (.bool true) ∧ Below w.heap.size w w' := by
  obtain ⟨E, hE⟩ := hE
  have HE := Lib.hid hE
  obtain ⟨i0, hi0, hz0, hz1, hz2⟩ := infoB
  have hmx : (1000000 : Nat) ≤ maxLen := by decide
  clear hE w0 w1 w2 w3 w4 w5
  go_enter Tryd.func8, Tryd.ntmps8
  go_wp2_with fail
  refine (actFirst _ HE.out).mono ?_
  rintro e wa ⟨rfl, hba⟩
  have HA := Lib.hid hba
  clear hba
  have n0 := m127 a0
  have n1 := m65535 a1
  have n2 := m3 a2
  have n3 := m255 a3
  have n4 := m511 a4
  have t3 : (a3 % 256).tmod 5 = a3 % 256 % 5 := Int.tmod_eq_emod_of_nonneg (by omega)
  have t4 : IntKind.i64.wrap (1 + a3 % 256 % 5) = 1 + a3 % 256 % 5 := IntWalk.i64_in _ (by omega)
  go_upto_region 5 with fail
  have g1 : goodO (a0 % 128) (a1 % 65536) (a2 % 4) (1 + a3 % 256 % 5) (a4 % 512) = true := (goodO_is _ _ _ _ _).2 (by omega)
  clear n0 n1 n2 n3 n4 t3 t4
  generalize a0 % 128 = p0 at *
  generalize a1 % 65536 = p1 at *
  generalize a4 % 512 = p4 at *
  generalize a2 % 4 = c at *
  generalize 1 + a3 % 256 % 5 = d at *
  have KP := Lib.hid fun (w : World) (h : Ers E w) => putO p0 p1 c d p4 a5 g1 w h
  have KO := Lib.hid fun (w : World) => sameOutC p0 p1 c d p4 p0 p1 c d p4 w
  rw [show ((p0 == p0) && ((p1 == p1) && ((c == c) && ((d == d) && (p4 == p4))))) = true by simp] at KO
  have KD := Lib.hid fun (x : Option Addr) (u : World) (h : Ers E u) (hb : Byt u x 7 (pF p0 p1 c d p4)) => readAll 96 a5 x 7 7 (pF p0 p1 c d p4) u h hb (pF_in _ _ _ _ _ g1)
  rw [(back7 _ _ _ _ _ g1).1, (back7 _ _ _ _ _ g1).2] at KD
  clear g1
  unfold outV at KD
  rw [show errOf E 0 = .nilIface from rfl] at KD
  have B1 := Lib.hid (Bx.new wa #[.int .i64 p0, .int .i64 p1, .int .i64 c, .int .i64 d, .int .i64 p4] 49)
  have L1 := Lib.hid (HA.out.trans (B1.out.lo.mono HA.out.size))
  clear HA
  generalize World.alloc wa _ = w1 at *
  have x0 : w1.cell? ⟨wa.heap.size, 0, none⟩ = some (.int .i64 p0) := B1.out.cell 0 rfl
  have x1 : w1.cell? ⟨wa.heap.size, 1, none⟩ = some (.int .i64 p1) := B1.out.cell 1 rfl
  have x2 : w1.cell? ⟨wa.heap.size, 2, none⟩ = some (.int .i64 c) := B1.out.cell 2 rfl
  have x3 : w1.cell? ⟨wa.heap.size, 3, none⟩ = some (.int .i64 d) := B1.out.cell 3 rfl
  have x4 : w1.cell? ⟨wa.heap.size, 4, none⟩ = some (.int .i64 p4) := B1.out.cell 4 rfl
  go_wp2_with fail
  refine (KP.out _ (HE.out.below L1.out)).mono ?_
  rintro e w2 ⟨xg, rfl, hr, hb⟩
  have B2 := Lib.hid (B1.out.below hb)
  have L2 := Lib.hid (L1.out.trans (hb.mono L1.out.size))
  have YG := Lib.hid (byt7 hr)
  have hwa := Lib.hid B2.out.size
  clear hb hr B1 L1 x0 x1 x2 x3 x4
  go_upto_region 6 with fail
  have hal := (Below.refl w2.heap.size w2).alloc (Nat.le_refl _) (.cells #[.int .u8 96, .int .u8 a5, .slice (some ⟨xg, 0, none⟩) 7 7] 24)
  have G3 := Lib.hid (Bx.new w2 #[.int .u8 96, .int .u8 a5, .slice (some ⟨xg, 0, none⟩) 7 7] 24)
  have B3 := Lib.hid (B2.out.below hal)
  have L3 := Lib.hid (L2.out.trans (hal.mono L2.out.size))
  have YG3 := Lib.hid (YG.out.below hal)
  have hs2 := Lib.hid L2.out.size
  clear hal B2 YG L2 KP
  generalize World.alloc w2 _ = w3 at *
  have f0 : w3.cell? ⟨w2.heap.size, 0, none⟩ = some (.int .u8 96) := G3.out.cell 0 rfl
  have f1 : w3.cell? ⟨w2.heap.size, 1, none⟩ = some (.int .u8 a5) := G3.out.cell 1 rfl
  have f2 : w3.cell? ⟨w2.heap.size, 2, none⟩ = some (.slice (some ⟨xg, 0, none⟩) 7 7) := G3.out.cell 2 rfl
  go_wp2_with fail
  refine (KD.out _ _ (HE.out.below L3.out) YG3.out).mono ?_
  rintro e w4 ⟨rfl, hb⟩
  have B4 := Lib.hid (B3.out.below hb)
  have G4 := Lib.hid (G3.out.below hb)
  have L4 := Lib.hid (L3.out.trans (hb.mono L3.out.size))
  have YG4 := Lib.hid (YG3.out.below hb)
  have hw4 := Lib.hid G4.out.size
  clear hb B3 G3 YG3 L3 KD f0 f1 f2
  go_upto_region 7 with fail
  have hal := (Below.refl w4.heap.size w4).alloc (Nat.le_refl _) (.cells #[.int .i64 p0, .int .i64 p1, .int .i64 c, .int .i64 d, .int .i64 p4] 49)
  have P5 := Lib.hid (Bx.new w4 #[.int .i64 p0, .int .i64 p1, .int .i64 c, .int .i64 d, .int .i64 p4] 49)
  have B5 := Lib.hid (B4.out.below hal)
  have G5 := Lib.hid (G4.out.below hal)
  have L5 := Lib.hid (L4.out.trans (hal.mono L4.out.size))
  have YG5 := Lib.hid (YG4.out.below hal)
  clear hal B4 G4 YG4 L4
  generalize World.alloc w4 _ = w5 at *
  have f2 : w5.cell? ⟨w2.heap.size, 2, none⟩ = some (.slice (some ⟨xg, 0, none⟩) 7 7) := G5.out.cell 2 rfl
  go_wp2_with fail
  refine (bytesC (ca := 7) (by omega) _ YG5.out).mono ?_
  rintro e w6 ⟨va, vc, rfl, hown, hb⟩
  have OW := Lib.hid hown
  have FB := Lib.hid hb
  clear hb hown f2
  go_upto_region 8 with (first
    | (at_builtin
       refine wpList_append_lies _ rfl _ _ 22 rfl w5.heap.size 5 i0 (.int .u8 0) 1 1 Tryd.underlying22 hi0 hz0 hz1 hz2 rfl (by decide) (.slice va 7 vc) 7 _ rfl (OW.out.alloc _) ⟨w6.heap.size, 0, none⟩ 1 1 [.int .u8 0] rfl ?hl (World.news_of_block (heap_alloc_new _ _)) ?h1 (by decide) (by omega) (by omega) (by have := FB.out.size; simp; omega) _ rfl ?_
       case hl => rfl
       case h1 => simp [Value.oneCell']
       intro g vc3 w7 hown' hgrow hat hlt
       have FB7 := (FB.out.alloc FB.out.size _).grown hgrow (by have := FB.out.size; simp; omega) (fun q hq => OW.out.lt q hq |>.1)
       have B7 := Lib.hid (B5.out.below FB7)
       have G7 := Lib.hid (G5.out.below FB7)
       have P7 := Lib.hid (P5.out.below FB7)
       have L7 := Lib.hid (L5.out.trans (FB7.mono L5.out.size))
       have f2 : w7.cell? ⟨w2.heap.size, 2, none⟩ = some (.slice (some ⟨xg, 0, none⟩) 7 7) := G7.out.cell 2 rfl
       have ff := G7.out.froz
       clear hown' hgrow hat FB7))
  have rB : (w7.setCell ⟨w2.heap.size, 2, none⟩ (.slice (some ⟨g, 0, none⟩) 8 vc3)).heap[wa.heap.size]? = some (.cells #[.int .i64 p0, .int .i64 p1, .int .i64 c, .int .i64 d, .int .i64 p4] 49 (0, 0)) := (heap_setCell_other w7 ⟨w2.heap.size, 2, none⟩ wa.heap.size _ (by have := hwa.out; simp; omega)).trans B7.out.row
  have rP : (w7.setCell ⟨w2.heap.size, 2, none⟩ (.slice (some ⟨g, 0, none⟩) 8 vc3)).heap[w4.heap.size]? = some (.cells #[.int .i64 p0, .int .i64 p1, .int .i64 c, .int .i64 d, .int .i64 p4] 49 (0, 0)) := (heap_setCell_other w7 ⟨w2.heap.size, 2, none⟩ w4.heap.size _ (by have := hw4.out; simp; omega)).trans P7.out.row
  have G8 := Lib.hid (G7.out.set 2 (.slice (some ⟨g, 0, none⟩) 8 vc3))
  have L8 := Lib.hid (L7.out.setCell (p := ⟨w2.heap.size, 2, none⟩) hs2.out (.slice (some ⟨g, 0, none⟩) 8 vc3))
  have RB8 := Lib.hid rB
  have RP8 := Lib.hid rP
  clear rB rP f2 ff B7 G7 P7 L7 hlt
  generalize World.setCell w7 _ _ = w8 at *
  have f0 : w8.cell? ⟨w2.heap.size, 0, none⟩ = some (.int .u8 96) := G8.out.cell 0 rfl
  have f1 : w8.cell? ⟨w2.heap.size, 1, none⟩ = some (.int .u8 a5) := G8.out.cell 1 rfl
  have f2 : w8.cell? ⟨w2.heap.size, 2, none⟩ = some (.slice (some ⟨g, 0, none⟩) 8 vc3) := G8.out.cell 2 rfl
  have KL := Lib.hid fun (u : World) (h : Ers E u) => rdLong 96 a5 (some ⟨g, 0, none⟩) 8 vc3 rfl (by omega) u h
  unfold outV at KL
  go_wp2_with fail
  refine (KL.out _ (HE.out.below L8.out)).mono ?_
  rintro e w9 ⟨rfl, hb⟩
  have L9 := Lib.hid (L8.out.trans (hb.mono L8.out.size))
  have G9 := Lib.hid (G8.out.below hb)
  have RB9 := Lib.hid ((hb.block _ (Array.getElem?_eq_some_iff.1 RB8.out).1).trans RB8.out)
  have RP9 := Lib.hid ((hb.block _ (Array.getElem?_eq_some_iff.1 RP8.out).1).trans RP8.out)
  clear hb L8 G8 RB8 RP8 f0 f1 f2 KL
  go_upto_region 9 with fail
  have hal := (Below.refl w9.heap.size w9).alloc (Nat.le_refl _) (.cells #[.int .i64 0, .int .i64 0, .int .i64 0, .int .i64 0, .int .i64 0] 49)
  have LA := Lib.hid (L9.out.trans (hal.mono L9.out.size))
  have GA := Lib.hid (G9.out.below hal)
  have RBA := Lib.hid ((hal.block _ (Array.getElem?_eq_some_iff.1 RB9.out).1).trans RB9.out)
  have RPA := Lib.hid ((hal.block _ (Array.getElem?_eq_some_iff.1 RP9.out).1).trans RP9.out)
  clear hal L9 G9 RB9 RP9
  generalize World.alloc w9 _ = wx at *
  have x0 : wx.cell? ⟨wa.heap.size, 0, none⟩ = some (.int .i64 p0) := (cell_of_row wx wa.heap.size 0 _ _ _ RBA.out).trans rfl
  have y0 : wx.cell? ⟨w4.heap.size, 0, none⟩ = some (.int .i64 p0) := (cell_of_row wx w4.heap.size 0 _ _ _ RPA.out).trans rfl
  have x1 : wx.cell? ⟨wa.heap.size, 1, none⟩ = some (.int .i64 p1) := (cell_of_row wx wa.heap.size 1 _ _ _ RBA.out).trans rfl
  have y1 : wx.cell? ⟨w4.heap.size, 1, none⟩ = some (.int .i64 p1) := (cell_of_row wx w4.heap.size 1 _ _ _ RPA.out).trans rfl
  have x2 : wx.cell? ⟨wa.heap.size, 2, none⟩ = some (.int .i64 c) := (cell_of_row wx wa.heap.size 2 _ _ _ RBA.out).trans rfl
  have y2 : wx.cell? ⟨w4.heap.size, 2, none⟩ = some (.int .i64 c) := (cell_of_row wx w4.heap.size 2 _ _ _ RPA.out).trans rfl
  have x3 : wx.cell? ⟨wa.heap.size, 3, none⟩ = some (.int .i64 d) := (cell_of_row wx wa.heap.size 3 _ _ _ RBA.out).trans rfl
  have y3 : wx.cell? ⟨w4.heap.size, 3, none⟩ = some (.int .i64 d) := (cell_of_row wx w4.heap.size 3 _ _ _ RPA.out).trans rfl
  have x4 : wx.cell? ⟨wa.heap.size, 4, none⟩ = some (.int .i64 p4) := (cell_of_row wx wa.heap.size 4 _ _ _ RBA.out).trans rfl
  have y4 : wx.cell? ⟨w4.heap.size, 4, none⟩ = some (.int .i64 p4) := (cell_of_row wx w4.heap.size 4 _ _ _ RPA.out).trans rfl
  have es : (a5 == a5) = true := by simp
  go_wp2_with fail
  refine (KO.out _).mono ?_
  rintro e wy ⟨rfl, hb⟩
  have LY := Lib.hid (LA.out.trans (hb.mono LA.out.size))
  have GY := Lib.hid (GA.out.below hb)
  clear hb LA GA RBA RPA x0 x1 x2 x3 x4 y0 y1 y2 y3 y4
  have f0 : wy.cell? ⟨w2.heap.size, 0, none⟩ = some (.int .u8 96) := GY.out.cell 0 rfl
  have f1 : wy.cell? ⟨w2.heap.size, 1, none⟩ = some (.int .u8 a5) := GY.out.cell 1 rfl
  go_wp2_with fail
  refine (isC (HE.out.below LY.out) (.bare 1 (by omega))).mono ?_
  rintro e wv ⟨rfl, hb⟩
  have LV := Lib.hid (LY.out.trans (hb.mono LY.out.size))
  clear hb
  go_wp2_with fail
  go_returns
  exact ⟨rfl, LV.out⟩
end Go.Proofs.YtiiomiekjlggfaaDoor
