/- What may be put out, what a frame puts out, of anything, as one answer. Conditions: the seven errors lie apart. -/
import Derived.Test.YtiiomiekjlggfaaDoorActG
import Derived.Test.YtiiomiekjlggfaaDoorActH
import Derived.Test.YtiiomiekjlggfaaDoorActI
import Derived.Test.YtiiomiekjlggfaaDoorActJ
namespace Go.Proofs.YtiiomiekjlggfaaDoor
open Go Go.RowKit
set_option linter.unusedVariables false
set_option maxRecDepth 20000
theorem add_k (x : Addr) (k : Nat) : x.add (k + 1) = ⟨x.block, x.off + (k + 1), none⟩ := by
  unfold Addr.add
  simp
theorem errOf_is {E : Nat → Addr} {w : World} (c : Int) (h : c = 0 ∨ (101 ≤ c ∧ c ≤ 107)) : ErrIs E w (errOf E c) c false 0 := by
  rcases h with rfl | h
  · exact .fine
  · have e : errOf E c = .iface 102 (.pointer (some (E (c - 101).toNat))) := by unfold errOf; rw [if_neg (by omega)]
    rw [e]
    have := ErrIs.bare (E := E) (w := w) (c - 101).toNat (by omega)
    rwa [show (101 : Int) + (((c - 101).toNat : Nat) : Int) = c by omega] at this
def pI (g : Bool) : Int := if g = true then 96 else 0
def pS (g : Bool) (s : Int) : Int := if g = true then s else 0
def pN (g : Bool) : Nat := if g = true then 7 else 0
def pC (g : Bool) : Int := if g = true then 0 else 101
def pF (a b c d e : Int) (i : Nat) : Int := if i = 0 then a else if i = 1 then b / 256 else if i = 2 then b % 256 else if i = 3 then c else if i = 4 then d else if i = 5 then e / 256 else e % 256
theorem byt7 {w : World} {B : Nat} {a b c d e : Int} {t : TypeId} (h : w.heap[B]? = some (.cells #[.int .u8 a, .int .u8 (b / 256), .int .u8 (b % 256), .int .u8 c, .int .u8 d, .int .u8 (e / 256), .int .u8 (e % 256)] t (0, 0))) :
    Byt w (some ⟨B, 0, none⟩) 7 (pF a b c d e) := by
  intro i hi
  refine ⟨_, rfl, ?_⟩
  rcases (show i = 0 ∨ i = 1 ∨ i = 2 ∨ i = 3 ∨ i = 4 ∨ i = 5 ∨ i = 6 by omega) with rfl | rfl | rfl | rfl | rfl | rfl | rfl
  · exact (cell_of_row w B 0 _ _ _ h).trans rfl
  · exact (cell_of_row w B 1 _ _ _ h).trans rfl
  · exact (cell_of_row w B 2 _ _ _ h).trans rfl
  · exact (cell_of_row w B 3 _ _ _ h).trans rfl
  · exact (cell_of_row w B 4 _ _ _ h).trans rfl
  · exact (cell_of_row w B 5 _ _ _ h).trans rfl
  · exact (cell_of_row w B 6 _ _ _ h).trans rfl
set_option maxHeartbeats 8000000 in
theorem putRB (a b c d e s : Int) (hg : goodO a b c d e = false) (w : World) :
    Calls Tryd.prog 26 #[.agg #[.int .i64 a, .int .i64 b, .int .i64 c, .int .i64 d, .int .i64 e], .int .u8 s] w fun r w' => r = .returned (.tuple #[.agg #[.int .u8 0, .int .u8 0, .slice none 0 0], .int .i64 101]) ∧ Below w.heap.size w w' := by
  have K := Lib.hid fun (w : World) => goodOutC a b c d e w
  rw [hg] at K
  clear hg
  go_enter Tryd.func26, Tryd.ntmps26
  go_upto_region 1 with fail
  have B0 := Lib.hid (Bx2.new w #[.int .i64 a, .int .i64 b, .int .i64 c, .int .i64 d, .int .i64 e] 49 #[.int .u8 0, .int .u8 0, .slice none 0 0] 24)
  generalize World.alloc (World.alloc w _) _ = W at *
  have y0 : W.cell? ⟨w.heap.size, 0, none⟩ = some (.int .i64 a) := B0.out.cell1 0 rfl
  have y1 : W.cell? ⟨w.heap.size, 1, none⟩ = some (.int .i64 b) := B0.out.cell1 1 rfl
  have y2 : W.cell? ⟨w.heap.size, 2, none⟩ = some (.int .i64 c) := B0.out.cell1 2 rfl
  have y3 : W.cell? ⟨w.heap.size, 3, none⟩ = some (.int .i64 d) := B0.out.cell1 3 rfl
  have y4 : W.cell? ⟨w.heap.size, 4, none⟩ = some (.int .i64 e) := B0.out.cell1 4 rfl
  go_wp2_with fail
  refine (K.out _).mono ?_
  rintro e w1 ⟨rfl, hb⟩
  have B1 := Lib.hid (B0.out.below hb)
  clear hb B0 y0 y1 y2 y3 y4
  have x0 : w1.cell? ⟨w.heap.size + 1, 0, none⟩ = some (.int .u8 0) := B1.out.cell2 0 rfl
  have x1 : w1.cell? ⟨w.heap.size + 1, 1, none⟩ = some (.int .u8 0) := B1.out.cell2 1 rfl
  have x2 : w1.cell? ⟨w.heap.size + 1, 2, none⟩ = some (.slice none 0 0) := B1.out.cell2 2 rfl
  have xf := B1.out.froz2
  go_wp2_with fail
  have B6 := Lib.hid (((B1.out.set2 0 (.int .u8 0)).set2 1 (.int .u8 0)).set2 2 (.slice none 0 0))
  clear x0 x1 x2 xf
  generalize World.setCell _ _ _ = W3 at *
  have q0 : W3.cell? ⟨w.heap.size + 1, 0, none⟩ = some (.int .u8 0) := B6.out.cell2 0 rfl
  have q1 : W3.cell? ⟨w.heap.size + 1, 1, none⟩ = some (.int .u8 0) := B6.out.cell2 1 rfl
  have q2 : W3.cell? ⟨w.heap.size + 1, 2, none⟩ = some (.slice none 0 0) := B6.out.cell2 2 rfl
  refine bodyPost_ret (v := .tuple #[.agg #[.int .u8 0, .int .u8 0, .slice none 0 0], .int .i64 101]) (by simp [results, Tryd.results26, go_sem, q0, q1, q2]) rfl ⟨rfl, B6.out.lo⟩
theorem putAny {E : Nat → Addr} (a b c d e s : Int) (g : Bool) (hg : goodO a b c d e = g) (w : World) (he : Ers E w) :
    Calls Tryd.prog 24 #[.agg #[.int .i64 a, .int .i64 b, .int .i64 c, .int .i64 d, .int .i64 e], .int .u8 s] w fun r w' => ∃ x, r = .returned (.tuple #[.agg #[.int .u8 (pI g), .int .u8 (pS g s), .slice x (pN g) (pN g)], errOf E (pC g)]) ∧ Byt w' x (pN g) (pF a b c d e) ∧ Below w.heap.size w w' := by
  cases g
  · exact (putBad a b c d e s (fun w h => by have K := checkC (E := E) a b c d e w h; rw [if_neg (by rw [hg]; simp)] at K; exact K) w he).mono fun r w' ⟨h1, h2⟩ => ⟨none, by rw [h1]; rfl, fun i hi => by simp [pN] at hi, h2⟩
  · exact (putO a b c d e s hg w he).mono fun r w' ⟨B, h1, h2, h3⟩ => ⟨some ⟨B, 0, none⟩, by rw [h1]; rfl, byt7 h2, h3⟩
theorem putRAny (a b c d e s : Int) (g : Bool) (hg : goodO a b c d e = g) (w : World) :
    Calls Tryd.prog 26 #[.agg #[.int .i64 a, .int .i64 b, .int .i64 c, .int .i64 d, .int .i64 e], .int .u8 s] w fun r w' => ∃ x, r = .returned (.tuple #[.agg #[.int .u8 (pI g), .int .u8 (pS g s), .slice x (pN g) (pN g)], .int .i64 (pC g)]) ∧ Byt w' x (pN g) (pF a b c d e) ∧ Below w.heap.size w w' := by
  cases g
  · exact (putRB a b c d e s hg w).mono fun r w' ⟨h1, h2⟩ => ⟨none, by rw [h1]; rfl, fun i hi => by simp [pN] at hi, h2⟩
  · exact (putOR a b c d e s hg w).mono fun r w' ⟨B, h1, h2, h3⟩ => ⟨some ⟨B, 0, none⟩, by rw [h1]; rfl, byt7 h2, h3⟩
theorem readAll {E : Nat → Addr} (id sq : Int) (a : Option Addr) (n cap : Nat) (f : Nat → Int) (w : World) (he : Ers E w) (hb : Byt w a n f) (hz : ∀ i, i < n → 0 ≤ f i ∧ f i < 256) :
    Calls Tryd.prog 27 #[.agg #[.int .u8 id, .int .u8 sq, .slice a n cap]] w fun r w' => r = .returned (.tuple #[rdV id n f, errOf E (rdC id n f)]) ∧ Below w.heap.size w w' := by
  by_cases h0 : id = 96
  · by_cases h1 : n < 7
    · have e : rdC id n f = 103 := by unfold rdC; rw [if_pos h0, if_pos h1]
      unfold rdV; rw [e, if_neg (by omega)]
      exact rdShort id sq a n cap h0 h1 w he
    · by_cases h2 : 7 < n
      · have e : rdC id n f = 102 := by unfold rdC; rw [if_pos h0, if_neg h1, if_pos h2]
        unfold rdV; rw [e, if_neg (by omega)]
        exact rdLong id sq a n cap h0 h2 w he
      · obtain rfl : n = 7 := by omega
        obtain ⟨x, rfl, c0⟩ := hb 0 (by omega)
        have ck : ∀ k, k < 7 → w.cell? (x.add k) = some (.int .u8 (f k)) := fun k hk => by obtain ⟨y, hy, c⟩ := hb k hk; cases hy; exact c
        have c1 := ck 1 (by omega)
        have c2 := ck 2 (by omega)
        have c3 := ck 3 (by omega)
        have c4 := ck 4 (by omega)
        have c5 := ck 5 (by omega)
        have c6 := ck 6 (by omega)
        rw [add_k] at c1 c2 c3 c4 c5 c6
        subst h0
        cases hg : goodO (f 0) (f 1 * 256 + f 2) (f 3) (f 4) (f 5 * 256 + f 6)
        · have e : rdC 96 7 f = 101 := by unfold rdC; rw [if_pos rfl, if_neg h1, if_neg h2, if_neg (by rw [hg]; simp)]
          unfold rdV; rw [e, if_neg (by omega)]
          exact rdSevenB w he sq x cap (f 0) (f 1) (f 2) (f 3) (f 4) (f 5) (f 6) (hz 0 (by omega)) (hz 1 (by omega)) (hz 2 (by omega)) (hz 3 (by omega)) (hz 4 (by omega)) (hz 5 (by omega)) (hz 6 (by omega)) c0 c1 c2 c3 c4 c5 c6 hg
        · have e : rdC 96 7 f = 0 := by unfold rdC; rw [if_pos rfl, if_neg h1, if_neg h2, if_pos hg]
          unfold rdV; rw [e, if_pos rfl]
          exact rdSevenG w he sq x cap (f 0) (f 1) (f 2) (f 3) (f 4) (f 5) (f 6) (hz 0 (by omega)) (hz 1 (by omega)) (hz 2 (by omega)) (hz 3 (by omega)) (hz 4 (by omega)) (hz 5 (by omega)) (hz 6 (by omega)) c0 c1 c2 c3 c4 c5 c6 hg
  · have e : rdC id n f = 101 := by unfold rdC; rw [if_neg h0]
    unfold rdV; rw [e, if_neg (by omega)]
    exact rdId id sq a n cap h0 w he
theorem readRAll (id sq : Int) (a : Option Addr) (n cap : Nat) (f : Nat → Int) (w : World) (hb : Byt w a n f) (hz : ∀ i, i < n → 0 ≤ f i ∧ f i < 256) :
    Calls Tryd.prog 28 #[.agg #[.int .u8 id, .int .u8 sq, .slice a n cap]] w fun r w' => r = .returned (.tuple #[rdV id n f, .int .i64 (rdC id n f)]) ∧ Below w.heap.size w w' := by
  by_cases h0 : id = 96
  · by_cases h1 : n < 7
    · have e : rdC id n f = 103 := by unfold rdC; rw [if_pos h0, if_pos h1]
      unfold rdV; rw [e, if_neg (by omega)]
      exact rrShort id sq a n cap h0 h1 w
    · by_cases h2 : 7 < n
      · have e : rdC id n f = 102 := by unfold rdC; rw [if_pos h0, if_neg h1, if_pos h2]
        unfold rdV; rw [e, if_neg (by omega)]
        exact rrLong id sq a n cap h0 h2 w
      · obtain rfl : n = 7 := by omega
        obtain ⟨x, rfl, c0⟩ := hb 0 (by omega)
        have ck : ∀ k, k < 7 → w.cell? (x.add k) = some (.int .u8 (f k)) := fun k hk => by obtain ⟨y, hy, c⟩ := hb k hk; cases hy; exact c
        have c1 := ck 1 (by omega)
        have c2 := ck 2 (by omega)
        have c3 := ck 3 (by omega)
        have c4 := ck 4 (by omega)
        have c5 := ck 5 (by omega)
        have c6 := ck 6 (by omega)
        rw [add_k] at c1 c2 c3 c4 c5 c6
        subst h0
        cases hg : goodO (f 0) (f 1 * 256 + f 2) (f 3) (f 4) (f 5 * 256 + f 6)
        · have e : rdC 96 7 f = 101 := by unfold rdC; rw [if_pos rfl, if_neg h1, if_neg h2, if_neg (by rw [hg]; simp)]
          unfold rdV; rw [e, if_neg (by omega)]
          exact rrSevenB w sq x cap (f 0) (f 1) (f 2) (f 3) (f 4) (f 5) (f 6) (hz 0 (by omega)) (hz 1 (by omega)) (hz 2 (by omega)) (hz 3 (by omega)) (hz 4 (by omega)) (hz 5 (by omega)) (hz 6 (by omega)) c0 c1 c2 c3 c4 c5 c6 hg
        · have e : rdC 96 7 f = 0 := by unfold rdC; rw [if_pos rfl, if_neg h1, if_neg h2, if_pos hg]
          unfold rdV; rw [e, if_pos rfl]
          exact rrSevenG w sq x cap (f 0) (f 1) (f 2) (f 3) (f 4) (f 5) (f 6) (hz 0 (by omega)) (hz 1 (by omega)) (hz 2 (by omega)) (hz 3 (by omega)) (hz 4 (by omega)) (hz 5 (by omega)) (hz 6 (by omega)) c0 c1 c2 c3 c4 c5 c6 hg
  · have e : rdC id n f = 101 := by unfold rdC; rw [if_neg h0]
    unfold rdV; rw [e, if_neg (by omega)]
    exact rrId id sq a n cap h0 w
theorem rdC_in (id : Int) (n : Nat) (f : Nat → Int) : rdC id n f = 0 ∨ (101 ≤ rdC id n f ∧ rdC id n f ≤ 107) := by
  unfold rdC
  (repeat' split) <;> omega
theorem rdV_is (id : Int) (n : Nat) (f : Nat → Int) : ∃ a b c d e, rdV id n f = outV a b c d e := by
  unfold rdV
  split
  · exact ⟨_, _, _, _, _, rfl⟩
  · exact ⟨_, _, _, _, _, rfl⟩
theorem pC_in (g : Bool) : pC g = 0 ∨ (101 ≤ pC g ∧ pC g ≤ 107) := by cases g <;> decide
theorem sameB_self (n : Nat) (f : Nat → Int) : sameB n n f f = true := by unfold sameB; simp
end Go.Proofs.YtiiomiekjlggfaaDoor
