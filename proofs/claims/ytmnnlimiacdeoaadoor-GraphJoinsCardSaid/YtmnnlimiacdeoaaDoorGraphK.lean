/- One contactor more joins its ends and parts nobody: asked of each mask. No condition. -/
import Derived.Test.YtmnnlimiacdeoaaDoorGraphS
namespace Go.Proofs.YtmnnlimiacdeoaaDoor
theorem joins7 : ∀ x : Fin 128, ∀ c : Fin 7, (rch ((BitVec.ofFin x : BitVec 7) ||| bitOf c.val) (eA c.val)).getLsbD (eB c.val) = true ∧
    prt ((BitVec.ofFin x : BitVec 7) ||| bitOf c.val) = (if (rch (BitVec.ofFin x : BitVec 7) (eA c.val)).getLsbD (eB c.val) then prt (BitVec.ofFin x : BitVec 7) else prt (BitVec.ofFin x : BitVec 7) - 1) ∧
    (jnd (BitVec.ofFin x : BitVec 7) = true → jnd ((BitVec.ofFin x : BitVec 7) ||| bitOf c.val) = true) := by decide +kernel
theorem more7 : ∀ x : Fin 128, ∀ c : Fin 7, ∀ n : Fin 7, rch (BitVec.ofFin x : BitVec 7) n.val &&& ~~~ rch ((BitVec.ofFin x : BitVec 7) ||| bitOf c.val) n.val = 0 := by decide +kernel
theorem both7 : ∀ x : Fin 128, ∀ n : Fin 7, (rch (BitVec.ofFin x : BitVec 7) n.val).getLsbD n.val = true ∧ ∀ y : Fin 7, (rch (BitVec.ofFin x : BitVec 7) n.val).getLsbD y.val = (rch (BitVec.ofFin x : BitVec 7) y.val).getLsbD n.val := by decide +kernel
theorem prt_big7 : ∀ x : Fin 128, 1 ≤ prt (BitVec.ofFin x : BitVec 7) ∧ prt (BitVec.ofFin x : BitVec 7) ≤ 7 := by decide +kernel
theorem ends7 : ∀ c : Fin 7, eA c.val < 7 ∧ eB c.val < 7 := by decide +kernel
end Go.Proofs.YtmnnlimiacdeoaaDoor
