/- SpanSays returns true whatever its arguments. Conditions: the arguments are numbers of 64 bits. -/
import Derived.Test.YtfbcceafgmamjaaSpanSays
namespace Go.Proofs.Ytfbcceafgmamjaa
open Go.RowKit
set_option maxHeartbeats 1000000 in
theorem walkSpanSays (a b c d k x : Int) (w0 : (Lit.int .i64 a).wf = true) (w1 : (Lit.int .i64 b).wf = true) (w2 : (Lit.int .i64 c).wf = true) (w3 : (Lit.int .i64 d).wf = true) (w4 : (Lit.int .i64 k).wf = true) (_w5 : (Lit.int .i64 x).wf = true) (w : World) :
    Calls Try.prog 8 #[.int .i64 a, .int .i64 b, .int .i64 c, .int .i64 d, .int .i64 k, .int .i64 x] w fun e w' => e = .returned (.bool true) ∧ Below w.heap.size w w' := by
  have ha := i64_of w0
  have hb := i64_of w1
  have hc := i64_of w2
  have hd := i64_of w3
  have hk := i64_of w4
  have hpl : I64 (min a b) := by unfold I64 at *; omega
  have hph : I64 (max a b) := by unfold I64 at *; omega
  have hql : I64 (min c d) := by unfold I64 at *; omega
  have hqh : I64 (max c d) := by unfold I64 at *; omega
  have go : ∀ (ml mh : Int) (isv : Bool), (∀ w : World, Calls Try.prog 26 #[.agg #[.int .i64 (min a b), .int .i64 (max a b)], .agg #[.int .i64 (min c d), .int .i64 (max c d)]] w fun e w' => e = .returned (.tuple #[.agg #[.int .i64 ml, .int .i64 mh], .bool isv]) ∧ Below w.heap.size w w') → (∀ w : World, Calls Try.prog 27 #[.agg #[.int .i64 (min a b), .int .i64 (max a b)], .agg #[.int .i64 (min c d), .int .i64 (max c d)]] w fun e w' => e = .returned (.tuple #[.agg #[.int .i64 ml, .int .i64 mh], .bool isv]) ∧ Below w.heap.size w w') → Calls Try.prog 8 #[.int .i64 a, .int .i64 b, .int .i64 c, .int .i64 d, .int .i64 k, .int .i64 x] w fun e w' => e = .returned (.bool true) ∧ Below w.heap.size w w' := by
    intro ml mh isv m1 m2
    exact spanSaysW a b c d k x (min a b) (max a b) (min c d) (max c d) ml mh (sat (min a b + min c d)) (sat (max a b + max c d)) (sat (min a b - max c d)) (sat (max a b - min c d)) (min (sat (min a b * k)) (sat (max a b * k))) (max (sat (min a b * k)) (sat (max a b * k))) (downI (min a b) k) (upI (max a b) k) (min (min a b) (min c d)) (max (max a b) (max c d)) (sat (min a b - max k 0)) (sat (max a b + max k 0)) (clampI (min a b) c d) (clampI (max a b) c d) isv (hasB (min a b) (max a b) x) (inB (min a b) (max a b) (min c d) (max c d))
      (Lib.hid fun w => refOf a b w) (Lib.hid fun w => refOf c d w) (Lib.hid m1) (Lib.hid m2) (Lib.hid fun a b w => sameEq a b w) (Lib.hid fun w => spanOf a b w)
      (Lib.hid fun w => spanAdd _ _ _ _ hpl hph hql hqh w) (Lib.hid fun w => refAddSpan _ _ _ _ hpl hph hql hqh w) (Lib.hid fun w => spanSub _ _ _ _ hpl hph hql hqh w) (Lib.hid fun w => refSubSpan _ _ _ _ hpl hph hql hqh w)
      (Lib.hid fun w => spanScale _ _ _ hpl hph hk w) (Lib.hid fun w => refScale _ _ _ hpl hph hk w) (Lib.hid fun w => spanShrink _ _ _ hpl hph w) (Lib.hid fun w => refShrink _ _ _ hpl hph w)
      (Lib.hid fun w => spanHull _ _ _ _ w) (Lib.hid fun w => refHull _ _ _ _ w) (Lib.hid fun w => spanWiden _ _ _ hpl hph hk w) (Lib.hid fun w => refWiden _ _ _ hpl hph hk w)
      (Lib.hid fun w => spanHas _ _ _ w) (Lib.hid fun w => refHas _ _ _ w) (Lib.hid fun w => spanIn _ _ _ _ w) (Lib.hid fun w => refIn _ _ _ _ w) (Lib.hid fun w => spanClamp _ _ _ _ w) (Lib.hid fun w => refClampSpan _ _ _ _ w) w
  by_cases hm : max (min a b) (min c d) ≤ min (max a b) (max c d)
  · exact go _ _ true (fun w => spanMeetYes _ _ _ _ hm w) (fun w => refMeetYes _ _ _ _ hm w)
  · exact go _ _ false (fun w => spanMeetNo _ _ _ _ (by omega) w) (fun w => refMeetNo _ _ _ _ (by omega) w)
end Go.Proofs.Ytfbcceafgmamjaa
