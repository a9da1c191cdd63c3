/- The reference: made. -/
import Derived.Test.YthcgcmmkajjhhaaDoorRatO
namespace Go.Proofs.YthcgcmmkajjhhaaDoor
open Go.RowKit

set_option maxHeartbeats 400000 in
theorem made_c (s : Bool) (a b : Int) (ha : 0 ≤ a ∧ a ≤ 18446744073709551615) (hb : 0 ≤ b ∧ b ≤ 18446744073709551615) (w : World) :
    Calls Tryd.prog 41 #[.bool s, .int .u64 a, .int .u64 b] w fun e w' => e = .returned (.tuple #[.agg #[.int .i64 (RM.madeS s a b).1, .int .i64 (RM.madeS s a b).2.1], .int .i64 (RM.madeS s a b).2.2]) ∧ Below w.heap.size w w' := by
  by_cases r1 : a ≤ 9223372036854775807
  · by_cases r2 : b ≤ 9223372036854775807
    · cases s
      · have HE := Lib.hid (RM.madeS_pos a b r1 r2)
        go_enter Tryd.func41, Tryd.ntmps41
        go_wp2
        refine bodyPost_ret (v := .tuple #[.agg #[.int .i64 a, .int .i64 b], .int .i64 0]) (by simp [results, Tryd.results41, go_sem]) rfl ⟨ret_rat HE.out, ?_⟩
        (repeat' (first | (with_reducible exact Below.refl _ _) | (with_reducible refine Below.alloc ?_ ?_ _) | (with_reducible refine below_drewN' ?_ _) | (with_reducible refine Below.drew ?_) | (with_reducible refine Below.setCell ?_ ?_ _) | (with_reducible refine Below.trans ?_ (Below.mono (by with_reducible assumption) ?_)) | go_size))

      · have HE := Lib.hid (RM.madeS_neg a b r1 r2)
        go_enter Tryd.func41, Tryd.ntmps41
        go_wp2
        refine bodyPost_ret (v := .tuple #[.agg #[.int .i64 (-a), .int .i64 b], .int .i64 0]) (by simp [results, Tryd.results41, go_sem]) rfl ⟨ret_rat HE.out, ?_⟩
        (repeat' (first | (with_reducible exact Below.refl _ _) | (with_reducible refine Below.alloc ?_ ?_ _) | (with_reducible refine below_drewN' ?_ _) | (with_reducible refine Below.drew ?_) | (with_reducible refine Below.setCell ?_ ?_ _) | (with_reducible refine Below.trans ?_ (Below.mono (by with_reducible assumption) ?_)) | go_size))

    · have HE := Lib.hid (RM.madeS_range s a b (by omega))
      go_enter Tryd.func41, Tryd.ntmps41
      go_wp2
      refine bodyPost_ret (v := .tuple #[.agg #[.int .i64 0, .int .i64 0], .int .i64 2]) (by simp [results, Tryd.results41, go_sem]) rfl ⟨ret_rat HE.out, ?_⟩
      (repeat' (first | (with_reducible exact Below.refl _ _) | (with_reducible refine Below.alloc ?_ ?_ _) | (with_reducible refine below_drewN' ?_ _) | (with_reducible refine Below.drew ?_) | (with_reducible refine Below.setCell ?_ ?_ _) | (with_reducible refine Below.trans ?_ (Below.mono (by with_reducible assumption) ?_)) | go_size))

  · have HE := Lib.hid (RM.madeS_range s a b (by omega))
    go_enter Tryd.func41, Tryd.ntmps41
    go_wp2
    refine bodyPost_ret (v := .tuple #[.agg #[.int .i64 0, .int .i64 0], .int .i64 2]) (by simp [results, Tryd.results41, go_sem]) rfl ⟨ret_rat HE.out, ?_⟩
    (repeat' (first | (with_reducible exact Below.refl _ _) | (with_reducible refine Below.alloc ?_ ?_ _) | (with_reducible refine below_drewN' ?_ _) | (with_reducible refine Below.drew ?_) | (with_reducible refine Below.setCell ?_ ?_ _) | (with_reducible refine Below.trans ?_ (Below.mono (by with_reducible assumption) ?_)) | go_size))


end Go.Proofs.YthcgcmmkajjhhaaDoor
