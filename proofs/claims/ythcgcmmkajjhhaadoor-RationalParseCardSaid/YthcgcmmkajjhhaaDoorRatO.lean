/- Of, on both sides; awake. -/
import Derived.Test.YthcgcmmkajjhhaaDoorRatV
import Derived.Handy
import Derived.Deep.RegionWith
import Derived.Deep.RegionHeld3
namespace Go.Proofs.YthcgcmmkajjhhaaDoor
open Go.RowKit

theorem ret_rat {a b c : Int} {s : Int × Int × Int} (h : s = (a, b, c)) :
    Ending.returned (.tuple #[.agg #[.int .i64 a, .int .i64 b], .int .i64 c]) = .returned (.tuple #[.agg #[.int .i64 s.1, .int .i64 s.2.1], .int .i64 s.2.2]) := by rw [h]

set_option linter.unusedSimpArgs false in
set_option maxHeartbeats 1000000 in
theorem of_c (n d : Int) (hn : -9223372036854775808 ≤ n ∧ n ≤ 9223372036854775807) (hd : -9223372036854775808 ≤ d ∧ d ≤ 9223372036854775807) (w : World) :
    Calls Tryd.prog 33 #[.int .i64 n, .int .i64 d] w fun e w' => e = .returned (.tuple #[.agg #[.int .i64 (RM.ofS n d).1, .int .i64 (RM.ofS n d).2.1], .int .i64 (RM.ofS n d).2.2]) ∧ Below w.heap.size w w' := by
  by_cases hz : d = 0
  · have HE := Lib.hid (RM.ofS_arg n)
    subst hz
    go_enter Tryd.func33, Tryd.ntmps33
    go_wp2
    refine bodyPost_ret (v := .tuple #[.agg #[.int .i64 0, .int .i64 0], .int .i64 1]) (by simp [results, Tryd.results33, go_sem]) rfl ⟨ret_rat HE.out, ?_⟩
    exact (Below.refl _ _).alloc (Nat.le_refl _) _
  · have hf := RM.gcd_facts n d hz
    obtain ⟨f1, f2, f3, f4, f5, f6⟩ := hf
    by_cases r1 : (n.natAbs : Int) / ((Nat.gcd n.natAbs d.natAbs : Nat) : Int) ≤ 9223372036854775807
    · by_cases r2 : (d.natAbs : Int) / ((Nat.gcd n.natAbs d.natAbs : Nat) : Int) ≤ 9223372036854775807
      · by_cases s1 : n < 0
        · by_cases s2 : d < 0
          · have HE := Lib.hid (RM.ofS_same n d hz (by omega) r1 r2)
            go_enter Tryd.func33, Tryd.ntmps33
            go_wp2_with (first | (go_at_call 53; refine (mag_c _ (by omega) _).mono ?_; rintro e w' ⟨rfl, rfl⟩) | (go_at_call 52; refine (gcd_c _ _ (by omega) (by omega) _).mono ?_; rintro e w' ⟨rfl, nq, rfl⟩))
            go_quiet ((go_at_call 53; exact calls_again (mag_c _ (by omega) _)))
            go_wp2
            refine bodyPost_ret (v := .tuple #[.agg #[.int .i64 ((n.natAbs : Int) / ((Nat.gcd n.natAbs d.natAbs : Nat) : Int)), .int .i64 ((d.natAbs : Int) / ((Nat.gcd n.natAbs d.natAbs : Nat) : Int))], .int .i64 0]) (by simp [results, Tryd.results33, go_sem]) rfl ⟨ret_rat HE.out, ?_⟩
            (repeat' (first | (with_reducible exact Below.refl _ _) | (with_reducible refine Below.alloc ?_ ?_ _) | (with_reducible refine below_drewN' ?_ _) | (with_reducible refine Below.drew ?_) | (with_reducible refine Below.setCell ?_ ?_ _) | (with_reducible refine Below.trans ?_ (Below.mono (by with_reducible assumption) ?_)) | go_size))

          · have HE := Lib.hid (RM.ofS_other n d hz (by omega) r1 r2)
            have s2' : decide (d < 0) = false := by simpa using s2
            go_enter Tryd.func33, Tryd.ntmps33
            go_wp2_with (first | (go_at_call 53; refine (mag_c _ (by omega) _).mono ?_; rintro e w' ⟨rfl, rfl⟩) | (go_at_call 52; refine (gcd_c _ _ (by omega) (by omega) _).mono ?_; rintro e w' ⟨rfl, nq, rfl⟩))
            go_quiet ((go_at_call 53; exact calls_again (mag_c _ (by omega) _)))
            go_wp2
            refine bodyPost_ret (v := .tuple #[.agg #[.int .i64 (-((n.natAbs : Int) / ((Nat.gcd n.natAbs d.natAbs : Nat) : Int))), .int .i64 ((d.natAbs : Int) / ((Nat.gcd n.natAbs d.natAbs : Nat) : Int))], .int .i64 0]) (by simp [results, Tryd.results33, go_sem]) rfl ⟨ret_rat HE.out, ?_⟩
            (repeat' (first | (with_reducible exact Below.refl _ _) | (with_reducible refine Below.alloc ?_ ?_ _) | (with_reducible refine below_drewN' ?_ _) | (with_reducible refine Below.drew ?_) | (with_reducible refine Below.setCell ?_ ?_ _) | (with_reducible refine Below.trans ?_ (Below.mono (by with_reducible assumption) ?_)) | go_size))

        · by_cases s2 : d < 0
          · have HE := Lib.hid (RM.ofS_other n d hz (by omega) r1 r2)
            have s1' : decide (n < 0) = false := by simpa using s1
            go_enter Tryd.func33, Tryd.ntmps33
            go_wp2_with (first | (go_at_call 53; refine (mag_c _ (by omega) _).mono ?_; rintro e w' ⟨rfl, rfl⟩) | (go_at_call 52; refine (gcd_c _ _ (by omega) (by omega) _).mono ?_; rintro e w' ⟨rfl, nq, rfl⟩))
            go_quiet ((go_at_call 53; exact calls_again (mag_c _ (by omega) _)))
            go_wp2
            refine bodyPost_ret (v := .tuple #[.agg #[.int .i64 (-((n.natAbs : Int) / ((Nat.gcd n.natAbs d.natAbs : Nat) : Int))), .int .i64 ((d.natAbs : Int) / ((Nat.gcd n.natAbs d.natAbs : Nat) : Int))], .int .i64 0]) (by simp [results, Tryd.results33, go_sem]) rfl ⟨ret_rat HE.out, ?_⟩
            (repeat' (first | (with_reducible exact Below.refl _ _) | (with_reducible refine Below.alloc ?_ ?_ _) | (with_reducible refine below_drewN' ?_ _) | (with_reducible refine Below.drew ?_) | (with_reducible refine Below.setCell ?_ ?_ _) | (with_reducible refine Below.trans ?_ (Below.mono (by with_reducible assumption) ?_)) | go_size))

          · have HE := Lib.hid (RM.ofS_same n d hz (by omega) r1 r2)
            have s1' : decide (n < 0) = false := by simpa using s1
            have s2' : decide (d < 0) = false := by simpa using s2
            go_enter Tryd.func33, Tryd.ntmps33
            go_wp2_with (first | (go_at_call 53; refine (mag_c _ (by omega) _).mono ?_; rintro e w' ⟨rfl, rfl⟩) | (go_at_call 52; refine (gcd_c _ _ (by omega) (by omega) _).mono ?_; rintro e w' ⟨rfl, nq, rfl⟩))
            go_quiet ((go_at_call 53; exact calls_again (mag_c _ (by omega) _)))
            go_wp2
            refine bodyPost_ret (v := .tuple #[.agg #[.int .i64 ((n.natAbs : Int) / ((Nat.gcd n.natAbs d.natAbs : Nat) : Int)), .int .i64 ((d.natAbs : Int) / ((Nat.gcd n.natAbs d.natAbs : Nat) : Int))], .int .i64 0]) (by simp [results, Tryd.results33, go_sem]) rfl ⟨ret_rat HE.out, ?_⟩
            (repeat' (first | (with_reducible exact Below.refl _ _) | (with_reducible refine Below.alloc ?_ ?_ _) | (with_reducible refine below_drewN' ?_ _) | (with_reducible refine Below.drew ?_) | (with_reducible refine Below.setCell ?_ ?_ _) | (with_reducible refine Below.trans ?_ (Below.mono (by with_reducible assumption) ?_)) | go_size))

      · have HE := Lib.hid (RM.ofS_range n d hz (by omega))
        go_enter Tryd.func33, Tryd.ntmps33
        go_wp2_with (first | (go_at_call 53; refine (mag_c _ (by omega) _).mono ?_; rintro e w' ⟨rfl, rfl⟩) | (go_at_call 52; refine (gcd_c _ _ (by omega) (by omega) _).mono ?_; rintro e w' ⟨rfl, nq, rfl⟩))
        go_quiet ((go_at_call 53; exact calls_again (mag_c _ (by omega) _)))
        go_wp2
        refine bodyPost_ret (v := .tuple #[.agg #[.int .i64 0, .int .i64 0], .int .i64 2]) (by simp [results, Tryd.results33, go_sem]) rfl ⟨ret_rat HE.out, ?_⟩
        (repeat' (first | (with_reducible exact Below.refl _ _) | (with_reducible refine Below.alloc ?_ ?_ _) | (with_reducible refine below_drewN' ?_ _) | (with_reducible refine Below.drew ?_) | (with_reducible refine Below.setCell ?_ ?_ _) | (with_reducible refine Below.trans ?_ (Below.mono (by with_reducible assumption) ?_)) | go_size))

    · have HE := Lib.hid (RM.ofS_range n d hz (by omega))
      go_enter Tryd.func33, Tryd.ntmps33
      go_wp2_with (first | (go_at_call 53; refine (mag_c _ (by omega) _).mono ?_; rintro e w' ⟨rfl, rfl⟩) | (go_at_call 52; refine (gcd_c _ _ (by omega) (by omega) _).mono ?_; rintro e w' ⟨rfl, nq, rfl⟩))
      go_quiet ((go_at_call 53; exact calls_again (mag_c _ (by omega) _)))
      go_wp2
      refine bodyPost_ret (v := .tuple #[.agg #[.int .i64 0, .int .i64 0], .int .i64 2]) (by simp [results, Tryd.results33, go_sem]) rfl ⟨ret_rat HE.out, ?_⟩
      (repeat' (first | (with_reducible exact Below.refl _ _) | (with_reducible refine Below.alloc ?_ ?_ _) | (with_reducible refine below_drewN' ?_ _) | (with_reducible refine Below.drew ?_) | (with_reducible refine Below.setCell ?_ ?_ _) | (with_reducible refine Below.trans ?_ (Below.mono (by with_reducible assumption) ?_)) | go_size))

end Go.Proofs.YthcgcmmkajjhhaaDoor
