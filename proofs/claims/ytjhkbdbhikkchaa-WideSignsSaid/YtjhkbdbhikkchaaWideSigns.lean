/- WideSigns holds for every input: the row, out of the walk. No condition. -/
import Derived.Test.YtjhkbdbhikkchaaRows
import Derived.Test.YtjhkbdbhikkchaaAlive
import Derived.Test.YtjhkbdbhikkchaaPost
import Derived.Test.YtjhkbdbhikkchaaOpen
namespace Go.Proofs.Ytjhkbdbhikkchaa.wideSigns
open Go.ChangeShapes Go.WideShapes Go.ChangeAt Go.RowKit
set_option linter.unusedVariables false
set_option linter.unusedSimpArgs false
theorem sign_prod (n m : Int) : (n * m < 0 ↔ (n < 0 ∧ 0 < m ∨ 0 < n ∧ m < 0)) ∧ (n * m = 0 ↔ (n = 0 ∨ m = 0)) := by
  refine ⟨?_, Int.mul_eq_zero⟩
  rcases Int.lt_trichotomy n 0 with h | h | h <;> rcases Int.lt_trichotomy m 0 with k | k | k
  · have := Int.mul_pos_of_neg_of_neg h k; omega
  · subst k; simp
  · have := Int.mul_neg_of_neg_of_pos h k; omega
  · subst h; simp
  · subst h; simp
  · subst h; simp
  · have := Int.mul_neg_of_pos_of_neg h k; omega
  · subst k; simp
  · have := Int.mul_pos h k; omega
theorem cmp_neg {n m : Int} (h : n * m < 0) : cmpOf (n * m) 0 = -1 := by unfold cmpOf; rw [if_pos h]
theorem cmp_zero {n m : Int} (h : n * m = 0) : cmpOf (n * m) 0 = 0 := by unfold cmpOf; rw [if_neg (by omega), if_pos h]
theorem cmp_pos {n m : Int} (h : 0 < n * m) : cmpOf (n * m) 0 = 1 := by unfold cmpOf; rw [if_neg (by omega), if_neg (by omega)]
set_option maxHeartbeats 1000000 in
theorem walk_neg_neg (n : Int) (n0 : -9223372036854775808 ≤ n) (n1 : n ≤ 9223372036854775807) (m : Int) (m0 : -9223372036854775808 ≤ m) (m1 : m ≤ 9223372036854775807) (hn1 : -9223372036854775807 ≤ n) (hn2 : n < 0) (hm1 : m < 0) :
    Gives Try.prog 9 #[.int .i64 n, .int .i64 m] (.bool true) := by
  refine Gives.mk fun w => ?_
  have al := alive_any
  have p1 := mul_any n m n0 n1 m0 m1
  have p2 := mul_any m n m0 m1 n0 n1
  rw [Int.mul_comm m n] at p2
  have o := of_any 0 (by omega) (by omega)
  have pin := inW_mul n m n0 n1 m0 m1
  have pbd := prod_bd n m n0 n1 m0 m1
  have k := cmp_any (n * m) 0 pin (by unfold InW; omega)
  have sp := sign_prod n m
  rw [cmp_pos (by omega)] at k
  have b1 : (n == 0) = false := by simp; omega
  have b2 : (m == 0) = false := by simp; omega
  have b4 : decide (n < 0) = true := by simp; omega
  have b5 : decide (m < 0) = true := by simp; omega
  have b3 : (n == -n) = false := by simp; omega
  have ng := neg_yes (n * m) pin (by omega)
  have p3 := mul_any (-n) m (by omega) (by omega) m0 m1
  rw [Int.neg_mul] at p3
  clear sp pbd pin 
  go_enter Try.func9, Try.ntmps9
  go_wp2_with (first | (go_at_call 11; ((with_reducible refine (al.at_ _).mono ?_); rintro e w' ⟨rfl, x, rfl⟩)) | (go_at_call 30; ((with_reducible refine (p1.at_ _).mono ?_); rintro e w' ⟨rfl, x, rfl⟩)))
  refine wp_region_grow (by kernel_rfl) (by kernel_rfl) ?_
  repeat (go_big_quiet_step ((first | with_reducible exact p2.quiet _)))
  refine wpQuiet_nil ?_
  rintro _ ⟨x, rfl⟩
  go_wp2_with fail
  refine wp_region_grow (by kernel_rfl) (by kernel_rfl) ?_
  repeat (go_big_quiet_step ((first | with_reducible exact o.quiet _ | with_reducible exact k.quiet _)))
  refine wpQuiet_nil ?_
  rintro _ ⟨x, rfl⟩
  go_wp2_with (go_at_call 17; ((with_reducible refine (ng.at_ _).mono ?_); rintro e w' ⟨rfl, x, rfl⟩))
  refine wp_region_grow (by kernel_rfl) (by kernel_rfl) ?_
  repeat (go_big_quiet_step ((first | with_reducible exact p3.quiet _)))
  refine wpQuiet_nil ?_
  rintro _ ⟨x, rfl⟩
  go_wp2_with fail
  go_ret
  exact ⟨rfl, by repeat (first | exact Below.refl _ _ | refine bel_grow ?_ _ | refine bel_alloc ?_ _)⟩
set_option maxHeartbeats 1000000 in
theorem walk_neg_zero (n : Int) (n0 : -9223372036854775808 ≤ n) (n1 : n ≤ 9223372036854775807) (m : Int) (m0 : -9223372036854775808 ≤ m) (m1 : m ≤ 9223372036854775807) (hn1 : -9223372036854775807 ≤ n) (hn2 : n < 0) (hm1 : 0 ≤ m) (hm2 : m ≤ 0) :
    Gives Try.prog 9 #[.int .i64 n, .int .i64 m] (.bool true) := by
  refine Gives.mk fun w => ?_
  have al := alive_any
  have p1 := mul_any n m n0 n1 m0 m1
  have p2 := mul_any m n m0 m1 n0 n1
  rw [Int.mul_comm m n] at p2
  have o := of_any 0 (by omega) (by omega)
  have pin := inW_mul n m n0 n1 m0 m1
  have pbd := prod_bd n m n0 n1 m0 m1
  have k := cmp_any (n * m) 0 pin (by unfold InW; omega)
  have sp := sign_prod n m
  rw [cmp_zero (by omega)] at k
  have b1 : (n == 0) = false := by simp; omega
  have b2 : (m == 0) = true := by simp; omega
  have b4 : decide (n < 0) = true := by simp; omega
  have b5 : decide (m < 0) = false := by simp; omega
  have b3 : (n == -n) = false := by simp; omega
  have ng := neg_yes (n * m) pin (by omega)
  have p3 := mul_any (-n) m (by omega) (by omega) m0 m1
  rw [Int.neg_mul] at p3
  clear sp pbd pin 
  go_enter Try.func9, Try.ntmps9
  go_wp2_with (first | (go_at_call 11; ((with_reducible refine (al.at_ _).mono ?_); rintro e w' ⟨rfl, x, rfl⟩)) | (go_at_call 30; ((with_reducible refine (p1.at_ _).mono ?_); rintro e w' ⟨rfl, x, rfl⟩)))
  refine wp_region_grow (by kernel_rfl) (by kernel_rfl) ?_
  repeat (go_big_quiet_step ((first | with_reducible exact p2.quiet _)))
  refine wpQuiet_nil ?_
  rintro _ ⟨x, rfl⟩
  go_wp2_with fail
  refine wp_region_grow (by kernel_rfl) (by kernel_rfl) ?_
  repeat (go_big_quiet_step ((first | with_reducible exact o.quiet _ | with_reducible exact k.quiet _)))
  refine wpQuiet_nil ?_
  rintro _ ⟨x, rfl⟩
  go_wp2_with (go_at_call 17; ((with_reducible refine (ng.at_ _).mono ?_); rintro e w' ⟨rfl, x, rfl⟩))
  refine wp_region_grow (by kernel_rfl) (by kernel_rfl) ?_
  repeat (go_big_quiet_step ((first | with_reducible exact p3.quiet _)))
  refine wpQuiet_nil ?_
  rintro _ ⟨x, rfl⟩
  go_wp2_with fail
  go_ret
  exact ⟨rfl, by repeat (first | exact Below.refl _ _ | refine bel_grow ?_ _ | refine bel_alloc ?_ _)⟩
set_option maxHeartbeats 1000000 in
theorem walk_neg_pos (n : Int) (n0 : -9223372036854775808 ≤ n) (n1 : n ≤ 9223372036854775807) (m : Int) (m0 : -9223372036854775808 ≤ m) (m1 : m ≤ 9223372036854775807) (hn1 : -9223372036854775807 ≤ n) (hn2 : n < 0) (hm1 : 0 < m) :
    Gives Try.prog 9 #[.int .i64 n, .int .i64 m] (.bool true) := by
  refine Gives.mk fun w => ?_
  have al := alive_any
  have p1 := mul_any n m n0 n1 m0 m1
  have p2 := mul_any m n m0 m1 n0 n1
  rw [Int.mul_comm m n] at p2
  have o := of_any 0 (by omega) (by omega)
  have pin := inW_mul n m n0 n1 m0 m1
  have pbd := prod_bd n m n0 n1 m0 m1
  have k := cmp_any (n * m) 0 pin (by unfold InW; omega)
  have sp := sign_prod n m
  rw [cmp_neg (by omega)] at k
  have b1 : (n == 0) = false := by simp; omega
  have b2 : (m == 0) = false := by simp; omega
  have b4 : decide (n < 0) = true := by simp; omega
  have b5 : decide (m < 0) = false := by simp; omega
  have b3 : (n == -n) = false := by simp; omega
  have ng := neg_yes (n * m) pin (by omega)
  have p3 := mul_any (-n) m (by omega) (by omega) m0 m1
  rw [Int.neg_mul] at p3
  clear sp pbd pin 
  go_enter Try.func9, Try.ntmps9
  go_wp2_with (first | (go_at_call 11; ((with_reducible refine (al.at_ _).mono ?_); rintro e w' ⟨rfl, x, rfl⟩)) | (go_at_call 30; ((with_reducible refine (p1.at_ _).mono ?_); rintro e w' ⟨rfl, x, rfl⟩)))
  refine wp_region_grow (by kernel_rfl) (by kernel_rfl) ?_
  repeat (go_big_quiet_step ((first | with_reducible exact p2.quiet _)))
  refine wpQuiet_nil ?_
  rintro _ ⟨x, rfl⟩
  go_wp2_with fail
  refine wp_region_grow (by kernel_rfl) (by kernel_rfl) ?_
  repeat (go_big_quiet_step ((first | with_reducible exact o.quiet _ | with_reducible exact k.quiet _)))
  refine wpQuiet_nil ?_
  rintro _ ⟨x, rfl⟩
  go_wp2_with (go_at_call 17; ((with_reducible refine (ng.at_ _).mono ?_); rintro e w' ⟨rfl, x, rfl⟩))
  refine wp_region_grow (by kernel_rfl) (by kernel_rfl) ?_
  repeat (go_big_quiet_step ((first | with_reducible exact p3.quiet _)))
  refine wpQuiet_nil ?_
  rintro _ ⟨x, rfl⟩
  go_wp2_with fail
  go_ret
  exact ⟨rfl, by repeat (first | exact Below.refl _ _ | refine bel_grow ?_ _ | refine bel_alloc ?_ _)⟩
set_option maxHeartbeats 1000000 in
theorem walk_min_neg (n : Int) (n0 : -9223372036854775808 ≤ n) (n1 : n ≤ 9223372036854775807) (m : Int) (m0 : -9223372036854775808 ≤ m) (m1 : m ≤ 9223372036854775807) (hn1 : n ≤ -9223372036854775808) (hm1 : m < 0) :
    Gives Try.prog 9 #[.int .i64 n, .int .i64 m] (.bool true) := by
  refine Gives.mk fun w => ?_
  have al := alive_any
  have p1 := mul_any n m n0 n1 m0 m1
  have p2 := mul_any m n m0 m1 n0 n1
  rw [Int.mul_comm m n] at p2
  have o := of_any 0 (by omega) (by omega)
  have pin := inW_mul n m n0 n1 m0 m1
  have pbd := prod_bd n m n0 n1 m0 m1
  have k := cmp_any (n * m) 0 pin (by unfold InW; omega)
  have sp := sign_prod n m
  rw [cmp_pos (by omega)] at k
  have b1 : (n == 0) = false := by simp; omega
  have b2 : (m == 0) = false := by simp; omega
  have b4 : decide (n < 0) = true := by simp; omega
  have b5 : decide (m < 0) = true := by simp; omega
  have b3 : (n == wrap64 (-n)) = true := by simp; unfold wrap64; omega
  clear sp pbd pin 
  go_enter Try.func9, Try.ntmps9
  go_wp2_with (first | (go_at_call 11; ((with_reducible refine (al.at_ _).mono ?_); rintro e w' ⟨rfl, x, rfl⟩)) | (go_at_call 30; ((with_reducible refine (p1.at_ _).mono ?_); rintro e w' ⟨rfl, x, rfl⟩)))
  refine wp_region_grow (by kernel_rfl) (by kernel_rfl) ?_
  repeat (go_big_quiet_step ((first | with_reducible exact p2.quiet _)))
  refine wpQuiet_nil ?_
  rintro _ ⟨x, rfl⟩
  go_wp2_with fail
  refine wp_region_grow (by kernel_rfl) (by kernel_rfl) ?_
  repeat (go_big_quiet_step ((first | with_reducible exact o.quiet _ | with_reducible exact k.quiet _)))
  refine wpQuiet_nil ?_
  rintro _ ⟨x, rfl⟩
  go_wp2_with fail
  go_ret
  exact ⟨rfl, by repeat (first | exact Below.refl _ _ | refine bel_grow ?_ _ | refine bel_alloc ?_ _)⟩
set_option maxHeartbeats 1000000 in
theorem walk_min_zero (n : Int) (n0 : -9223372036854775808 ≤ n) (n1 : n ≤ 9223372036854775807) (m : Int) (m0 : -9223372036854775808 ≤ m) (m1 : m ≤ 9223372036854775807) (hn1 : n ≤ -9223372036854775808) (hm1 : 0 ≤ m) (hm2 : m ≤ 0) :
    Gives Try.prog 9 #[.int .i64 n, .int .i64 m] (.bool true) := by
  refine Gives.mk fun w => ?_
  have al := alive_any
  have p1 := mul_any n m n0 n1 m0 m1
  have p2 := mul_any m n m0 m1 n0 n1
  rw [Int.mul_comm m n] at p2
  have o := of_any 0 (by omega) (by omega)
  have pin := inW_mul n m n0 n1 m0 m1
  have pbd := prod_bd n m n0 n1 m0 m1
  have k := cmp_any (n * m) 0 pin (by unfold InW; omega)
  have sp := sign_prod n m
  rw [cmp_zero (by omega)] at k
  have b1 : (n == 0) = false := by simp; omega
  have b2 : (m == 0) = true := by simp; omega
  have b4 : decide (n < 0) = true := by simp; omega
  have b5 : decide (m < 0) = false := by simp; omega
  have b3 : (n == wrap64 (-n)) = true := by simp; unfold wrap64; omega
  clear sp pbd pin 
  go_enter Try.func9, Try.ntmps9
  go_wp2_with (first | (go_at_call 11; ((with_reducible refine (al.at_ _).mono ?_); rintro e w' ⟨rfl, x, rfl⟩)) | (go_at_call 30; ((with_reducible refine (p1.at_ _).mono ?_); rintro e w' ⟨rfl, x, rfl⟩)))
  refine wp_region_grow (by kernel_rfl) (by kernel_rfl) ?_
  repeat (go_big_quiet_step ((first | with_reducible exact p2.quiet _)))
  refine wpQuiet_nil ?_
  rintro _ ⟨x, rfl⟩
  go_wp2_with fail
  refine wp_region_grow (by kernel_rfl) (by kernel_rfl) ?_
  repeat (go_big_quiet_step ((first | with_reducible exact o.quiet _ | with_reducible exact k.quiet _)))
  refine wpQuiet_nil ?_
  rintro _ ⟨x, rfl⟩
  go_wp2_with fail
  go_ret
  exact ⟨rfl, by repeat (first | exact Below.refl _ _ | refine bel_grow ?_ _ | refine bel_alloc ?_ _)⟩
set_option maxHeartbeats 1000000 in
theorem walk_min_pos (n : Int) (n0 : -9223372036854775808 ≤ n) (n1 : n ≤ 9223372036854775807) (m : Int) (m0 : -9223372036854775808 ≤ m) (m1 : m ≤ 9223372036854775807) (hn1 : n ≤ -9223372036854775808) (hm1 : 0 < m) :
    Gives Try.prog 9 #[.int .i64 n, .int .i64 m] (.bool true) := by
  refine Gives.mk fun w => ?_
  have al := alive_any
  have p1 := mul_any n m n0 n1 m0 m1
  have p2 := mul_any m n m0 m1 n0 n1
  rw [Int.mul_comm m n] at p2
  have o := of_any 0 (by omega) (by omega)
  have pin := inW_mul n m n0 n1 m0 m1
  have pbd := prod_bd n m n0 n1 m0 m1
  have k := cmp_any (n * m) 0 pin (by unfold InW; omega)
  have sp := sign_prod n m
  rw [cmp_neg (by omega)] at k
  have b1 : (n == 0) = false := by simp; omega
  have b2 : (m == 0) = false := by simp; omega
  have b4 : decide (n < 0) = true := by simp; omega
  have b5 : decide (m < 0) = false := by simp; omega
  have b3 : (n == wrap64 (-n)) = true := by simp; unfold wrap64; omega
  clear sp pbd pin 
  go_enter Try.func9, Try.ntmps9
  go_wp2_with (first | (go_at_call 11; ((with_reducible refine (al.at_ _).mono ?_); rintro e w' ⟨rfl, x, rfl⟩)) | (go_at_call 30; ((with_reducible refine (p1.at_ _).mono ?_); rintro e w' ⟨rfl, x, rfl⟩)))
  refine wp_region_grow (by kernel_rfl) (by kernel_rfl) ?_
  repeat (go_big_quiet_step ((first | with_reducible exact p2.quiet _)))
  refine wpQuiet_nil ?_
  rintro _ ⟨x, rfl⟩
  go_wp2_with fail
  refine wp_region_grow (by kernel_rfl) (by kernel_rfl) ?_
  repeat (go_big_quiet_step ((first | with_reducible exact o.quiet _ | with_reducible exact k.quiet _)))
  refine wpQuiet_nil ?_
  rintro _ ⟨x, rfl⟩
  go_wp2_with fail
  go_ret
  exact ⟨rfl, by repeat (first | exact Below.refl _ _ | refine bel_grow ?_ _ | refine bel_alloc ?_ _)⟩
set_option maxHeartbeats 1000000 in
theorem walk_zero_neg (n : Int) (n0 : -9223372036854775808 ≤ n) (n1 : n ≤ 9223372036854775807) (m : Int) (m0 : -9223372036854775808 ≤ m) (m1 : m ≤ 9223372036854775807) (hn1 : 0 ≤ n) (hn2 : n ≤ 0) (hm1 : m < 0) :
    Gives Try.prog 9 #[.int .i64 n, .int .i64 m] (.bool true) := by
  refine Gives.mk fun w => ?_
  have al := alive_any
  have p1 := mul_any n m n0 n1 m0 m1
  have p2 := mul_any m n m0 m1 n0 n1
  rw [Int.mul_comm m n] at p2
  have o := of_any 0 (by omega) (by omega)
  have pin := inW_mul n m n0 n1 m0 m1
  have pbd := prod_bd n m n0 n1 m0 m1
  have k := cmp_any (n * m) 0 pin (by unfold InW; omega)
  have sp := sign_prod n m
  rw [cmp_zero (by omega)] at k
  have b1 : (n == 0) = true := by simp; omega
  have b2 : (m == 0) = false := by simp; omega
  have b4 : decide (n < 0) = false := by simp; omega
  have b5 : decide (m < 0) = true := by simp; omega
  have b3 : (n == -n) = true := by simp; omega
  clear sp pbd pin 
  go_enter Try.func9, Try.ntmps9
  go_wp2_with (first | (go_at_call 11; ((with_reducible refine (al.at_ _).mono ?_); rintro e w' ⟨rfl, x, rfl⟩)) | (go_at_call 30; ((with_reducible refine (p1.at_ _).mono ?_); rintro e w' ⟨rfl, x, rfl⟩)))
  refine wp_region_grow (by kernel_rfl) (by kernel_rfl) ?_
  repeat (go_big_quiet_step ((first | with_reducible exact p2.quiet _)))
  refine wpQuiet_nil ?_
  rintro _ ⟨x, rfl⟩
  go_wp2_with fail
  refine wp_region_grow (by kernel_rfl) (by kernel_rfl) ?_
  repeat (go_big_quiet_step ((first | with_reducible exact o.quiet _ | with_reducible exact k.quiet _)))
  refine wpQuiet_nil ?_
  rintro _ ⟨x, rfl⟩
  go_wp2_with fail
  go_ret
  exact ⟨rfl, by repeat (first | exact Below.refl _ _ | refine bel_grow ?_ _ | refine bel_alloc ?_ _)⟩
set_option maxHeartbeats 1000000 in
theorem walk_zero_zero (n : Int) (n0 : -9223372036854775808 ≤ n) (n1 : n ≤ 9223372036854775807) (m : Int) (m0 : -9223372036854775808 ≤ m) (m1 : m ≤ 9223372036854775807) (hn1 : 0 ≤ n) (hn2 : n ≤ 0) (hm1 : 0 ≤ m) (hm2 : m ≤ 0) :
    Gives Try.prog 9 #[.int .i64 n, .int .i64 m] (.bool true) := by
  refine Gives.mk fun w => ?_
  have al := alive_any
  have p1 := mul_any n m n0 n1 m0 m1
  have p2 := mul_any m n m0 m1 n0 n1
  rw [Int.mul_comm m n] at p2
  have o := of_any 0 (by omega) (by omega)
  have pin := inW_mul n m n0 n1 m0 m1
  have pbd := prod_bd n m n0 n1 m0 m1
  have k := cmp_any (n * m) 0 pin (by unfold InW; omega)
  have sp := sign_prod n m
  rw [cmp_zero (by omega)] at k
  have b1 : (n == 0) = true := by simp; omega
  have b2 : (m == 0) = true := by simp; omega
  have b4 : decide (n < 0) = false := by simp; omega
  have b5 : decide (m < 0) = false := by simp; omega
  have b3 : (n == -n) = true := by simp; omega
  clear sp pbd pin 
  go_enter Try.func9, Try.ntmps9
  go_wp2_with (first | (go_at_call 11; ((with_reducible refine (al.at_ _).mono ?_); rintro e w' ⟨rfl, x, rfl⟩)) | (go_at_call 30; ((with_reducible refine (p1.at_ _).mono ?_); rintro e w' ⟨rfl, x, rfl⟩)))
  refine wp_region_grow (by kernel_rfl) (by kernel_rfl) ?_
  repeat (go_big_quiet_step ((first | with_reducible exact p2.quiet _)))
  refine wpQuiet_nil ?_
  rintro _ ⟨x, rfl⟩
  go_wp2_with fail
  refine wp_region_grow (by kernel_rfl) (by kernel_rfl) ?_
  repeat (go_big_quiet_step ((first | with_reducible exact o.quiet _ | with_reducible exact k.quiet _)))
  refine wpQuiet_nil ?_
  rintro _ ⟨x, rfl⟩
  go_wp2_with fail
  go_ret
  exact ⟨rfl, by repeat (first | exact Below.refl _ _ | refine bel_grow ?_ _ | refine bel_alloc ?_ _)⟩
set_option maxHeartbeats 1000000 in
theorem walk_zero_pos (n : Int) (n0 : -9223372036854775808 ≤ n) (n1 : n ≤ 9223372036854775807) (m : Int) (m0 : -9223372036854775808 ≤ m) (m1 : m ≤ 9223372036854775807) (hn1 : 0 ≤ n) (hn2 : n ≤ 0) (hm1 : 0 < m) :
    Gives Try.prog 9 #[.int .i64 n, .int .i64 m] (.bool true) := by
  refine Gives.mk fun w => ?_
  have al := alive_any
  have p1 := mul_any n m n0 n1 m0 m1
  have p2 := mul_any m n m0 m1 n0 n1
  rw [Int.mul_comm m n] at p2
  have o := of_any 0 (by omega) (by omega)
  have pin := inW_mul n m n0 n1 m0 m1
  have pbd := prod_bd n m n0 n1 m0 m1
  have k := cmp_any (n * m) 0 pin (by unfold InW; omega)
  have sp := sign_prod n m
  rw [cmp_zero (by omega)] at k
  have b1 : (n == 0) = true := by simp; omega
  have b2 : (m == 0) = false := by simp; omega
  have b4 : decide (n < 0) = false := by simp; omega
  have b5 : decide (m < 0) = false := by simp; omega
  have b3 : (n == -n) = true := by simp; omega
  clear sp pbd pin 
  go_enter Try.func9, Try.ntmps9
  go_wp2_with (first | (go_at_call 11; ((with_reducible refine (al.at_ _).mono ?_); rintro e w' ⟨rfl, x, rfl⟩)) | (go_at_call 30; ((with_reducible refine (p1.at_ _).mono ?_); rintro e w' ⟨rfl, x, rfl⟩)))
  refine wp_region_grow (by kernel_rfl) (by kernel_rfl) ?_
  repeat (go_big_quiet_step ((first | with_reducible exact p2.quiet _)))
  refine wpQuiet_nil ?_
  rintro _ ⟨x, rfl⟩
  go_wp2_with fail
  refine wp_region_grow (by kernel_rfl) (by kernel_rfl) ?_
  repeat (go_big_quiet_step ((first | with_reducible exact o.quiet _ | with_reducible exact k.quiet _)))
  refine wpQuiet_nil ?_
  rintro _ ⟨x, rfl⟩
  go_wp2_with fail
  go_ret
  exact ⟨rfl, by repeat (first | exact Below.refl _ _ | refine bel_grow ?_ _ | refine bel_alloc ?_ _)⟩
set_option maxHeartbeats 1000000 in
theorem walk_pos_neg (n : Int) (n0 : -9223372036854775808 ≤ n) (n1 : n ≤ 9223372036854775807) (m : Int) (m0 : -9223372036854775808 ≤ m) (m1 : m ≤ 9223372036854775807) (hn1 : 0 < n) (hm1 : m < 0) :
    Gives Try.prog 9 #[.int .i64 n, .int .i64 m] (.bool true) := by
  refine Gives.mk fun w => ?_
  have al := alive_any
  have p1 := mul_any n m n0 n1 m0 m1
  have p2 := mul_any m n m0 m1 n0 n1
  rw [Int.mul_comm m n] at p2
  have o := of_any 0 (by omega) (by omega)
  have pin := inW_mul n m n0 n1 m0 m1
  have pbd := prod_bd n m n0 n1 m0 m1
  have k := cmp_any (n * m) 0 pin (by unfold InW; omega)
  have sp := sign_prod n m
  rw [cmp_neg (by omega)] at k
  have b1 : (n == 0) = false := by simp; omega
  have b2 : (m == 0) = false := by simp; omega
  have b4 : decide (n < 0) = false := by simp; omega
  have b5 : decide (m < 0) = true := by simp; omega
  have b3 : (n == -n) = false := by simp; omega
  have ng := neg_yes (n * m) pin (by omega)
  have p3 := mul_any (-n) m (by omega) (by omega) m0 m1
  rw [Int.neg_mul] at p3
  clear sp pbd pin 
  go_enter Try.func9, Try.ntmps9
  go_wp2_with (first | (go_at_call 11; ((with_reducible refine (al.at_ _).mono ?_); rintro e w' ⟨rfl, x, rfl⟩)) | (go_at_call 30; ((with_reducible refine (p1.at_ _).mono ?_); rintro e w' ⟨rfl, x, rfl⟩)))
  refine wp_region_grow (by kernel_rfl) (by kernel_rfl) ?_
  repeat (go_big_quiet_step ((first | with_reducible exact p2.quiet _)))
  refine wpQuiet_nil ?_
  rintro _ ⟨x, rfl⟩
  go_wp2_with fail
  refine wp_region_grow (by kernel_rfl) (by kernel_rfl) ?_
  repeat (go_big_quiet_step ((first | with_reducible exact o.quiet _ | with_reducible exact k.quiet _)))
  refine wpQuiet_nil ?_
  rintro _ ⟨x, rfl⟩
  go_wp2_with (go_at_call 17; ((with_reducible refine (ng.at_ _).mono ?_); rintro e w' ⟨rfl, x, rfl⟩))
  refine wp_region_grow (by kernel_rfl) (by kernel_rfl) ?_
  repeat (go_big_quiet_step ((first | with_reducible exact p3.quiet _)))
  refine wpQuiet_nil ?_
  rintro _ ⟨x, rfl⟩
  go_wp2_with fail
  go_ret
  exact ⟨rfl, by repeat (first | exact Below.refl _ _ | refine bel_grow ?_ _ | refine bel_alloc ?_ _)⟩
set_option maxHeartbeats 1000000 in
theorem walk_pos_zero (n : Int) (n0 : -9223372036854775808 ≤ n) (n1 : n ≤ 9223372036854775807) (m : Int) (m0 : -9223372036854775808 ≤ m) (m1 : m ≤ 9223372036854775807) (hn1 : 0 < n) (hm1 : 0 ≤ m) (hm2 : m ≤ 0) :
    Gives Try.prog 9 #[.int .i64 n, .int .i64 m] (.bool true) := by
  refine Gives.mk fun w => ?_
  have al := alive_any
  have p1 := mul_any n m n0 n1 m0 m1
  have p2 := mul_any m n m0 m1 n0 n1
  rw [Int.mul_comm m n] at p2
  have o := of_any 0 (by omega) (by omega)
  have pin := inW_mul n m n0 n1 m0 m1
  have pbd := prod_bd n m n0 n1 m0 m1
  have k := cmp_any (n * m) 0 pin (by unfold InW; omega)
  have sp := sign_prod n m
  rw [cmp_zero (by omega)] at k
  have b1 : (n == 0) = false := by simp; omega
  have b2 : (m == 0) = true := by simp; omega
  have b4 : decide (n < 0) = false := by simp; omega
  have b5 : decide (m < 0) = false := by simp; omega
  have b3 : (n == -n) = false := by simp; omega
  have ng := neg_yes (n * m) pin (by omega)
  have p3 := mul_any (-n) m (by omega) (by omega) m0 m1
  rw [Int.neg_mul] at p3
  clear sp pbd pin 
  go_enter Try.func9, Try.ntmps9
  go_wp2_with (first | (go_at_call 11; ((with_reducible refine (al.at_ _).mono ?_); rintro e w' ⟨rfl, x, rfl⟩)) | (go_at_call 30; ((with_reducible refine (p1.at_ _).mono ?_); rintro e w' ⟨rfl, x, rfl⟩)))
  refine wp_region_grow (by kernel_rfl) (by kernel_rfl) ?_
  repeat (go_big_quiet_step ((first | with_reducible exact p2.quiet _)))
  refine wpQuiet_nil ?_
  rintro _ ⟨x, rfl⟩
  go_wp2_with fail
  refine wp_region_grow (by kernel_rfl) (by kernel_rfl) ?_
  repeat (go_big_quiet_step ((first | with_reducible exact o.quiet _ | with_reducible exact k.quiet _)))
  refine wpQuiet_nil ?_
  rintro _ ⟨x, rfl⟩
  go_wp2_with (go_at_call 17; ((with_reducible refine (ng.at_ _).mono ?_); rintro e w' ⟨rfl, x, rfl⟩))
  refine wp_region_grow (by kernel_rfl) (by kernel_rfl) ?_
  repeat (go_big_quiet_step ((first | with_reducible exact p3.quiet _)))
  refine wpQuiet_nil ?_
  rintro _ ⟨x, rfl⟩
  go_wp2_with fail
  go_ret
  exact ⟨rfl, by repeat (first | exact Below.refl _ _ | refine bel_grow ?_ _ | refine bel_alloc ?_ _)⟩
set_option maxHeartbeats 1000000 in
theorem walk_pos_pos (n : Int) (n0 : -9223372036854775808 ≤ n) (n1 : n ≤ 9223372036854775807) (m : Int) (m0 : -9223372036854775808 ≤ m) (m1 : m ≤ 9223372036854775807) (hn1 : 0 < n) (hm1 : 0 < m) :
    Gives Try.prog 9 #[.int .i64 n, .int .i64 m] (.bool true) := by
  refine Gives.mk fun w => ?_
  have al := alive_any
  have p1 := mul_any n m n0 n1 m0 m1
  have p2 := mul_any m n m0 m1 n0 n1
  rw [Int.mul_comm m n] at p2
  have o := of_any 0 (by omega) (by omega)
  have pin := inW_mul n m n0 n1 m0 m1
  have pbd := prod_bd n m n0 n1 m0 m1
  have k := cmp_any (n * m) 0 pin (by unfold InW; omega)
  have sp := sign_prod n m
  rw [cmp_pos (by omega)] at k
  have b1 : (n == 0) = false := by simp; omega
  have b2 : (m == 0) = false := by simp; omega
  have b4 : decide (n < 0) = false := by simp; omega
  have b5 : decide (m < 0) = false := by simp; omega
  have b3 : (n == -n) = false := by simp; omega
  have ng := neg_yes (n * m) pin (by omega)
  have p3 := mul_any (-n) m (by omega) (by omega) m0 m1
  rw [Int.neg_mul] at p3
  clear sp pbd pin 
  go_enter Try.func9, Try.ntmps9
  go_wp2_with (first | (go_at_call 11; ((with_reducible refine (al.at_ _).mono ?_); rintro e w' ⟨rfl, x, rfl⟩)) | (go_at_call 30; ((with_reducible refine (p1.at_ _).mono ?_); rintro e w' ⟨rfl, x, rfl⟩)))
  refine wp_region_grow (by kernel_rfl) (by kernel_rfl) ?_
  repeat (go_big_quiet_step ((first | with_reducible exact p2.quiet _)))
  refine wpQuiet_nil ?_
  rintro _ ⟨x, rfl⟩
  go_wp2_with fail
  refine wp_region_grow (by kernel_rfl) (by kernel_rfl) ?_
  repeat (go_big_quiet_step ((first | with_reducible exact o.quiet _ | with_reducible exact k.quiet _)))
  refine wpQuiet_nil ?_
  rintro _ ⟨x, rfl⟩
  go_wp2_with (go_at_call 17; ((with_reducible refine (ng.at_ _).mono ?_); rintro e w' ⟨rfl, x, rfl⟩))
  refine wp_region_grow (by kernel_rfl) (by kernel_rfl) ?_
  repeat (go_big_quiet_step ((first | with_reducible exact p3.quiet _)))
  refine wpQuiet_nil ?_
  rintro _ ⟨x, rfl⟩
  go_wp2_with fail
  go_ret
  exact ⟨rfl, by repeat (first | exact Below.refl _ _ | refine bel_grow ?_ _ | refine bel_alloc ?_ _)⟩
theorem walk (n : Int) (n0 : -9223372036854775808 ≤ n) (n1 : n ≤ 9223372036854775807) (m : Int) (m0 : -9223372036854775808 ≤ m) (m1 : m ≤ 9223372036854775807) :
    Gives Try.prog 9 #[.int .i64 n, .int .i64 m] (.bool true) := by
  rcases Int.lt_trichotomy n 0 with h | h | h
  · rcases Int.lt_trichotomy m 0 with q | q | q <;> by_cases hm : n ≤ -9223372036854775808
    · exact walk_min_neg n n0 n1 m m0 m1 hm q
    · exact walk_neg_neg n n0 n1 m m0 m1 (by omega) h q
    · exact walk_min_zero n n0 n1 m m0 m1 hm (by omega) (by omega)
    · exact walk_neg_zero n n0 n1 m m0 m1 (by omega) h (by omega) (by omega)
    · exact walk_min_pos n n0 n1 m m0 m1 hm q
    · exact walk_neg_pos n n0 n1 m m0 m1 (by omega) h q
  · rcases Int.lt_trichotomy m 0 with q | q | q
    · exact walk_zero_neg n n0 n1 m m0 m1 (by omega) (by omega) q
    · exact walk_zero_zero n n0 n1 m m0 m1 (by omega) (by omega) (by omega) (by omega)
    · exact walk_zero_pos n n0 n1 m m0 m1 (by omega) (by omega) q
  · rcases Int.lt_trichotomy m 0 with q | q | q
    · exact walk_pos_neg n n0 n1 m m0 m1 h q
    · exact walk_pos_zero n n0 n1 m m0 m1 h (by omega) (by omega)
    · exact walk_pos_pos n n0 n1 m m0 m1 h q

theorem own : ownKnob Try.prog.godebug = none := by kernel_rfl
set_option maxRecDepth 100000 in
theorem lifted (os : Os) (started : os.Started) (H : Type) (enc : TypeId × Value → H) :
    ReturnsInHanded {} Try.checked os 9 .any (Rows.wideSignsSpec.pre6 enc Try.prog Try.f9 Rows.wideSignsRow.domain false) (Rows.wideSignsSpec.post enc Try.prog Try.f9 false true false false) := by
  refine returnsInHanded_of_change (C := Try.checked) own started (by kernel_rfl) Try.func9
    (ChangeSpec.witness6 (enc := enc) (C := Try.checked) false ⟨#[], #[.int .i64 0, .int .i64 0], []⟩ 8 (by kernel_rfl) (by kernel_rfl) (by kernel_rfl) (by kernel_rfl)) ?_
  intro W base args ds gs before hval0 hW hcnd _
  have hval : ∀ (j : Nat) t v, Try.f9.params[j]? = some t → args[j]? = some v → Value.okWide Try.prog W .any base t v := hval0
  have hW' := hW
  obtain ⟨p, q, hA0, hV, rfl, hfz, hnd⟩ := hW
  have hA : DataW.TrodAll enc Try.prog W 0 (fun _ => true) true Try.f9.params.toList args.toList ds p := hA0
  rw [Try.params9] at hA hval
  obtain ⟨v0, vs0, d0, ds0, p0, q0, hargs, rfl, rfl, h0, r0⟩ := trodAll_cons hA
  obtain ⟨v1, vs1, d1, ds1, p1, q1, rfl, rfl, rfl, h1, r1⟩ := trodAll_cons r0
  obtain ⟨rfl, rfl, rfl⟩ := trodAll_nil r1
  obtain rfl : args = #[v0, v1] := by cases args; simp_all
  obtain ⟨a0, rfl, b0⟩ := open_Int (hval 0 3 v0 rfl rfl) h0
  obtain ⟨a1, rfl, b1⟩ := open_Int (hval 1 3 v1 rfl rfl) h1
  refine ((walk a0 b0.1 b0.2 a1 b1.1 b1.2).bel W).mono fun e W' ⟨he, hb⟩ => ?_
  subst he
  exact ⟨_, rfl, law_post (tb := 4) (by kernel_rfl) (by kernel_rfl) rfl rfl Try.underlying4 rfl rfl rfl hW' hb⟩

theorem over : Rows.wideSignsRow.holds Try.pinned (OpenSpec.ofChange Rows.wideSignsSpec) :=
  OpenClaim.holds_of_wide 9 Try.f9 rfl rfl rfl rfl rfl rfl rfl ⟨rfl, rfl, rfl, rfl, rfl⟩ rfl rfl rfl rfl rfl (by kernel_rfl) Try.func9 (by kernel_rfl)
    (of_decide_eq_true (by kernel_rfl)) (by unfold Func.isWrapper; first | (rw [if_pos (by decide +kernel)]; kernel_rfl) | (rw [if_neg (by decide +kernel)]; exact ⟨rfl, rfl⟩))
    (fun os started H enc _ => lifted os started H enc)

theorem proved : Rows.WideSignsSaid :=
  over
#print axioms proved
end Go.Proofs.Ytjhkbdbhikkchaa.wideSigns
