/- WeaveEven holds for every input: the row, out of the walk. No condition. -/
import Derived.Test.YtpdnaceggpdleaaRows
import Derived.Test.YtpdnaceggpdleaaC4
namespace Go.Proofs.Ytpdnaceggpdleaa.weaveEven
open Go.ChangeShapes Go.WideShapes Go.ChangeAt Go.RowKit
set_option linter.unusedVariables false
set_option linter.unusedSimpArgs false
theorem even_len {n : Nat} (h1 : 1 ≤ n) (h2 : n ≤ 16) : (spotsW (rQ fun _ => (n : Int))).length = (n + 1) * (n + 1) ∧ (trisW (rQ fun _ => (n : Int))).length = 2 * (n * n) := by
  have hr : ∀ k, rQ (fun _ => (n : Int)) k = n := fun k => by show ((n : Int)).toNat = n; omega
  have hm : mxR (rQ fun _ => (n : Int)) 4 = n := by
    simp only [mxR, hr]
    omega
  have hb : ∀ k, k < 4 → 1 ≤ rQ (fun _ => (n : Int)) k ∧ rQ (fun _ => (n : Int)) k ≤ 16 := fun k _ => by rw [hr]; exact ⟨h1, h2⟩
  constructor
  · rw [spotsW_len hb, hm, hr, hr, hr, hr]
    obtain ⟨m, rfl⟩ : ∃ m, n = m + 1 := ⟨n - 1, by omega⟩
    simp only [Nat.add_sub_cancel]
    grind
  · by_cases e : n = 1
    · subst e; rw [trisW_one hm]
    · rw [trisW_two (by omega), hm, hr, hr, hr, hr]
      obtain ⟨m, rfl⟩ : ∃ m, n = m + 2 := ⟨n - 2, by omega⟩
      simp only [Nat.add_sub_cancel]
      grind
set_option maxRecDepth 100000 in
set_option maxHeartbeats 4000000 in
theorem walk (W : World) (n : Int) (hn : -9223372036854775808 ≤ n ∧ n ≤ 9223372036854775807) : Calls Try.prog 7 #[.int .i64 n] W fun e w' => e = .returned (.bool true) ∧ Below W.heap.size W w' := by
  have cA := alive13_any W
  have cP := fun w => weaveB w (fun _ => n) (fun _ _ => hn)
  replace cA := Lib.hid cA
  replace cP := Lib.hid cP
  obtain ⟨hn1, hn2⟩ := hn
  go_enter Try.func7, Try.ntmps7
  go_upto_region 3 with (first | (go_at_call 8; (refine cA.out.mono ?_); rintro e w1 ⟨rfl, hb1⟩) | fail)
  go_upto_region 4 with (first | (go_at_call 9; (refine (cP.out w1).mono ?_); rintro e w2 ⟨hb2, hA⟩; rcases hA with ⟨hok, A1, A2, c1, c2, rfl, hc1, hc2, hL1, hL2⟩ | ⟨hno, rfl⟩) | fail)
  · have hbb := bel_trans hb1 hb2
    have h0 : 1 ≤ n ∧ n ≤ 16 := hok 0 (by omega)
    obtain ⟨m, rfl⟩ : ∃ m : Nat, n = (m : Int) := ⟨n.toNat, by omega⟩
    obtain ⟨e1, e2⟩ := even_len (n := m) (by omega) (by omega)
    have p1 : ((spotsW (rQ fun _ => (m : Int))).length : Int) = ((m : Int) + 1) * ((m : Int) + 1) := by rw [e1]; simp
    have p2 : ((trisW (rQ fun _ => (m : Int))).length : Int) = 2 * (m : Int) * (m : Int) := by rw [e2]; simp [Int.mul_assoc]
    have b1 : (m + 1) * (m + 1) ≤ 17 * 17 := Nat.mul_le_mul (by omega) (by omega)
    have b2 : m * m ≤ 16 * 16 := Nat.mul_le_mul (by omega) (by omega)
    rw [← e1] at b1
    have b2 : 2 * (m * m) ≤ 512 := by omega
    rw [← e2] at b2
    clear hok hL1 hL2 e1 e2 cA cP hb1 hb2
    generalize (spotsW (rQ fun _ => (m : Int))).length = sl at *
    generalize (trisW (rQ fun _ => (m : Int))).length = tl at *
    have r1 : 0 ≤ ((m : Int) + 1) * ((m : Int) + 1) ∧ ((m : Int) + 1) * ((m : Int) + 1) ≤ 1000 := by omega
    have r2 : 0 ≤ 2 * (m : Int) * (m : Int) ∧ 2 * (m : Int) * (m : Int) ≤ 1000 := by omega
    obtain ⟨r1a, r1b⟩ := r1
    obtain ⟨r2a, r2b⟩ := r2
    have t1 : ((sl : Int) == ((m : Int) + 1) * ((m : Int) + 1)) = true := by simp [p1]
    have t2 : ((tl : Int) == 2 * (m : Int) * (m : Int)) = true := by simp [p2]
    replace p1 := Lib.hid p1
    replace p2 := Lib.hid p2
    obtain ⟨h0a, h0b⟩ := h0
    go_wp2
    go_ret
    exact ⟨rfl, hbb⟩
  · have hbb := bel_trans hb1 hb2
    have h0 : ¬ (1 ≤ n ∧ n ≤ 16) := fun h => hno (fun _ _ => h)
    clear cA cP hb1 hb2 hno
    by_cases hlo : n < 1
    · go_wp2
      go_ret
      exact ⟨rfl, hbb⟩
    · have hhi : n > 16 := by omega
      go_wp2
      go_ret
      exact ⟨rfl, hbb⟩

theorem own : ownKnob Try.prog.godebug = none := by kernel_rfl
set_option maxRecDepth 100000 in
theorem lifted (os : Os) (started : os.Started) (H : Type) (enc : TypeId × Value → H) :
    ReturnsInHanded {} Try.checked os 7 .any (Rows.weaveEvenSpec.pre6 enc Try.prog Try.f7 Rows.weaveEvenRow.domain false) (Rows.weaveEvenSpec.post enc Try.prog Try.f7 false true false false) := by
  refine returnsInHanded_of_change (C := Try.checked) own started (by kernel_rfl) Try.func7
    (ChangeSpec.witness6 (enc := enc) (C := Try.checked) false ⟨#[], #[.int .i64 0], []⟩ 12 (by kernel_rfl) (by kernel_rfl) (by kernel_rfl) (by kernel_rfl)) ?_
  intro W base args ds gs before hval0 hW hcnd _
  have hval : ∀ (j : Nat) t v, Try.f7.params[j]? = some t → args[j]? = some v → Value.okWide Try.prog W .any base t v := hval0
  have hW' := hW
  obtain ⟨p, q, hA0, hV, rfl, hfz, hnd⟩ := hW
  have hA : DataW.TrodAll enc Try.prog W 0 (fun _ => true) true Try.f7.params.toList args.toList ds p := hA0
  rw [Try.params7] at hA hval
  obtain ⟨v0, vs0, d0, ds0, p0, q0, hargs, rfl, rfl, h0, r0⟩ := trodAll_cons hA
  obtain ⟨rfl, rfl, rfl⟩ := trodAll_nil r0
  obtain rfl : args = #[v0] := by cases args; simp_all
  obtain ⟨a0, rfl, b0⟩ := open_int64 (hval 0 3 v0 rfl rfl) h0
  refine (walk W a0 b0).mono fun e W' ⟨he, hb⟩ => ?_
  subst he
  exact ⟨_, rfl, law_post (tb := 4) (by kernel_rfl) (by kernel_rfl) rfl rfl Try.underlying4 rfl rfl rfl hW' hb⟩

theorem over : Rows.weaveEvenRow.holds Try.pinned (OpenSpec.ofChange Rows.weaveEvenSpec) :=
  OpenClaim.holds_of_wide 7 Try.f7 rfl rfl rfl rfl rfl rfl rfl ⟨rfl, rfl, rfl, rfl, rfl⟩ rfl rfl rfl rfl rfl (by kernel_rfl) Try.func7 (by kernel_rfl)
    (of_decide_eq_true (by kernel_rfl)) (by unfold Func.isWrapper; first | (rw [if_pos (by decide +kernel)]; kernel_rfl) | (rw [if_neg (by decide +kernel)]; exact ⟨rfl, rfl⟩))
    (fun os started H enc _ => lifted os started H enc)

theorem proved : Rows.WeaveEvenSaid :=
  over
#print axioms proved
end Go.Proofs.Ytpdnaceggpdleaa.weaveEven
