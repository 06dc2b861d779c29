/- The document's along. -/
import Derived.Test.YtbehobojgeganaaTopS
import Derived.Test.YtbehobojgeganaaTop9
namespace Go.Proofs.Ytbehobojgeganaa
open Go.RowKit
set_option linter.unusedVariables false
set_option linter.unusedSimpArgs false
set_option linter.unnecessarySimpa false
set_option maxRecDepth 100000

theorem sF_f {f : Int} {x : List Int} {s : Sd} (h : s ∈ sF f x) : s.f = f := by
  simp only [sF, List.mem_map] at h
  obtain ⟨i, _, rfl⟩ := h
  rfl
theorem sL_f : ∀ (fs : List (List Int)) (k : Nat) (s : Sd), s ∈ sL k fs → 0 ≤ s.f
  | [], k, s, h => by simp [sL] at h
  | x :: r, k, s, h => by
    simp only [sL, List.mem_append] at h
    rcases h with h | h
    · rw [sF_f h]; omega
    · exact sL_f r (k + 1) s h
theorem out_one {l : List Sd} (h1 : l.length ≤ 1) (h2 : ∀ s ∈ l, 0 ≤ s.f) : (l = [] ∧ outS l = -1) ∨ (l.length = 1 ∧ 0 ≤ outS l) := by
  match l, h1 with
  | [], _ => exact .inl ⟨rfl, rfl⟩
  | [s], _ => exact .inr ⟨rfl, h2 s (by simp)⟩
/-- One more side. -/
theorem hits_no {l : List Sd} {s : Sd} {a b : Int} (h : isS a b s = false) : (l ++ [s]).filter (isS a b) = l.filter (isS a b) := by simp [List.filter_append, h]
theorem hits_yes {l : List Sd} {s : Sd} {a b : Int} (h : isS a b s = true) : (l ++ [s]).filter (isS a b) = l.filter (isS a b) ++ [s] := by simp [List.filter_append, h]
/-- The sides of the faces ahead of f, and i of face f's. -/
def pre (fs : List (List Int)) (f i : Nat) (x : List Int) : List Sd := sL 0 (fs.take f) ++ (sF (f : Int) x).take i
theorem pre_f (fs : List (List Int)) (f i : Nat) (x : List Int) : ∀ s ∈ pre fs f i x, 0 ≤ s.f := by
  intro s h
  simp only [pre, List.mem_append] at h
  rcases h with h | h
  · exact sL_f _ _ s h
  · rw [sF_f (List.mem_of_mem_take h)]; omega
theorem pre_succ (fs : List (List Int)) (f i : Nat) (x : List Int) (h : i < x.length) : pre fs f (i + 1) x = pre fs f i x ++ [⟨x.getD i 0, x.getD ((i + 1) % x.length) 0, f⟩] := by
  rw [pre, sF_take _ _ _ h, ← List.append_assoc]; rfl
theorem pre_all (fs : List (List Int)) (f : Nat) (h : f < fs.length) : pre fs f fs[f].length fs[f] = sL 0 (fs.take (f + 1)) := by
  rw [sL_take fs f h, pre, List.take_of_length_le (Nat.le_of_eq (sF_len _ _))]
theorem pre_zero (fs : List (List Int)) (f : Nat) (x : List Int) : pre fs f 0 x = sL 0 (fs.take f) := by simp [pre]
theorem pre_more (fs : List (List Int)) (f i : Nat) (h : f < fs.length) (a b : Int) (hi : i < fs[f].length) (hs : isS a b ⟨fs[f].getD i 0, fs[f].getD ((i + 1) % fs[f].length) 0, f⟩ = true) (h1 : ((pre fs f i fs[f]).filter (isS a b)).length = 1) : alongV fs a b = -2 := by
  apply out_two
  rw [sL_split fs f h]
  have e : sF (f : Int) fs[f] = (sF (f : Int) fs[f]).take (i + 1) ++ (sF (f : Int) fs[f]).drop (i + 1) := (List.take_append_drop _ _).symm
  rw [e, sF_take _ _ _ hi]
  have := filter_pre (isS a b) (pre fs f i fs[f]) ((sF (f : Int) fs[f]).drop (i + 1) ++ sL (f + 1) (fs.drop (f + 1))) _ hs
  rw [h1] at this
  simp only [pre, List.append_assoc] at this ⊢
  omega

set_option maxHeartbeats 4000000 in
theorem along_any (W : World) (A : Option Addr) (k : Nat) (fs : List (List Int)) (a b : Int) (hA : FL W A fs) (hf : fs.length < 1099511627776000) (hx : ∀ x ∈ fs, x.length < 1099511627776000) :
    Calls Try.prog 45 #[.slice A fs.length k, .int .i64 a, .int .i64 b] W fun e W' => e = .returned (.int .i64 (alongV fs a b)) ∧ Below W.heap.size W W' := by
  go_enter Try.func45, Try.ntmps45
  go_wp2
  go_loopw [7, 8] (fun ov fv wr => ∃ f : Nat, fv = .int .i64 (f : Int) ∧ f ≤ fs.length ∧ ov = .int .i64 (outS ((sL 0 (fs.take f)).filter (isS a b))) ∧ ((sL 0 (fs.take f)).filter (isS a b)).length ≤ 1 ∧ Below W.heap.size W wr) (fun _ fv _ => fs.length - (intOf fv).toNat)
  case atStart => exact ⟨0, rfl, by omega, by simp [sL, outS], by simp [sL], Below.refl _ _⟩
  case round =>
    obtain ⟨f, rfl, hfl, rfl, hone, hbr⟩ := hrel
    by_cases hlt : f < fs.length
    · obtain ⟨bb, off, B, m, rfl, hbl, hc, hIL⟩ := hA.at_ f hlt
      have hxl := hx _ (List.getElem_mem hlt)
      have hal := pre_all fs f hlt
      have hze := pre_zero fs f fs[f]
      have hmo := fun i => pre_more fs f i hlt a b
      have hsu := fun i => pre_succ fs f i fs[f]
      have hpf := fun i => pre_f fs f i fs[f]
      generalize fs[f] = x at *
      replace hal := Lib.hid hal
      replace hmo := Lib.hid hmo
      replace hsu := Lib.hid hsu
      replace hpf := Lib.hid hpf
      rw [← hze] at hone
      replace hone := Lib.hid hone
      replace hze := Lib.hid hze
      have q0 : (0 : Int) ≤ (f : Int) := by omega
      have q1 : (f : Int) < (fs.length : Int) := by omega
      have hcr := (hbr.cell (p := ⟨bb, off + f, none⟩) hbl).trans hc
      have hblr := Nat.lt_of_lt_of_le hbl hbr.size
      go_wp2
      clear hcr hblr
      go_loopw [7, 10] (fun ov iv wq => ∃ i : Nat, iv = .int .i64 (i : Int) ∧ i ≤ x.length ∧ ov = .int .i64 (outS ((pre fs f i x).filter (isS a b))) ∧ ((pre fs f i x).filter (isS a b)).length ≤ 1 ∧ Below W.heap.size W wq) (fun _ iv _ => x.length - (intOf iv).toNat)
      case atStart => exact ⟨0, rfl, by omega, by rw [hze.out], hone.out, hbr⟩
      case round =>
        obtain ⟨i, rfl, hil, rfl, hon, hbq⟩ := hrel
        clear hbr
        have hcr := (hbq.cell (p := ⟨bb, off + f, none⟩) hbl).trans hc
        have hblr := Nat.lt_of_lt_of_le hbl hbq.size
        by_cases hilt : i < x.length
        · obtain ⟨b2, off2, rfl, hb2, hc2⟩ := (hIL.below hbq) (by omega)
          have hm : (i + 1) % x.length < x.length := Nat.mod_lt _ (by omega)
          have g1 := hc2 i hilt
          have g2 := hc2 ((i + 1) % x.length) hm
          have e1 : x.getD i 0 = x[i] := by rw [List.getD_eq_getElem?_getD, List.getElem?_eq_getElem hilt]; rfl
          have e2 : x.getD ((i + 1) % x.length) 0 = x[(i + 1) % x.length] := by rw [List.getD_eq_getElem?_getD, List.getElem?_eq_getElem hm]; rfl
          have hmo2 := hmo.out i hilt
          have hsu2 := hsu.out i hilt
          have hoc := out_one hon (fun s hs => hpf.out i s (List.mem_filter.mp hs).1)
          rw [e1, e2] at hmo2 hsu2
          clear e1 e2 hc2
          generalize x[i] = xa at *
          generalize x[(i + 1) % x.length] = xb at *
          have hrem : ((i : Int) + 1) % (x.length : Int) = (((i + 1) % x.length : Nat) : Int) := by simp
          have hremt : ((i : Int) + 1).tmod (x.length : Int) = (((i + 1) % x.length : Nat) : Int) := by
            rw [Int.tmod_eq_emod_of_nonneg (by omega)]; exact hrem
          replace hrem := Lib.hid hrem
          have k2 : (0 : Int) ≤ (i : Int) := by omega
          have k3 : (i : Int) < (x.length : Int) := by omega
          have k4 : (0 : Int) ≤ (((i + 1) % x.length : Nat) : Int) := by omega
          have k5 : (((i + 1) % x.length : Nat) : Int) < (x.length : Int) := by omega
          generalize hmm : (i + 1) % x.length = mm at *
          replace hmm := Lib.hid hmm
          have hrt := hremt
          replace hsu2 := Lib.hid hsu2
          replace hmo2 := Lib.hid hmo2
          replace hoc := Lib.hid hoc
          generalize hoo : outS ((pre fs f i x).filter (isS a b)) = oo at *
          replace hoo := Lib.hid hoo
          by_cases d1 : xa = a
          · subst d1
            by_cases d2 : xb = b
            · subst d2
              have hys := hits_yes (l := pre fs f i x) (s := ⟨xa, xb, f⟩) (a := xa) (b := xb) (by simp [isS])
              rw [← hsu2.out] at hys
              replace hys := Lib.hid hys
              rcases hoc.out with ⟨hl, ho⟩ | ⟨hl, ho⟩
              · replace hl := Lib.hid hl
                subst ho
                go_wp2
                refine wp_region_grow (by kernel_rfl) (by kernel_rfl) ?_
                repeat (go_big_quiet_step ((fail)))
                refine wpQuiet_nil ?_
                rintro _ ⟨xg, rfl⟩
                have hb9 := bel_grow hbq xg
                generalize grow wr xg = W9 at *
                go_wp2
                go_roundw
                case rel => exact ⟨i + 1, by go_num, by omega, by rw [hys.out, hl.out]; rfl, by rw [hys.out, hl.out]; simp, by first | assumption | (repeat (first | with_reducible exact Below.refl _ _ | with_reducible assumption | with_reducible refine bel_then ?_ _ | with_reducible refine bel_grow ?_ _ | with_reducible refine bel_alloc ?_ _ | with_reducible refine bel_drew ?_ | with_reducible refine bel_drewN ?_ _))⟩
                case measure => simp [intOf]; omega
              · replace hl := Lib.hid hl
                have hn1 : (oo == -1) = false := by simp; omega
                have hn2 : decide (oo = -1) = false := by simp; omega
                go_wp2
                refine wp_region_grow (by kernel_rfl) (by kernel_rfl) ?_
                repeat (go_big_quiet_step ((fail)))
                refine wpQuiet_nil ?_
                rintro _ ⟨xg, rfl⟩
                have hb9 := bel_grow hbq xg
                generalize grow wr xg = W9 at *
                go_wp2
                go_ret
                exact ⟨by rw [hmo2.out (by simp [isS]) hl.out]; rfl, by first | assumption | (repeat (first | with_reducible exact Below.refl _ _ | with_reducible assumption | with_reducible refine bel_then ?_ _ | with_reducible refine bel_grow ?_ _ | with_reducible refine bel_alloc ?_ _ | with_reducible refine bel_drew ?_ | with_reducible refine bel_drewN ?_ _))⟩
            · have d2b : (xb == b) = false := by simp [d2]
              have hno := hits_no (l := pre fs f i x) (s := ⟨xa, xb, f⟩) (a := xa) (b := b) (by simp [isS, d2])
              rw [← hsu2.out] at hno
              replace hno := Lib.hid hno
              go_wp2
              refine wp_region_grow (by kernel_rfl) (by kernel_rfl) ?_
              repeat (go_big_quiet_step ((fail)))
              refine wpQuiet_nil ?_
              rintro _ ⟨xg, rfl⟩
              have hb9 := bel_grow hbq xg
              generalize grow wr xg = W9 at *
              go_wp2
              go_roundw
              case rel => exact ⟨i + 1, by go_num, by omega, by rw [hno.out, hoo.out], by rw [hno.out]; exact hon, by first | assumption | (repeat (first | with_reducible exact Below.refl _ _ | with_reducible assumption | with_reducible refine bel_then ?_ _ | with_reducible refine bel_grow ?_ _ | with_reducible refine bel_alloc ?_ _ | with_reducible refine bel_drew ?_ | with_reducible refine bel_drewN ?_ _))⟩
              case measure => simp [intOf]; omega
          · have d1b : (xa == a) = false := by simp [d1]
            have hno := hits_no (l := pre fs f i x) (s := ⟨xa, xb, f⟩) (a := a) (b := b) (by simp [isS, d1])
            rw [← hsu2.out] at hno
            replace hno := Lib.hid hno
            go_wp2
            refine wp_region_grow (by kernel_rfl) (by kernel_rfl) ?_
            repeat (go_big_quiet_step ((fail)))
            refine wpQuiet_nil ?_
            rintro _ ⟨xg, rfl⟩
            have hb9 := bel_grow hbq xg
            generalize grow wr xg = W9 at *
            go_wp2
            go_roundw
            case rel => exact ⟨i + 1, by go_num, by omega, by rw [hno.out, hoo.out], by rw [hno.out]; exact hon, by first | assumption | (repeat (first | with_reducible exact Below.refl _ _ | with_reducible assumption | with_reducible refine bel_then ?_ _ | with_reducible refine bel_grow ?_ _ | with_reducible refine bel_alloc ?_ _ | with_reducible refine bel_drew ?_ | with_reducible refine bel_drewN ?_ _))⟩
            case measure => simp [intOf]; omega
        · obtain rfl : i = x.length := by omega
          rw [hal.out] at hon
          have hal2 := hal.out
          replace hal2 := Lib.hid hal2
          replace hon := Lib.hid hon
          go_wp2
          go_roundw
          case rel => exact ⟨f + 1, by go_num, by omega, by rw [hal2.out], hon.out, by repeat (first | with_reducible exact Below.refl _ _ | with_reducible assumption | with_reducible refine bel_then ?_ _ | with_reducible refine bel_grow ?_ _ | with_reducible refine bel_alloc ?_ _ | with_reducible refine bel_drew ?_ | with_reducible refine bel_drewN ?_ _)⟩
          case measure => simp [intOf]; omega
    · obtain rfl : f = fs.length := by omega
      rw [List.take_length] at hone ⊢
      go_wp2
      go_ret
      exact ⟨rfl, hbr⟩
end Go.Proofs.Ytbehobojgeganaa
