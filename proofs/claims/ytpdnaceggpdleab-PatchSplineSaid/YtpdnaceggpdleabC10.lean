/- Copies of rows and of faces. Copies of rows and of faces that may be empty. Sides of faces, as the document goes over them. No program is imported. The document's along. The document's next. The document's good. -/
import Derived.Deep.Upon
import Derived.Test.YtpdnaceggpdleabC0
import Derived.Test.YtpdnaceggpdleabC1
import Derived.Test.YtpdnaceggpdleabC5
import Derived.Test.YtpdnaceggpdleabC9
namespace Go.Proofs.Ytpdnaceggpdleab
open Go.RowKit
set_option linter.unusedVariables false
set_option linter.unusedSimpArgs false
set_option linter.unnecessarySimpa false
set_option maxRecDepth 100000


theorem OwnF.base {W : World} {base base' c : Nat} {A : Option Addr} {fans : List (List Int)} (h : OwnF W base A c fans) (hb : base' ≤ base) : OwnF W base' A c fans := by
  obtain ⟨vals, h1, h2⟩ := h.row
  exact ⟨vals, own_base h1 hb, fun i hi => by obtain ⟨B, m, h3, h4⟩ := h2 i hi; exact ⟨B, m, h3, own_base h4 hb⟩⟩
theorem WalkOk.corner_rng {n : Int} {fs : List (List Int)} (h : WalkOk n fs) {x : List Int} (hx : x ∈ fs) {y : Int} (hy : y ∈ x) : 0 ≤ y ∧ y < n := by
  obtain ⟨j, hj, rfl⟩ := List.getElem_of_mem hx
  have : y ∈ (waysF ((0 + j : Nat) : Int) fs[j]).map Way.b := by unfold waysF; rw [wayR_b]; exact hy
  obtain ⟨w, hw, rfl⟩ := List.mem_map.1 this
  exact h.inr w ((mem_waysL fs 0 w).2 ⟨j, hj, hw⟩)
set_option maxHeartbeats 1000000 in
theorem copyI_any (W : World) (A : Option Addr) (c : Nat) (ns : List Int) (hA : IL W A ns) (hpos : 0 < ns.length) (hn : ns.length < 1099511627776) :
    Calls Try.prog 44 #[.slice A ns.length c] W fun e W' => ∃ B d, e = .returned (.slice B ns.length d) ∧ W'.ownsRow W.heap.size 3 1 (.slice B ns.length d) ns.length (ints ns) ∧ Below W.heap.size W W' := by
  obtain ⟨i0, hi0, hz0, hz1, hz2⟩ := info_parts infoI
  have hown := own_empty W W.heap.size 3 (Nat.le_refl _)
  have hb0 : Below W.heap.size W (W.alloc (.cells #[] 3)) := bel_alloc (Below.refl _ _) _
  obtain ⟨b, off, rfl, hbl, hc⟩ := (hA.below hb0) hpos
  go_enter Try.func44, Try.ntmps44
  go_upto_region 2 with (fail)
  generalize hWe : W.alloc (.cells #[] 3) = W1 at *
  have hob := own_block hown
  have hcells : ∀ j u, (ints ns)[j]? = some u → W1.cell? ((⟨b, off, none⟩ : Addr).add j) = some u := fun j u hu => by
    have hj : j < ns.length := by have := (List.getElem?_eq_some_iff.1 hu).1; simpa [ints] using this
    rw [addr_addN, hc j hj]
    simpa [ints, hj] using hu
  have h1c : ∀ u ∈ ints ns, u.oneCell' = true := fun u hu => by obtain ⟨y, _, rfl⟩ := List.mem_map.1 hu; rfl
  go_wp2_with (first | (at_builtin; (refine wpList_append_own _ rfl _ _ 31 rfl W.heap.size 3 i0 _ 1 8 Try.underlying31 hi0 hz0 hz1 hz2 rfl (by decide) _ _ _ rfl hown ⟨b, off, none⟩ ns.length c (ints ns) rfl (by simp [ints]) hcells h1c (by unfold maxLen; omega) (by omega) hb0.size ?_); intro v3 W3 hown3 hg3 hnil; obtain ⟨A3b, c3b, rfl⟩ := own_form hown3) | fail)
  go_ret
  refine ⟨A3b, c3b, by simp, by simpa using hown3, bel_own hb0 hg3 (fun k hk => (hob k hk).1)⟩
end Go.Proofs.Ytpdnaceggpdleab
namespace Go.Proofs.Ytpdnaceggpdleab
open Go.RowKit
set_option linter.unusedVariables false
set_option linter.unusedSimpArgs false
set_option linter.unnecessarySimpa false
set_option maxRecDepth 100000
theorem srcN (w : World) (A : Option Addr) (c size : Nat) : Src Try.prog size 31 (.slice A 0 c) 0 [] w :=
  by
  cases A with
  | none => exact Src.ofNil w Try.underlying31 c
  | some a => exact Src.ofSlice w Try.underlying31 a 0 c [] (by simp) (fun j u h => by simp at h) (fun u h => by cases h)
set_option maxHeartbeats 1000000 in
theorem copyI_any0 (W : World) (A : Option Addr) (c : Nat) (ns : List Int) (hA : IL W A ns) (hn : ns.length < 1099511627776) :
    Calls Try.prog 44 #[.slice A ns.length c] W fun e W' => ∃ B d, e = .returned (.slice B ns.length d) ∧ W'.ownsRow W.heap.size 3 1 (.slice B ns.length d) ns.length (ints ns) ∧ Below W.heap.size W W' := by
  by_cases hpos : 0 < ns.length
  · exact copyI_any W A c ns hA hpos hn
  · obtain rfl : ns = [] := List.eq_nil_of_length_eq_zero (by omega)
    have hi : ∃ i, Try.prog.info? 3 = some i := by
      obtain ⟨i0, hi0, _⟩ := info_parts infoI
      exact ⟨i0, hi0⟩
    obtain ⟨i0, hi0⟩ := hi
    have hown := own_empty W W.heap.size 3 (Nat.le_refl _)
    have hb0 : Below W.heap.size W (W.alloc (.cells #[] 3)) := bel_alloc (Below.refl _ _) _
    have hrun := run_append_nothing (P := Try.prog) (W.alloc (.cells #[] 3)) 31 31 31 3 i0 Try.underlying31 hi0 (some ⟨W.heap.size, 0, none⟩) 0 0 (Nat.le_refl _) (.slice A 0 c) (srcN _ A c _)
    go_enter Try.func44, Try.ntmps44
    go_upto_region 2 with (fail)
    generalize hWe : W.alloc (.cells #[] 3) = W1 at *
    go_wp2_with (first | (at_builtin; go_loud (refine wpList_val rfl (.slice (some ⟨W.heap.size, 0, none⟩) 0 0) W1 (by unfold execOp; simp only [resolve, invoke, builtin, Sem.run_bind, Sem.run_pure, Result.andThen_ok, List.map_toArray, List.map_cons, List.map_nil]; exact congrArg (fun r => Result.andThen r (fun a w' => Result.ok (Next.value a) w')) hrun) ?_)) | fail)
    go_ret
    exact ⟨_, 0, rfl, by simpa [ints] using hown, hb0⟩
set_option maxHeartbeats 1000000 in
theorem copyF_any0 (W : World) (A : Option Addr) (k : Nat) (fs : List (List Int)) (hA : FL W A fs) (hl : fs.length < 1099511627776) (hx : ∀ x ∈ fs, x.length < 1099511627776) :
    Calls Try.prog 21 #[.slice A fs.length k] W fun e W' => ∃ B d, e = .returned (.slice B fs.length d) ∧ OwnF W' W.heap.size B d fs ∧ Below W.heap.size W W' := by
  obtain ⟨i1, hi1, hy0, hy1, hy2⟩ := info_parts infoIS
  have hown0 := own_empty W W.heap.size 31 (Nat.le_refl _)
  have hb0 : Below W.heap.size W (W.alloc (.cells #[] 31)) := bel_alloc (Below.refl _ _) _
  go_enter Try.func21, Try.ntmps21
  go_upto_region 2 with (fail)
  generalize hWe : W.alloc (.cells #[] 31) = W1 at *
  clear hWe
  go_wp2
  go_loopw [3, 4] (fun bv fv wr => ∃ (f : Nat) (A9 : Option Addr) (c9 : Nat), fv = .int .i64 (f : Int) ∧ f ≤ fs.length ∧ bv = .slice A9 f c9 ∧ OwnF wr W.heap.size A9 c9 (fs.take f) ∧ Below W.heap.size W wr) (fun _ fv _ => fs.length - (intOf fv).toNat)
  case atStart => exact ⟨0, some ⟨W.heap.size, 0, none⟩, 0, rfl, by omega, by simp, ⟨[], by simpa using hown0, fun i hi => by simp at hi⟩, hb0⟩
  case round =>
    obtain ⟨f, A9, c9, rfl, hf, rfl, hOF, hbel⟩ := hrel
    clear hown0 hb0
    by_cases hfl : f < fs.length
    · obtain ⟨b, off, Bf, m, rfl, hbl, hcell, hIL⟩ := (hA.below hbel).at_ f hfl
      have htk : fs.take (f + 1) = fs.take f ++ [fs[f]] := List.take_succ_eq_append_getElem hfl
      have hx2 := hx _ (List.getElem_mem hfl)
      have hl9 : (fs.take f).length = f := by simp; omega
      replace hl9 := Lib.hid hl9
      generalize fs[f] = x at *
      replace htk := Lib.hid htk
      have k0 : (0 : Int) ≤ (f : Int) := by omega
      have k1 : (f : Int) < (fs.length : Int) := by omega
      have cC := copyI_any0 wr Bf m x hIL hx2
      have hsz0 := hbel.size
      go_wp2_with (first
        | (go_at_call 44; (with_reducible refine cC.mono ?_); rintro e W2 ⟨A2, c2, rfl, hown, hb2⟩; have hOF2 := hOF.lay hb2; obtain ⟨vals, hO1b, hO2⟩ := hOF2.row; have hO1 : W2.ownsRow W.heap.size 31 1 (.slice A9 f c9) f vals := (by have h9 := hO1b; rw [hl9.out] at h9; exact h9); replace hO1b := Lib.hid hO1b; have hob := own_block hO1; have hsz2 := hb2.size)
        | (at_builtin; (refine wpList_append_own _ rfl _ _ 24 rfl W.heap.size 31 i1 _ 1 24 Try.underlying24 hi1 hy0 hy1 hy2 rfl (by decide) _ _ _ rfl (hO1.alloc _) ⟨W2.heap.size, 0, none⟩ 1 1 [.slice A2 x.length c2] rfl rfl (cell_one_new _ _ _) (fun x hx => by simp at hx; subst hx; rfl) (by unfold maxLen; omega) (by omega) (by simp; omega) ?_); intro v6 W6 hown6 hg6 hnil; have hg56 : W2.grownBy W6 (Value.slice A9 f c9).ownBlock := (World.grownBy_alloc _ _ _).trans hg6; clear hg6 hnil; obtain ⟨A6b, c6b, rfl⟩ := own_form hown6) | fail)
      have hOF6 := OwnF.add (x := x) hO2 hO1b.out (own_base hown hsz0) (by rw [hl9.out]; exact hg56) (by rw [hl9.out]; exact hown6)
      have hb6 := bel_own (bel_trans hbel hb2) hg56 (fun k hk => (hob k hk).1)
      go_roundw
      case rel => exact ⟨f + 1, A6b, c6b, by go_num, by omega, rfl, by rw [htk.out]; exact hOF6, hb6⟩
      case measure => simp [intOf]; omega
    · obtain rfl : f = fs.length := by omega
      simp only [List.take_length] at hOF
      go_wp2
      go_ret
      exact ⟨A9, c9, rfl, hOF, hbel⟩
end Go.Proofs.Ytpdnaceggpdleab
namespace Go.Proofs.Ytpdnaceggpdleab
set_option linter.unusedVariables false
set_option linter.unusedSimpArgs false
/-- A side: from, to, its face. -/
structure Sd where
  a : Int
  b : Int
  f : Int
def sF (f : Int) (x : List Int) : List Sd := (List.range x.length).map fun i => ⟨x.getD i 0, x.getD ((i + 1) % x.length) 0, f⟩
def sL : Nat → List (List Int) → List Sd
  | _, [] => []
  | k, x :: r => sF k x ++ sL (k + 1) r
def isS (a b : Int) (s : Sd) : Bool := s.a == a && s.b == b
def outS (l : List Sd) : Int := match l with
  | [] => -1
  | [s] => s.f
  | _ => -2
/-- Which face goes from a to b, by the document. -/
def alongV (fs : List (List Int)) (a b : Int) : Int := outS ((sL 0 fs).filter (isS a b))
end Go.Proofs.Ytpdnaceggpdleab
namespace Go.Proofs.Ytpdnaceggpdleab
open Go.RowKit
set_option linter.unusedVariables false
set_option linter.unusedSimpArgs false
set_option linter.unnecessarySimpa false
set_option maxRecDepth 100000

/-- The sides of the faces ahead of f, and i of face f's. -/
def pre (fs : List (List Int)) (f i : Nat) (x : List Int) : List Sd := sL 0 (fs.take f) ++ (sF (f : Int) x).take i
end Go.Proofs.Ytpdnaceggpdleab
namespace Go.Proofs.Ytpdnaceggpdleab
open Go.RowKit
set_option linter.unusedVariables false
set_option linter.unusedSimpArgs false
set_option linter.unnecessarySimpa false
set_option maxRecDepth 100000

end Go.Proofs.Ytpdnaceggpdleab
namespace Go.Proofs.Ytpdnaceggpdleab
open Go.RowKit
set_option linter.unusedVariables false
set_option linter.unusedSimpArgs false
set_option linter.unnecessarySimpa false
set_option maxRecDepth 100000

def C1 (V : Int) (x : List Int) (i : Nat) : Prop := 0 ≤ x.getD i 0 ∧ x.getD i 0 < V ∧ ∀ k, k < i → x.getD i 0 ≠ x.getD k 0
structure GF (V : Int) (fs : List (List Int)) (x : List Int) : Prop where
  three : 3 ≤ x.length
  one : ∀ i, i < x.length → C1 V x i
  goes : ∀ i, i < x.length → 0 ≤ alongV fs (x.getD i 0) (x.getD ((i + 1) % x.length) 0)
theorem calls_quiet {f : FuncId} {args : Array Value} {v : Value} {w : World} (x : More) (h : Calls Try.prog f args (grow w x) fun e w' => e = .returned v ∧ Below (grow w x).heap.size (grow w x) w') : Calls Try.prog f args (grow w x) fun e w'' => e = .returned v ∧ ∃ y, w'' = grow w y :=
  h.mono fun _ _ ⟨he, hb⟩ => ⟨he, by obtain ⟨y, hy⟩ := grow_of hb; exact ⟨x.then y, hy⟩⟩
theorem calls_quiet2 {f : FuncId} {args : Array Value} {v : Value} {w : World} (x y : More) (h : Calls Try.prog f args (grow w (x.then y)) fun e w' => e = .returned v ∧ Below (grow w (x.then y)).heap.size (grow w (x.then y)) w') : Calls Try.prog f args (grow w (x.then y)) fun e w'' => e = .returned v ∧ ∃ z, w'' = grow w (x.then z) :=
  h.mono fun _ _ ⟨he, hb⟩ => ⟨he, by obtain ⟨z, hz⟩ := grow_of hb; exact ⟨y.then z, hz⟩⟩
theorem getD_at {x : List Int} {i : Nat} (h : i < x.length) : x.getD i 0 = x[i] := by rw [List.getD_eq_getElem?_getD, List.getElem?_eq_getElem h]; rfl

end Go.Proofs.Ytpdnaceggpdleab
