/- Rows of numbers that are the same; the vertices whose fans are round. -/
import Derived.Test.YtbehobojgeganaaTopH
import Derived.Test.YtbehobojgeganaaTopT
import Derived.Test.YtbehobojgeganaaMono
import Derived.Deep.MidRow
namespace Go.Proofs.Ytbehobojgeganaa
open Go.RowKit
set_option linter.unusedVariables false
set_option linter.unusedSimpArgs false
set_option linter.unnecessarySimpa false
set_option maxRecDepth 100000


theorem own_empty (W : World) (base : Nat) (e : TypeId) (hb : base ≤ W.heap.size) : (W.alloc (.cells #[] e)).ownsRow base e 1 (.slice (some ⟨W.heap.size, 0, none⟩) 0 0) 0 [] :=
  ⟨rfl, .inr ⟨W.heap.size, 0, #[], rfl, hb, Blk.new _ _ _ _ rfl, Nat.le_refl _, by unfold maxLen; omega, rfl, rfl⟩⟩
set_option maxHeartbeats 1000000 in
theorem sameI_yes (w : World) (A B : Option Addr) (c d : Nat) (ns : List Int) (hA : IL w A ns) (hB : IL w B ns) (hs : ns.length ≤ 1099511627776) :
    Calls Try.prog 24 #[.slice A ns.length c, .slice B ns.length d] w fun e w' => e = .returned (.bool true) ∧ Below w.heap.size w w' := by
  go_enter Try.func24, Try.ntmps24
  go_wp2
  go_loopw [5] (fun i wr => ∃ k : Nat, i = .int .i64 (k : Int) ∧ k ≤ ns.length ∧ Below w.heap.size w wr) (fun i _ => ns.length - (intOf i).toNat)
  case atStart => exact ⟨0, rfl, by omega, Below.refl _ _⟩
  case round =>
    obtain ⟨k, rfl, hk, hb⟩ := hrel
    by_cases hlt : k < ns.length
    · obtain ⟨b, off, rfl, hbl, c1⟩ := (hA.below hb).at_ k hlt
      obtain ⟨b2, off2, rfl, hbl2, c2⟩ := (hB.below hb).at_ k hlt
      have k0 : (0 : Int) ≤ (k : Int) := by omega
      have k1 : (k : Int) < (ns.length : Int) := by omega
      generalize ns[k] = x at *
      clear hA hB
      go_wp2_with fail
      refine wp_region_grow (by kernel_rfl) (by kernel_rfl) ?_
      repeat (go_big_quiet_step ((fail)))
      refine wpQuiet_nil ?_
      rintro _ ⟨xg, rfl⟩
      have hb9 := bel_grow hb xg
      go_wp2_with fail
      go_roundw
      case rel => exact ⟨k + 1, by go_num, by omega, hb9⟩
      case measure => simp [intOf]; omega
    · obtain rfl : k = ns.length := by omega
      go_wp2
      go_ret
      exact ⟨rfl, hb⟩
theorem fm_congr {α β : Type} {f g : α → Option β} : ∀ (l : List α), (∀ x ∈ l, f x = g x) → l.filterMap f = l.filterMap g
  | [], _ => rfl
  | x :: l, h => by rw [List.filterMap_cons, List.filterMap_cons, h x (by simp), fm_congr l fun y hy => h y (List.mem_cons_of_mem _ hy)]
def rl (rs : List Bool) : List Int := (List.range rs.length).filterMap fun i => if rs.getD i false then some (i : Int) else none
theorem rl_take (rs : List Bool) (i : Nat) (h : i < rs.length) : rl (rs.take (i + 1)) = rl (rs.take i) ++ if rs[i] then [(i : Int)] else [] := by
  have h1 : (rs.take (i + 1)).length = i + 1 := by simp; omega
  have h2 : (rs.take i).length = i := by simp; omega
  have g : ∀ m k, k < m → m ≤ rs.length → (rs.take m).getD k false = rs.getD k false := fun m k hk hm => by
    rw [List.getD_eq_getElem?_getD, List.getD_eq_getElem?_getD, List.getElem?_take_of_lt hk]
  unfold rl
  rw [h1, h2, List.range_succ, List.filterMap_append]
  congr 1
  · apply fm_congr
    intro k hk
    rw [List.mem_range] at hk
    rw [g (i + 1) k (by omega) (by omega), g i k hk (by omega)]
  · have e : (rs.take (i + 1)).getD i false = rs[i] := by
      rw [g (i + 1) i (by omega) (by omega), List.getD_eq_getElem?_getD, List.getElem?_eq_getElem h]; rfl
    rw [List.filterMap_cons, e]
    cases rs[i] <;> rfl
theorem rl_len (rs : List Bool) : (rl rs).length ≤ rs.length := by
  unfold rl
  refine Nat.le_trans (List.length_filterMap_le _ _) ?_
  simp
/-- A slot that holds a row of these numbers. -/
def PI (ns : List Int) : World → Value → Prop := fun w v => ∃ A c, v = .slice A ns.length c ∧ IL w A ns
theorem PI.stays (ns : List Int) : Stays (PI ns) := fun _ _ _ hB ⟨A, c, e, h⟩ => ⟨A, c, e, h.below hB⟩
theorem ldm_run (a : Act) (o : Oper) (w : World) (ty : TypeId) (x : Operand) (ho : o.op = .load ty x) (b off : Nat) (hx : a.eval x = .pointer (some ⟨b, off, none⟩)) (cs : List Value) (d : TypeDesc) (hc : w.rangeAt b off cs)
    (hu : Try.prog.underlying ty = some d) (hd : d.isRow = true) (hi : (Try.prog.info? ty).map (·.size) = some cs.length) : (execOp a.eval o).run Try.prog w = .ok (.value (.agg cs.toArray)) w := by
  unfold execOp
  simp only [ho, hx, Instr.loadAt, Instr.sureAddr, Sem.run_bind, Sem.run_pure, Result.andThen_ok, run_loadVar_mid w b off ty cs d hc hu hd hi]
theorem rng3 {w : World} {b off : Nat} {x y z : Value} (h0 : w.cell? ⟨b, off, none⟩ = some x) (h1 : w.cell? ⟨b, off + 1, none⟩ = some y) (h2 : w.cell? ⟨b, off + 2, none⟩ = some z) : w.rangeAt b off [x, y, z] := fun j v hv => by
  match j, hv with
  | 0, hv => simp at hv; subst hv; exact h0
  | 1, hv => simp at hv; subst hv; exact h1
  | 2, hv => simp at hv; subst hv; exact h2
  | j + 3, hv => simp at hv
theorem infoTT : (Try.prog.info? 29).map (·.size) = some 3 := by kernel_rfl
set_option maxHeartbeats 2000000 in
theorem rounds_any (W : World) (A1 A2 A3 : Option Addr) (n1 n2 c1 c2 c3 : Nat) (rs : List Bool) (hB : BL W A3 rs) (hn : rs.length < 1099511627776) :
    Calls Try.prog 25 #[.agg #[.slice A1 n1 c1, .slice A2 n2 c2, .slice A3 rs.length c3]] W fun e W' => ∃ A c, e = .returned (.slice A (rl rs).length c) ∧ IL W' A (rl rs) ∧ Below W.heap.size W W' := by
  obtain ⟨i0, hi0, hz0, hz1, hz2⟩ := info_parts infoI
  have hb0 : Below W.heap.size W (W.alloc (.cells #[.slice A1 n1 c1, .slice A2 n2 c2, .slice A3 rs.length c3] 29)) := bel_alloc (Below.refl _ _) _
  have hbx : Blk (W.alloc (.cells #[.slice A1 n1 c1, .slice A2 n2 c2, .slice A3 rs.length c3] 29)) W.heap.size 29 #[.slice A1 n1 c1, .slice A2 n2 c2, .slice A3 rs.length c3] := Blk.new _ _ _ _ rfl
  have hsz : (W.alloc (.cells #[.slice A1 n1 c1, .slice A2 n2 c2, .slice A3 rs.length c3] 29)).heap.size = W.heap.size + 1 := World.size_alloc _ _
  go_enter Try.func25, Try.ntmps25
  go_upto_region 1 with (fail)
  generalize W.alloc (.cells #[.slice A1 n1 c1, .slice A2 n2 c2, .slice A3 rs.length c3] 29) = W1 at *
  have hown0 := own_empty W1 (W.heap.size + 1) 3 (by omega)
  have hb1 := bel_alloc hb0 (.cells #[] 3)
  have hbx1 := hbx.alloc (.cells #[] 3)
  have hBL := hB.below hb1
  go_upto_region 2 with (fail)
  generalize hWe : W1.alloc (.cells #[] 3) = W2 at *
  rw [hsz] at hown0
  clear hWe hb0 hbx
  go_wp2
  go_loopw [3, 4] (fun lv iv wr => ∃ (i : Nat) (A : Option Addr) (c : Nat), iv = .int .i64 (i : Int) ∧ i ≤ rs.length ∧ lv = .slice A (rl (rs.take i)).length c ∧ wr.ownsRow (W.heap.size + 1) 3 1 (.slice A (rl (rs.take i)).length c) (rl (rs.take i)).length (ints (rl (rs.take i))) ∧ Below W.heap.size W wr ∧ Blk wr W.heap.size 29 #[.slice A1 n1 c1, .slice A2 n2 c2, .slice A3 rs.length c3]) (fun _ iv _ => rs.length - (intOf iv).toNat)
  case atStart => exact ⟨0, some ⟨W.heap.size + 1, 0, none⟩, 0, rfl, by omega, by simp [rl], by simpa [rl, ints] using hown0, hb1, hbx1⟩
  case round =>
    obtain ⟨i, A, c, rfl, hi, rfl, hown, hbr, hT⟩ := hrel
    clear hown0 hb1 hbx1 hBL
    have x2 : wr.cell? ⟨W.heap.size, 2, none⟩ = some (.slice A3 rs.length c3) := hT.cell 2
    have xl := hT.lt
    by_cases hil : i < rs.length
    · obtain ⟨b, off, rfl, hbl, hc⟩ := (hB.below hbr) (by omega)
      have g1 := hc i hil
      have htk := rl_take rs i hil
      have hll := rl_len (rs.take i)
      have hll2 : (rl (rs.take i)).length ≤ i := by simp at hll; omega
      clear hc hll
      replace htk := Lib.hid htk
      have k0 : (0 : Int) ≤ (i : Int) := by omega
      have k1 : (i : Int) < (rs.length : Int) := by omega
      generalize hxs : rl (rs.take i) = xs at *
      replace hxs := Lib.hid hxs
      cases hri : rs[i] with
      | false =>
        rw [hri] at g1
        replace hri := Lib.hid hri
        go_wp2
        go_roundw
        case rel => exact ⟨i + 1, A, c, by go_num, by omega, by rw [htk.out, hri.out]; simp, by rw [htk.out, hri.out]; simpa using hown, hbr, hT⟩
        case measure => simp [intOf]; omega
      | true =>
        rw [hri] at g1
        replace hri := Lib.hid hri
        have hob := own_block hown
        go_wp2_with (first | (at_builtin; (refine wpList_append_own _ rfl _ _ 41 rfl (W.heap.size + 1) 3 i0 _ 1 8 Try.underlying41 hi0 hz0 hz1 hz2 rfl (by decide) _ _ _ rfl (hown.alloc _) ⟨wr.heap.size, 0, none⟩ 1 1 [.int .i64 (i : Int)] rfl rfl (cell_one_new _ _ _) (fun x hx => by simp at hx; subst hx; rfl) (by unfold maxLen; omega) (by omega) (by simp; omega) ?_); intro v3 W3 hown3 hg3 hnil; have hg3b : wr.grownBy W3 (Value.slice A xs.length c).ownBlock := (World.grownBy_alloc _ _ _).trans hg3; clear hg3 hnil; obtain ⟨A3b, c3b, rfl⟩ := own_form hown3) | fail)
        have hb3 := bel_own hbr hg3b (fun k hk => by have := (hob k hk).1; omega)
        have hT3 : Blk W3 W.heap.size 29 #[.slice A1 n1 c1, .slice A2 n2 c2, .slice (some ⟨b, off, none⟩) rs.length c3] := (hg3b.block _ xl (fun e => by have := (hob _ e.symm).1; omega)).trans hT
        go_roundw
        case rel => exact ⟨i + 1, A3b, c3b, by go_num, by omega, by rw [htk.out, hri.out]; simp, by rw [htk.out, hri.out]; simpa [ints] using hown3, hb3, hT3⟩
        case measure => simp [intOf]; omega
    · obtain rfl : i = rs.length := by omega
      rw [List.take_length] at *
      go_wp2
      go_ret
      exact ⟨A, c, rfl, IL_own hown, hbr⟩
end Go.Proofs.Ytbehobojgeganaa