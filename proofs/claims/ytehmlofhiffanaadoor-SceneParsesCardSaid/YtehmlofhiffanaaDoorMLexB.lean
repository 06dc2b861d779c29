/- Decimal digits, and the document's own Show. -/
import Derived.Test.YtehmlofhiffanaaDoorMLexA
import Derived.Maps.AppendAt
namespace Go.Proofs.YtehmlofhiffanaaDoor
open Go.RowKit
set_option linter.unusedVariables false
set_option linter.unusedSimpArgs false
/-- A number's digits, the least one first. -/
def digR (m : Nat) : List Nat := if h : m < 10 then [m] else (m % 10) :: digR (m / 10)
termination_by m
theorem digR_one {m : Nat} (h : m < 10) : digR m = [m] := by rw [digR, dif_pos h]
theorem digR_more {m : Nat} (h : ¬ m < 10) : digR m = (m % 10) :: digR (m / 10) := by rw [digR, dif_neg h]
def u8s (l : List Nat) : List Value := l.map fun (c : Nat) => .int .u8 (c : Int)
theorem u8s_app (l : List Nat) (c : Nat) : u8s l ++ [.int .u8 (c : Int)] = u8s (l ++ [c]) := by unfold u8s; simp
theorem u8s_len (l : List Nat) : (u8s l).length = l.length := by unfold u8s; simp
theorem info8 : (Tryd.prog.info? 5).map (fun i => (i.zero, i.size, i.bytes)) = some (some (.int .u8 0), 1, 1) := by kernel_rfl
theorem rem10 (M : Nat) : Int.tmod (-(M : Int)) 10 = -((M % 10 : Nat) : Int) := by
  rw [Int.neg_tmod]
  rfl
theorem quo10 (M : Nat) : Int.tdiv (-(M : Int)) 10 = -((M / 10 : Nat) : Int) := by
  rw [Int.neg_tdiv]
  rfl
/-- The digits' bytes, the least one first. -/
def dgB (m : Nat) : List Nat := (digR m).map fun c => 48 + c
def textOf (l : List Nat) : ByteArray := (l.map fun (n : Nat) => (n : Int)).foldl (fun r n => r.push (UInt8.ofNat n.toNat)) ByteArray.empty
def showL (V : Int) : List Nat := (if V < 0 then [45] else []) ++ (dgB V.natAbs).reverse
theorem digR_len : ∀ k m, m < 10 ^ (k + 1) → (digR m).length ≤ k + 1
  | 0, m, h => by rw [digR_one (by simpa using h)]; simp
  | k + 1, m, h => by
    by_cases q : m < 10
    · rw [digR_one q]; simp
    · rw [digR_more q]
      have := digR_len k (m / 10) (by rw [Nat.pow_succ] at h; omega)
      simp only [List.length_cons]
      omega
theorem own_bytes {W : World} {base n : Nat} {v : Value} {l : List Nat} (h : W.ownsRow base 5 1 v n (u8s l)) (hl : l.length = n) (hn : 0 < n) :
    ∃ g cap, v = .slice (some ⟨g, 0, none⟩) n cap ∧ base ≤ g ∧ g < W.heap.size ∧ n ≤ cap ∧ cap ≤ maxLen ∧ ∀ k (hk : k < l.length), W.cell? ⟨g, k, none⟩ = some (.int .u8 (l[k] : Int)) := by
  have h0 := h
  obtain ⟨_, ⟨rfl, e⟩ | ⟨g, cap, cur, rfl, hb, hg, hnc, hcm, hcs, htake⟩⟩ := h
  · omega
  · refine ⟨g, cap, rfl, hb, (h0.lt g rfl).2, hnc, hcm, fun k hk => ?_⟩
    have c0 := h0.cellAt k (by omega)
    rw [show (u8s l)[k]? = some (.int .u8 (l[k] : Int)) by unfold u8s; simp [hk]] at c0
    simpa using c0
theorem conv_text (a : Act) (o : Oper) (x : Operand) (w : World) (ho : o.op = .convert 74 9 x) (g n cap : Nat) (l : List Nat) (hx : a.eval x = .slice (some ⟨g, 0, none⟩) n cap) (hl : l.length = n) (hc : ∀ k (hk : k < l.length), w.cell? ⟨g, k, none⟩ = some (.int .u8 (l[k] : Int))) :
    (execOp a.eval o).run Tryd.prog w = .ok (.value (.string (textOf l))) w := by
  have hcells : (loadCells ⟨g, 0, none⟩ n).run Tryd.prog w = .ok ((l.map fun (n : Nat) => (n : Int)).map (Value.int .u8)).toArray w := by
    have k := run_loadCells_list (P := Tryd.prog) (w := w) ⟨g, 0, none⟩ (u8s l) (fun j v hv => by
      have hj : j < l.length := by
        by_cases q : j < l.length
        · exact q
        · rw [List.getElem?_eq_none (by rw [u8s_len]; omega)] at hv; cases hv
      have e : (u8s l)[j]? = some (.int .u8 (l[j] : Int)) := by unfold u8s; simp [hj]
      rw [e] at hv
      injection hv with hv
      rw [← hv]
      have ea : (⟨g, 0, none⟩ : Addr).add j = ⟨g, j, none⟩ := by
        unfold Addr.add
        split <;> simp_all
      rw [ea]
      exact hc j hj)
    rw [u8s_len, hl] at k
    rw [k]
    unfold u8s
    simp
  unfold execOp
  rw [ho]
  simp only [hx, Sem.run_bind, run_convert_bytes_string w 74 9 5 _ _ _ Tryd.underlying74 Tryd.underlying5 Tryd.underlying9, run_bytesToString w _ _ _ _ hcells, Result.andThen_ok, Sem.run_pure]
  rfl
theorem foldl_push : ∀ (l : List Int) (b : ByteArray), (l.foldl (fun r n => r.push (UInt8.ofNat n.toNat)) b).data.toList = b.data.toList ++ l.map fun n => UInt8.ofNat n.toNat
  | [], b => by simp
  | n :: l, b => by
    rw [List.foldl_cons, foldl_push l]
    simp [ByteArray.push]
theorem textOf_list (l : List Nat) : (textOf l).data.toList = l.map fun n => UInt8.ofNat n := by
  unfold textOf
  rw [foldl_push]
  simp [ByteArray.empty, ByteArray.emptyWithCapacity, Function.comp_def]
  rfl
theorem textOf_size (l : List Nat) : (textOf l).size = l.length := by
  have : (textOf l).data.toList.length = l.length := by rw [textOf_list]; simp
  simpa using this
theorem textOf_bt (l : List Nat) (k : Nat) (hk : k < l.length) (h : l[k] < 256) : bt (textOf l) k = l[k] := by
  have hs : k < (textOf l).size := by rw [textOf_size]; exact hk
  rw [← bt_at _ _ hs]
  have e : (textOf l).data.toList[k]? = some (UInt8.ofNat l[k]) := by rw [textOf_list]; simp [hk]
  have e2 : (textOf l).data[k]'(by simpa using hs) = UInt8.ofNat l[k] := by
    rw [Array.getElem?_toList] at e
    exact (Array.getElem?_eq_some_iff.1 e).2
  have e3 : (textOf l)[k] = UInt8.ofNat l[k] := e2
  rw [e3]
  simp
  omega
end Go.Proofs.YtehmlofhiffanaaDoor
