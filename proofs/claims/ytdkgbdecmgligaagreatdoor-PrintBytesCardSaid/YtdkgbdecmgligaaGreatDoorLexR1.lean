/- What the document's own Lines carries from byte to byte: three rows of its own. -/
import Derived.Test.YtdkgbdecmgligaaGreatDoorMLexQ
import Derived.Test.YtdkgbdecmgligaaGreatDoorMLexB
namespace Go.Proofs.YtdkgbdecmgligaaGreatDoor
open Go.RowKit
set_option linter.unusedVariables false
set_option linter.unusedSimpArgs false
theorem kept_ne {w w' : World} {b1 b2 : Nat} {e1 e2 : TypeId} {s1 s2 : Nat} {v1 v2 : Value} {n1 n2 : Nat} {x1 x2 : List Value} (h1 : w.ownsRow b1 e1 s1 v1 n1 x1) (h2 : w.ownsRow b2 e2 s2 v2 n2 x2) (he : e1 ≠ e2) (hg : w.grownBy w' v2.ownBlock) : w'.ownsRow b1 e1 s1 v1 n1 x1 :=
  h1.kept hg (own_ne h1 h2 he)
theorem str_ne_u8 : (9 : TypeId) ≠ 5 := by decide
theorem line_ne_u8 : (73 : TypeId) ≠ 5 := by decide
theorem line_ne_str2 : (73 : TypeId) ≠ 9 := by decide
theorem u8_ne_str : (5 : TypeId) ≠ 9 := by decide
theorem u8_ne_line : (5 : TypeId) ≠ 73 := by decide
structure RR (w wr : World) (v vw vb : Value) (ls : List Ln) (W : List (List UInt8)) (wd : List UInt8) (B : Nat) : Prop where
  out : LNS wr w.heap.size v ls
  low : ∀ q ∈ ls, ∀ b, q.at_.ownBlock = some b → b < B
  words : wr.ownsRow B 9 1 vw W.length (strs W)
  word : wr.ownsRow w.heap.size 5 1 vb wd.length (u8s (nb wd))
  b1 : w.heap.size ≤ B
  b2 : B ≤ wr.heap.size
  bel : Below w.heap.size w wr
theorem RR.alloc {w wr : World} {v vw vb : Value} {ls : List Ln} {W : List (List UInt8)} {wd : List UInt8} {B : Nat} (h : RR w wr v vw vb ls W wd B) (o : Obj) : RR w (wr.alloc o) v vw vb ls W wd B :=
  ⟨h.out.below (bel_alloc (Below.refl _ _) _), h.low, h.words.alloc o, h.word.alloc o, h.b1, Nat.le_trans h.b2 (by simp), bel_alloc h.bel _⟩
theorem RR.byte {w wr : World} {v vw vb : Value} {ls : List Ln} {W : List (List UInt8)} {wd : List UInt8} {B : Nat} (h0 : RR w wr v vw vb ls W wd B) {w4 : World} {v' : Value} {o : Obj} (x : UInt8) (c : Nat) (hx : x.toNat = c)
    (hown : w4.ownsRow w.heap.size 5 1 v' (wd.length + 1) (u8s (nb wd) ++ [.int .u8 (c : Int)])) (hg : (wr.alloc o).grownBy w4 vb.ownBlock) : RR w w4 v vw v' ls W (wd ++ [x]) B := by
  have h := h0.alloc o
  refine ⟨⟨kept_ne h.out.1 h.word line_ne_u8 hg, fun q hq => ?_⟩, h.low, kept_ne h.words h.word str_ne_u8 hg, ?_, h.b1, Nat.le_trans h.b2 hg.size, h.bel.grown hg h.bel.size fun k hk => (h.word.lt k hk).1⟩
  · obtain ⟨q1, q2, q3, q4⟩ := h.out.2 q hq
    exact ⟨q1, q2, q3, kept_ne q4 h.word str_ne_u8 hg⟩
  · rw [u8s_app] at hown
    have e : nb wd ++ [c] = nb (wd ++ [x]) := by unfold nb; simp [hx]
    rw [e] at hown
    simpa using hown
theorem RR.endw {w wr : World} {v vw vb : Value} {ls : List Ln} {W : List (List UInt8)} {wd : List UInt8} {B : Nat} (h0 : RR w wr v vw vb ls W wd B) {w4 : World} {v' : Value} {o : Obj}
    (hown : w4.ownsRow B 9 1 v' (W.length + 1) (strs W ++ [.string ⟨wd.toArray⟩])) (hg : (wr.alloc o).grownBy w4 vw.ownBlock) : RR w w4 v v' (.slice none 0 0) ls (W ++ [wd]) [] B := by
  have h := h0.alloc o
  refine ⟨⟨kept_ne h.out.1 h.words line_ne_str2 hg, fun q hq => ?_⟩, h.low, ?_, World.ownsRow_nil _ _ _ _, h.b1, Nat.le_trans h.b2 hg.size, h.bel.grown hg h.bel.size fun k hk => Nat.le_trans h.b1 (h.words.lt k hk).1⟩
  · obtain ⟨q1, q2, q3, q4⟩ := h.out.2 q hq
    refine ⟨q1, q2, q3, q4.kept hg ?_⟩
    cases e : q.at_.ownBlock with
    | none => exact .inl rfl
    | some b =>
      right
      intro e2
      have l1 := h.low q hq b e
      have l2 := (h.words.lt b e2.symm).1
      omega
  · have e : strs W ++ [.string ⟨wd.toArray⟩] = strs (W ++ [wd]) := by unfold strs; simp
    rw [e] at hown
    simpa using hown
theorem RR.endl {w wr : World} {v vw vb : Value} {ls : List Ln} {W : List (List UInt8)} {wd : List UInt8} {B : Nat} (h0 : RR w wr v vw vb ls W wd B) {w4 : World} {v' : Value} {o : Obj} (no : Nat) (hW : 0 < W.length) (hW2 : W.length ≤ 65537) (hno : no ≤ 1048576)
    (hown : w4.ownsRow w.heap.size 73 2 v' (ls.length + 1) (lnC ls ++ [.int .i64 (no : Int), vw])) (hg : (wr.alloc o).grownBy w4 v.ownBlock) : RR w w4 v' (.slice none 0 0) vb (ls ++ [⟨no, vw, W⟩]) [] wd w4.heap.size := by
  have h := h0.alloc o
  have e : lnC ls ++ [.int .i64 (no : Int), vw] = lnC (ls ++ [⟨no, vw, W⟩]) := by rw [lnC_app]; rfl
  rw [e] at hown
  refine ⟨LNS.grown h.out (fun q hq => ?_) hg (by simpa using hown), fun q hq b hb => ?_, World.ownsRow_nil _ _ _ _, kept_ne h.word h.out.1 u8_ne_line hg, ?_, Nat.le_refl _, h.bel.grown hg h.bel.size fun k hk => (h.out.1.lt k hk).1⟩
  · rw [List.mem_singleton] at hq
    subst hq
    exact ⟨hW, hW2, trivial, own_mono h.words h.b1⟩
  · rcases List.mem_append.1 hq with hq | hq
    · exact Nat.lt_of_lt_of_le (h.low q hq b hb) (Nat.le_trans h.b2 hg.size)
    · rw [List.mem_singleton] at hq
      subst hq
      exact Nat.lt_of_lt_of_le (h.words.lt b hb).2 hg.size
  · exact Nat.le_trans h.bel.size hg.size
theorem RR.nowords {w wr : World} {v vw vb : Value} {ls : List Ln} {wd : List UInt8} {B : Nat} (h : RR w wr v vw vb ls [] wd B) : RR w wr v (.slice none 0 0) vb ls [] wd B :=
  ⟨h.out, h.low, World.ownsRow_nil _ _ _ _, h.word, h.b1, h.b2, h.bel⟩
theorem RR.noword {w wr : World} {v vw vb : Value} {ls : List Ln} {W : List (List UInt8)} {B : Nat} (h : RR w wr v vw vb ls W [] B) : RR w wr v vw (.slice none 0 0) ls W [] B :=
  ⟨h.out, h.low, h.words, World.ownsRow_nil _ _ _ _, h.b1, h.b2, h.bel⟩
theorem textOf_nb (wd : List UInt8) : textOf (nb wd) = ⟨wd.toArray⟩ := by
  apply ByteArray.ext
  apply Array.ext'
  rw [textOf_list]
  unfold nb
  simp [Function.comp_def]
/-- One step, told in lists of bytes. -/
def stOf (no : Nat) (W : List (List UInt8)) (wd : List UInt8) (rm : Bool) (ls : List Ln) : LSt := ⟨no, W.map nb, nb wd, rm, outOf ls⟩
theorem endW_of (no : Nat) (W : List (List UInt8)) (wd : List UInt8) (rm : Bool) (ls : List Ln) : endW (stOf no W wd rm ls) = (if wd = [] then W else W ++ [wd]).map nb := by
  unfold endW stOf
  cases wd with
  | nil => simp [nb]
  | cons a t => simp [nb]
theorem step_end (no : Nat) (W : List (List UInt8)) (wd : List UInt8) (rm : Bool) (ls : List Ln) (a : Value) : step1 (stOf no W wd rm ls) 10 = stOf (no + 1) [] [] false (if (if wd = [] then W else W ++ [wd]) = [] then ls else ls ++ [⟨no, a, if wd = [] then W else W ++ [wd]⟩]) := by
  unfold step1
  rw [if_pos rfl, endW_of]
  generalize (if wd = [] then W else W ++ [wd]) = U
  unfold stOf
  cases U with
  | nil => simp [nb]
  | cons x t => simp [nb, outOf]
theorem step_blank (no : Nat) (W : List (List UInt8)) (wd : List UInt8) (rm : Bool) (ls : List Ln) (c : Nat) (h10 : c ≠ 10) (h : c = 32 ∨ c = 35 ∨ rm = true) : step1 (stOf no W wd rm ls) c = stOf no (if wd = [] then W else W ++ [wd]) [] (rm || decide (c = 35)) ls := by
  unfold step1
  rw [if_neg h10, if_pos (show c = 32 ∨ c = 35 ∨ (stOf no W wd rm ls).remark = true from h), endW_of]
  rfl
theorem step_byte (no : Nat) (W : List (List UInt8)) (wd : List UInt8) (ls : List Ln) (x : UInt8) (h10 : x.toNat ≠ 10) (h32 : x.toNat ≠ 32) (h35 : x.toNat ≠ 35) : step1 (stOf no W wd false ls) x.toNat = stOf no W (wd ++ [x]) false ls := by
  unfold step1
  rw [if_neg h10, if_neg (by simp [stOf, h32, h35])]
  unfold stOf nb
  simp
end Go.Proofs.YtdkgbdecmgligaaGreatDoor
