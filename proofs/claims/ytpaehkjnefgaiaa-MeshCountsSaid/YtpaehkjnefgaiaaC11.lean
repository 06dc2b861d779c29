/- As XMonoT, where operations may be guarded by what an earlier one yields. No program is imported. Package mesh: is a point beyond a bound? Is one of a row? Package mesh: what is wrong first with a patch and its skin. Package relief and the document's: shapes of textures, texels. Texels: the program's and the document's. Blends, directions among four, lifted points: the program's. -/
import Derived.Test.YtpaehkjnefgaiaaC1
import Derived.Test.YtpaehkjnefgaiaaC10
namespace Go.Proofs.Ytpaehkjnefgaiaa
open Go.RowKit
set_option linter.unusedVariables false
set_option linter.unusedSimpArgs false
section
variable {P : Program} {md : Region.Mode} {l : List Oper} {n : Nat} {ops : Array Oper} {Q : Exit → Act → World → Prop} {R : Nat → World → Value → Prop} {a0 : Act} {w0 : World}
/-- An operation, once those that it waits for are done: it is wanted and goes, or it is not wanted. -/
def MonoG (P : Program) (md : Region.Mode) (l : List Oper) (ops : Array Oper) (R : Nat → World → Value → Prop) (a0 : Act) (w0 : World) (Q : Exit → Act → World → Prop) (i : Nat) (o : Oper) : Prop :=
  ∀ (a : Act) (w : World), Below w0.heap.size w0 w → a.tmps.size = a0.tmps.size → a.defers = a0.defers → (∀ t, (∀ (j : Nat) (o : Oper), ops[j]? = some o → o.dst ≠ some t) → a.tmps[t]? = a0.tmps[t]?) →
    (∀ e ∈ o.after, Region.binds md e = true → ∀ (oj : Oper) (d : Tmp), ops[e.on]? = some oj → oj.dst = some d → ∃ v, a.tmps[d]? = some v ∧ R e.on w v) →
    (Region.wanted o (yielded l.toArray a.tmps) = true ∧ o.wp P a w (fun a' w' => ∃ v, a' = a.put o.dst v ∧ Below w.heap.size w w' ∧ (∀ d, o.dst = some d → R i w' v)) Q) ∨
    (Region.wanted o (yielded l.toArray a.tmps) = false ∧ ∀ d, o.dst = some d → R i w undef)
theorem MonoS.g {i : Nat} {o : Oper} (h : MonoS P md ops R a0 w0 Q i o) : MonoG P md l ops R a0 w0 Q i o := fun a w h1 h2 h3 h4 h5 =>
  .inl ⟨by simp [Region.wanted, h.1], h.2 a w h1 h2 h3 h4 h5⟩
theorem yield_at {j d : Nat} {oj : Oper} {tmps : Array Value} {b : Bool} (hj : l[j]? = some oj) (hd : oj.dst = some d) (hv : tmps[d]? = some (.bool b)) : yielded l.toArray tmps j = some b := by
  have : l.toArray[j]? = some oj := by simpa using hj
  simp [yielded, this, hd, hv]
/-- A guarded operation that goes. -/
theorem monoG_on {i j d : Nat} {o oj : Oper} {b : Bool} (hg : o.guard = some (j, b)) (e : Edge) (he : e ∈ o.after) (hb : Region.binds md e = true) (hej : e.on = j) (hj : l[j]? = some oj) (hj2 : ops[j]? = some oj) (hd : oj.dst = some d) (hR : ∀ w v, R j w v → v = .bool b)
    (h : MonoS P md ops R a0 w0 Q i { o with guard := none }) : MonoG P md l ops R a0 w0 Q i o := fun a w h1 h2 h3 h4 h5 => by
  subst hej
  obtain ⟨v, hv, hr⟩ := h5 e he hb oj d hj2 hd
  obtain rfl := hR _ _ hr
  exact .inl ⟨by simp [Region.wanted, hg, yield_at hj hd hv], h.2 a w h1 h2 h3 h4 h5⟩
/-- A guarded operation that does not go. -/
theorem monoG_off {i j d : Nat} {o oj : Oper} {b c : Bool} (hg : o.guard = some (j, b)) (hbc : c ≠ b) (e : Edge) (he : e ∈ o.after) (hb : Region.binds md e = true) (hej : e.on = j) (hj : l[j]? = some oj) (hj2 : ops[j]? = some oj) (hd : oj.dst = some d) (hR : ∀ w v, R j w v → v = .bool c)
    (h : ∀ d, o.dst = some d → ∀ w, R i w undef) : MonoG P md l ops R a0 w0 Q i o := fun a w h1 h2 h3 h4 h5 => by
  subst hej
  obtain ⟨v, hv, hr⟩ := h5 e he hb oj d hj2 hd
  obtain rfl := hR _ _ hr
  exact .inr ⟨by simp [Region.wanted, hg, yield_at hj hd hv, hbc], fun d hd => h d hd w⟩
theorem monoG_sound (hE : ∀ (i : Nat) (o : Oper), l.toArray[i]? = some o → ∀ e ∈ o.after, Region.binds .any e = true → e.on < i) (hW : ∀ (listed : Array Bool), Closed l listed → ∀ (k : Nat) (o : Oper), l.toArray[k]? = some o → n ≤ k → (∀ e ∈ o.after, Region.binds .any e = true → listed.getD e.on false = true) → ∀ j, j < n → listed.getD j false = true)
    (hnl : n ≤ l.length) (hseq : Region.seqB .any l.toArray (l.length - n) n (doneA l.length n) = true)
    (hmono : ∀ (j : Nat) (w w' : World) (v : Value), Below w.heap.size w w' → R j w v → R j w' v) (hd : ∀ (i j : Nat) (oi oj : Oper) (d : Tmp), (l.take n).toArray[i]? = some oi → (l.take n).toArray[j]? = some oj → oi.dst = some d → oj.dst = some d → i = j) (hsz : ∀ (j : Nat) (oj : Oper) (d : Tmp), (l.take n).toArray[j]? = some oj → oj.dst = some d → d < a0.tmps.size)
    (hS : ∀ (i : Nat) (o : Oper), (l.take n).toArray[i]? = some o → MonoG P .any l (l.take n).toArray R a0 w0 Q i o)
    (hend : ∀ (a : Act) (w : World), Below w0.heap.size w0 w → a.tmps.size = a0.tmps.size → a.defers = a0.defers → (∀ t, (∀ (j : Nat) (o : Oper), (l.take n).toArray[j]? = some o → o.dst ≠ some t) → a.tmps[t]? = a0.tmps[t]?) → (∀ (j : Nat) (o : Oper) (d : Tmp), (l.take n).toArray[j]? = some o → o.dst = some d → ∃ v, a.tmps[d]? = some v ∧ R j w v) → wpList P l.toArray Q (l.drop n) a w) :
    ∀ (fuel : Nat) (listed : Array Bool) (a : Act) (w : World), listed.size = l.length → Closed l listed → left listed = fuel → (∀ j, n ≤ j → j < l.length → listed.getD j true = false) → MonoI (l.take n).toArray R a0 w0 listed a w → wpAny P .any l.toArray Q fuel listed a w := by
  intro fuel
  induction fuel with
  | zero =>
    intro listed a w hl hcl h0 hf hI
    by_cases hnn : n < l.length
    · have := left_set (hf n (Nat.le_refl _) hnn); omega
    · obtain rfl : n = l.length := by omega
      have hall : ∀ j, j < l.length → listed.getD j true = true := fun j hj => by
        cases hq : listed.getD j true with
        | true => rfl
        | false => have := left_set hq; omega
      have e : listed = doneA l.length l.length := by
        apply Array.ext
        · simp [doneA, hl]
        · intro i h1 h2
          have := hall i (by omega)
          simp only [Array.getD, h1, dif_pos] at this
          simp [doneA, show i < l.length by omega]; exact this
      have hs := wpAny_of_seq (P := P) (Q' := Q) (md := .any) (ops := l.toArray) (l.drop l.length) l.length listed a w (fun j => by simp) (by simpa [e] using hseq) (hend a w hI.bel hI.size hI.defers hI.keep (fun j o d hj hjd => hI.got j o d hj hjd (by
        have hj2 : j < l.length := by have := (Array.getElem?_eq_some_iff.1 hj).1; simpa using this
        have := hall j hj2
        have hjl : j < listed.size := by omega
        simp only [Array.getD, hjl, dif_pos] at this ⊢
        exact this)))
      simpa using hs
  | succ f ih =>
    intro listed a w hl hcl hf hT hI
    by_cases hdone : ∀ j, j < n → listed.getD j false = true
    · have e : listed = doneA l.length n := by
        apply Array.ext
        · simp [doneA, hl]
        · intro i h1 h2
          by_cases hi : i < n
          · have := hdone i hi
            simp only [Array.getD, h1, dif_pos] at this
            simp [doneA, hi]; exact this
          · have := hT i (by omega) (by omega)
            simp only [Array.getD, h1, dif_pos] at this
            simp [doneA, hi]; exact this
      have hfl : f + 1 = (l.drop n).length := by
        rw [← hf, e]
        unfold left doneA
        simp only [List.length_drop]
        have : ∀ len, n ≤ len → (((List.range len).map fun j => decide (j < n)).filter fun b => !b).length = len - n := fun len => by
          induction len with
          | zero => intro h; simp
          | succ m ihm =>
            intro h
            rw [List.range_succ, List.map_append, List.filter_append, List.length_append]
            by_cases hm : n ≤ m
            · rw [ihm hm]
              simp [show ¬ m < n by omega]; omega
            · obtain rfl : n = m + 1 := by omega
              have : ((List.range m).map fun j => decide (j < m + 1)).filter (fun b => !b) = [] := by
                rw [List.filter_eq_nil_iff]
                intro b hb
                obtain ⟨j, hj, rfl⟩ := List.mem_map.1 hb
                have : j < m := by simpa using hj
                simp; omega
              rw [this]
              simp
        exact this _ hnl
      rw [hfl]
      exact wpAny_of_seq (P := P) (Q' := Q) (md := .any) (ops := l.toArray) (l.drop n) n listed a w (fun j => by simp [List.getElem?_drop]) (by rw [e, List.length_drop]; exact hseq) (hend a w hI.bel hI.size hI.defers hI.keep (fun j o d hj hjd => hI.got j o d hj hjd (hdone j (by have := (Array.getElem?_eq_some_iff.1 hj).1; simp at this; omega))))
    · have hready : ∀ i ∈ Region.ready .any l.toArray listed, i < n := fun i hi => by
        obtain ⟨hun, o, ho, hall⟩ := mem_ready.1 hi
        rcases Nat.lt_or_ge i n with h | h
        · exact h
        · exfalso
          apply hdone
          exact hW listed hcl i o ho h hall
      refine ⟨fun hr => ?_, fun i hi => ?_⟩
      · exfalso
        apply hdone
        intro j
        induction j using Nat.strongRecOn with
        | _ j ihj =>
          intro hj
          cases hq : listed.getD j true with
          | true =>
            have hjl : j < listed.size := by omega
            simp only [Array.getD, hjl, dif_pos] at hq ⊢
            exact hq
          | false =>
            have hjl : j < l.length := by omega
            have : j ∈ Region.ready .any l.toArray listed := mem_ready.2 ⟨hq, l[j], by simp [hjl], fun e he hb => by
              have hlt := hE j l[j] (by simp [hjl]) e he hb
              exact ihj e.on hlt (by omega)⟩
            rw [hr] at this
            cases this
      · have hin := hready i hi
        obtain ⟨hun, o, ho, hall⟩ := mem_ready.1 hi
        have ho2 : (l.take n).toArray[i]? = some o := by rw [take_get hin]; exact ho
        have hq := hS i o ho2 a w hI.bel hI.size hI.defers hI.keep (fun e he hb oj d hoj hdj => hI.got e.on oj d hoj hdj (hall e he hb))
        unfold wpOp
        simp only [ho]
        rcases hq with ⟨hg, hs⟩ | ⟨hg, hr⟩
        · rw [if_pos hg]
          left
          refine Oper.wp_mono ?_ hs
          rintro a' w' ⟨v, rfl, hB, hR⟩
          refine ih _ _ _ (by simp [hl]) (closed_set hcl ho hall) (by have := left_set hun; omega) (fun j h1 h2 => ?_) (hI.step ho2 hmono hd hsz hB hR)
          rw [getD_set_ne true (by omega)]
          exact hT j h1 h2
        · rw [if_neg (by rw [hg]; simp)]
          refine ih _ _ _ (by simp [hl]) (closed_set hcl ho hall) (by have := left_set hun; omega) (fun j h1 h2 => ?_) (hI.step ho2 hmono hd hsz (Below.refl _ _) hr)
          rw [getD_set_ne true (by omega)]
          exact hT j h1 h2
/-- The rule over a list of operations: the first n in any order, some of them guarded, the rest in one. -/
theorem wp_region_monoG {id : Nat} (n : Nat) (R : Nat → World → Value → Prop) (hm : P.follows .mixedOrders = true) (N : Nat) (hn : a0.tmps.size = N) (hE : edgesB l = true) (hW : waitB l n = true) (hnl : decide (n ≤ l.length) = true) (hseq : Region.seqB .any l.toArray (l.length - n) n (doneA l.length n) = true) (hD : dstB (l.take n) N = true)
    (hmono : ∀ (j : Nat) (w w' : World) (v : Value), Below w.heap.size w w' → R j w v → R j w' v)
    (hS : allI (MonoG P .any l (l.take n).toArray R a0 w0 Q) 0 (l.take n))
    (hend : ∀ (a : Act) (w : World), Below w0.heap.size w0 w → a.tmps.size = a0.tmps.size → a.defers = a0.defers → (∀ t, (∀ (j : Nat) (o : Oper), (l.take n).toArray[j]? = some o → o.dst ≠ some t) → a.tmps[t]? = a0.tmps[t]?) → (∀ (j : Nat) (o : Oper) (d : Tmp), (l.take n).toArray[j]? = some o → o.dst = some d → ∃ v, a.tmps[d]? = some v ∧ R j w v) → wpList P l.toArray Q (l.drop n) a w) :
    (Code.region id l.toArray true).wp P Q a0 w0 := by
  have hl : left (Array.replicate l.toArray.size false) = l.toArray.size := by unfold left; simp
  refine wp_region_any hm ?_
  have := monoG_sound (a0 := a0) (w0 := w0) (R := R) (n := n) (Q := Q) (P := P) (edges_of hE) (wait_of hW) (by simpa using hnl) hseq hmono (dst_one hD) (fun j oj d h1 h2 => by rw [hn]; exact dst_lt hD j oj d h1 h2) (allI_arr hS) hend (l.toArray.size) (Array.replicate l.toArray.size false) a0 { w0 with drawn := w0.drawn + 1 } (by simp) (fun i hi => by simp [Array.getD] at hi) hl (fun j h1 h2 => by simp [Array.getD, h2]) ⟨bel_dr (Below.refl _ _) _, rfl, rfl, fun t _ => rfl, fun j o d _ _ hq => by simp [Array.getD] at hq⟩
  exact this
end
end Go.Proofs.Ytpaehkjnefgaiaa
namespace Go.Proofs.Ytpaehkjnefgaiaa
open Go.RowKit
set_option linter.unusedVariables false
set_option linter.unusedSimpArgs false
set_option linter.unnecessarySimpa false
set_option maxRecDepth 100000
/-- A number in a block. -/
def NumB (W : World) (b : Nat) (m : Int) : Prop := b < W.heap.size ∧ W.cell? ⟨b, 0, none⟩ = some (.int .i64 m)
theorem NumB.below {W W' : World} {b : Nat} {m : Int} (h : NumB W b m) (hb : Below W.heap.size W W') : NumB W' b m := ⟨Nat.lt_of_lt_of_le h.1 hb.size, (hb.cell (p := ⟨b, 0, none⟩) h.1).trans h.2⟩
def PtsB (W : World) (b o n : Nat) (p : Nat → P3) : Prop := b < W.heap.size ∧ ∀ k, k < n → W.cell? ⟨b, o + k * 3, none⟩ = some (.int .i64 (p k).x) ∧ W.cell? ⟨b, o + k * 3 + 1, none⟩ = some (.int .i64 (p k).y) ∧ W.cell? ⟨b, o + k * 3 + 2, none⟩ = some (.int .i64 (p k).z)
theorem PtsB.below {W W' : World} {b o n : Nat} {p : Nat → P3} (h : PtsB W b o n p) (hb : Below W.heap.size W W') : PtsB W' b o n p := ⟨Nat.lt_of_lt_of_le h.1 hb.size, fun k hk => by
  obtain ⟨h1, h2, h3⟩ := h.2 k hk
  exact ⟨(hb.cell (p := ⟨b, _, none⟩) h.1).trans h1, (hb.cell (p := ⟨b, _, none⟩) h.1).trans h2, (hb.cell (p := ⟨b, _, none⟩) h.1).trans h3⟩⟩
theorem bey_any (W : World) (bm : Nat) (m : Int) (hm : NumB W bm m) (m0 : m ≤ 9223372036854775807) (v : P3) :
    Calls Try.prog 39 #[.agg #[.int .i64 v.x, .int .i64 v.y, .int .i64 v.z], .pointer (some ⟨bm, 0, none⟩)] W fun e W' => e = .returned (.bool (!wB v m)) ∧ Below W.heap.size W W' := by
  obtain ⟨hl, hc⟩ := hm
  have kW : Gives Try.prog 19 #[.agg #[.int .i64 v.x, .int .i64 v.y, .int .i64 v.z], .int .i64 m] (.bool (wB v m)) := vWithin_any v.x v.y v.z m m0
  generalize wB v m = o at *
  go_enter Try.func39, Try.ntmps39
  go_wp2_with (first | (go_at_call 19; (with_reducible refine (kW.at_ _).mono ?_); rintro e w' ⟨rfl, xg, rfl⟩) | fail)
  go_ret
  exact ⟨by first | rfl | (cases o <;> rfl), (by repeat (first | exact Below.refl _ _ | refine bel_then ?_ _ | refine bel_grow ?_ _ | refine bel_alloc ?_ _ | refine bel_drew ?_ | refine bel_set ?_ (by simp) _ | refine bel_setRow ?_ (by first | omega | (simp; done) | (refine Nat.le_trans ?_ (top_le _ _); simp; done) | (refine Nat.le_succ_of_le (Nat.le_trans ?_ (top_le _ _)); simp; done) | (refine Nat.le_trans ?_ (top_le _ _); simp only [World.size_alloc]; refine Nat.le_succ_of_le (Nat.le_trans ?_ (top_le _ _)); simp; done)) _))⟩
theorem beyond_any (W : World) (m : Int) :
    Calls Try.prog 38 #[.int .i64 m] W fun e W' => ∃ b, e = .returned (.func (.func 39) #[] #[.pointer (some ⟨b, 0, none⟩)]) ∧ Below W.heap.size W W' ∧ NumB W' b m := by
  go_enter Try.func38, Try.ntmps38
  go_wp2
  go_ret
  exact ⟨_, rfl, (by repeat (first | exact Below.refl _ _ | refine bel_then ?_ _ | refine bel_grow ?_ _ | refine bel_alloc ?_ _ | refine bel_drew ?_ | refine bel_set ?_ (by simp) _ | refine bel_setRow ?_ (by first | omega | (simp; done) | (refine Nat.le_trans ?_ (top_le _ _); simp; done) | (refine Nat.le_succ_of_le (Nat.le_trans ?_ (top_le _ _)); simp; done) | (refine Nat.le_trans ?_ (top_le _ _); simp only [World.size_alloc]; refine Nat.le_succ_of_le (Nat.le_trans ?_ (top_le _ _)); simp; done)) _)), by simp, by simp⟩
set_option maxHeartbeats 1000000 in
theorem index_any (W : World) (b o n c : Nat) (p : Nat → P3) (hp : PtsB W b o n p) (bm : Nat) (m : Int) (hm : NumB W bm m) (m0 : m ≤ 9223372036854775807) (hn : n < 1000) :
    Calls Try.prog 64 #[.slice (some ⟨b, o, none⟩) n c, .func (.func 39) #[] #[.pointer (some ⟨bm, 0, none⟩)]] W fun e W' => (∃ r : Int, e = .returned (.int .i64 r) ∧ decide (0 ≤ r) = !allW p m n) ∧ Below W.heap.size W W' := by
  go_enter Try.func64, Try.ntmps64
  go_wp2
  go_loopw [8] (fun iv wr => ∃ k : Nat, iv = .int .i64 (k : Int) ∧ k ≤ n ∧ (∀ j, j < k → wB (p j) m = true) ∧ Below W.heap.size W wr) (fun iv _ => n - (intOf iv).toNat)
  case atStart => exact ⟨0, rfl, by omega, fun j hj => by omega, Below.refl _ _⟩
  case round =>
    obtain ⟨k, rfl, hk, hal, hBr⟩ := hrel
    by_cases hlt : k < n
    · obtain ⟨hbl, hc⟩ := hp.below hBr
      obtain ⟨c1, c2, c3⟩ := hc k hlt
      have cW := bey_any wr bm m (hm.below hBr) m0 (p k)
      have hno := allW_no (p := p) (m := m) hlt
      have hnx : wB (p k) m = true → ∀ j, j < k + 1 → wB (p j) m = true := fun h j hj => if e : j < k then hal j e else by rw [show j = k by omega]; exact h
      generalize p k = q at *
      have q0 : (0 : Int) ≤ (k : Int) := by omega
      have q1 : (k : Int) < (n : Int) := by omega
      clear hc hp hm
      cases hw : wB q m
      · rw [hw] at cW
        have hno := hno hw
        replace hnx := trivial
        replace hw := trivial
        replace hno := Lib.hid hno
        go_wp2_with (first | (go_at_call 39; (with_reducible refine cW.mono ?_); rintro e w' ⟨rfl, hb9⟩) | fail)
        go_ret
        exact ⟨⟨_, rfl, by rw [hno.out]; simp⟩, bel_trans hBr hb9⟩
      · rw [hw] at cW
        have hnx := hnx hw
        replace hno := trivial
        replace hw := trivial
        replace hnx := Lib.hid hnx
        go_wp2_with (first | (go_at_call 39; (with_reducible refine cW.mono ?_); rintro e w' ⟨rfl, hb9⟩) | fail)
        go_roundw
        case rel => exact ⟨k + 1, by go_num, by omega, hnx.out, bel_trans hBr hb9⟩
        case measure => simp [intOf]; omega
    · obtain rfl : k = n := by omega
      have hy : allW p m k = true := allW_iff.2 hal
      replace hy := Lib.hid hy
      go_wp2
      go_ret
      exact ⟨⟨_, rfl, by rw [hy.out]; simp⟩, hBr⟩
theorem contains_any (W : World) (b o n c : Nat) (p : Nat → P3) (hp : PtsB W b o n p) (bm : Nat) (m : Int) (hm : NumB W bm m) (m0 : m ≤ 9223372036854775807) (hn : n < 1000) :
    Calls Try.prog 40 #[.slice (some ⟨b, o, none⟩) n c, .func (.func 39) #[] #[.pointer (some ⟨bm, 0, none⟩)]] W fun e W' => e = .returned (.bool (!allW p m n)) ∧ Below W.heap.size W W' := by
  have k := index_any W b o n c p hp bm m hm m0 hn
  generalize allW p m n = al at *
  go_enter Try.func40, Try.ntmps40
  go_wp2_with (first | (go_at_call 64; (with_reducible refine k.mono ?_); rintro e w' ⟨⟨r, rfl, hr⟩, hb9⟩; replace hr := Lib.hid hr) | fail)
  go_ret
  exact ⟨by rw [← hr.out]; rfl, hb9⟩
end Go.Proofs.Ytpaehkjnefgaiaa
namespace Go.Proofs.Ytpaehkjnefgaiaa
open Go.RowKit
set_option linter.unusedVariables false
set_option linter.unusedSimpArgs false
set_option linter.unnecessarySimpa false
set_option maxRecDepth 100000
def PBy (m : Int) : World → Value → Prop := fun w v => ∃ b, v = .func (.func 39) #[] #[.pointer (some ⟨b, 0, none⟩)] ∧ NumB w b m
theorem PBy.stays (m : Int) : Stays (PBy m) := fun w w' v hB ⟨b, e, h⟩ => ⟨b, e, h.below hB⟩
theorem PchB.ptsB {W : World} {b o : Nat} {P : Pch} (h : PchB W b o P) : PtsB W b o 16 P.pt := ⟨h.1, fun k hk => h.pt hk⟩
theorem PchB.nmsB {W : World} {b o : Nat} {P : Pch} (h : PchB W b o P) : PtsB W b (o + 52) 4 P.nm := ⟨h.1, fun k hk => h.nm hk⟩
/-- A skin's cells. -/
@[reducible] def skC (nm : ByteArray) (ma lv un tx ht : Int) : Array Value := #[.string nm, .int .i64 ma, .int .i64 lv, .int .i64 un, .int .i64 tx, .int .i64 ht]
set_option maxHeartbeats 4000000 in
theorem fault_any (P : Pch) (nm : ByteArray) (ma lv un tx ht : Int) : Gives Try.prog 23 #[.agg P.row, .agg (skC nm ma lv un tx ht)] (.int .i64 (msF P un ht)) := by
  refine Gives.mk fun w => ?_
  obtain ⟨W0, hW0⟩ : ∃ W0, W0 = (w.alloc (.cells P.row 28)).alloc (.cells (skC nm ma lv un tx ht) 30) := ⟨_, rfl⟩
  have hb0 : Below w.heap.size w W0 := by rw [hW0]; exact bel_alloc (bel_alloc (Below.refl _ _) _) _
  have hP0 : PchB W0 w.heap.size 0 P := by rw [hW0]; exact PchB.of ((Blk.new _ _ _ _ rfl).alloc _)
  have hS0 : Blk W0 (w.heap.size + 1) 30 (skC nm ma lv un tx ht) := by rw [hW0]; exact Blk.new _ _ _ _ (by simp)
  obtain ⟨ans, hans⟩ : ∃ o, o = msF P un ht := ⟨_, rfl⟩
  rw [← hans]
  replace hans := Lib.hid hans
  go_enter Try.func23, Try.ntmps23
  go_upto_region 2 with (fail)
  simp only [← hW0]
  clear hW0
  obtain ⟨bp, hbp⟩ : ∃ b, b = w.heap.size := ⟨_, rfl⟩
  rw [← hbp] at hP0 hS0
  simp only [← hbp]
  replace hbp := Lib.hid hbp
  have s3 : W0.cell? ⟨bp + 1, 3, none⟩ = some (.int .i64 un) := hS0.cell 3
  have s5 : W0.cell? ⟨bp + 1, 5, none⟩ = some (.int .i64 ht) := hS0.cell 5
  have sl := hS0.lt
  cases hk : skB un ht
  · have e : msF P un ht = 11 := by unfold msF; rw [if_pos hk]
    have hk2 := of_decide_eq_false hk
    obtain rfl : ans = 11 := hans.out.trans e
    by_cases h1 : un < 1
    · go_wp2
      go_ret
      exact ⟨rfl, hb0⟩
    · by_cases h2 : ht < 0
      · go_wp2
        go_ret
        exact ⟨rfl, hb0⟩
      · have h3 : ht > 255 := by omega
        go_wp2
        go_ret
        exact ⟨rfl, hb0⟩
  · have hk2 := of_decide_eq_true hk
    have h1 : ¬ un < 1 := by omega
    have h2 : ¬ ht < 0 := by omega
    have h3 : ¬ ht > 255 := by omega
    have hpt := hP0.ptsB
    have hnm := hP0.nmsB
    go_upto_region 4 with (fail)
    cases h9 : allW P.pt 60000 16
    · have e : msF P un ht = 21 := by unfold msF; rw [if_neg (by rw [hk]; simp), if_neg (by rw [h9]; simp)]
      obtain rfl : ans = 21 := hans.out.trans e
      replace e := trivial
      refine wp_region_monoG 12 (RL [PE (.pointer (some ⟨bp, 0, none⟩)), PE (.slice (some ⟨bp, 0, none⟩) 16 16), PE (.func (.func 38) #[] #[]), PBy 60000, PE (.bool true), PE (.bool true), (fun _ _ => True), (fun _ _ => True), (fun _ _ => True), (fun _ _ => True), (fun _ _ => True), PE (.bool true)]) (by kernel_rfl) _ rfl (by kernel_rfl) (by kernel_rfl) (by kernel_rfl) (by kernel_rfl) (by kernel_rfl) (RL.stays ?_) ?_ ?_
      · intro p hp
        simp only [List.mem_cons, List.not_mem_nil, or_false] at hp
        rcases hp with rfl | rfl | rfl | rfl | rfl | rfl | rfl | rfl | rfl | rfl | rfl | rfl <;> first | exact PE.stays _ | exact (fun _ _ _ _ h => h) | exact PBy.stays _
      · simp only [List.take_succ_cons, List.take_zero]
        refine ⟨?_, ?_, ?_, ?_, ?_, ?_, ?_, ?_, ?_, ?_, ?_, ?_, ?_⟩
        · refine MonoS.g ?_
          refine mono_val rfl (fun a w hB hk hp => ?_)
          have es2 := (hk 2 (keep_of (by kernel_rfl))).trans (show _ = some (.pointer (some ⟨bp, 0, none⟩)) from rfl)
          exact ⟨.pointer (some ⟨bp, 0, none⟩), w, by simp [execOp, go_sem, es2], Below.refl _ _, fun _ _ => rfl⟩
        · refine MonoS.g ?_
          refine mono_val rfl (fun a w hB hk hp => ?_)
          obtain ⟨x0, ex0, rx0⟩ := hp ⟨0, .data⟩ (by simp) rfl _ _ rfl rfl
          obtain rfl : x0 = _ := rx0
          exact ⟨.slice (some ⟨bp, 0, none⟩) 16 16, w, by simp [execOp, go_sem, ex0], Below.refl _ _, fun _ _ => rfl⟩
        · refine MonoS.g ?_
          refine mono_val rfl (fun a w hB hk hp => ?_)
          have es5 := (hk 5 (keep_of (by kernel_rfl))).trans (show _ = some (.func (.func 38) #[] #[]) from rfl)
          exact ⟨.func (.func 38) #[] #[], w, by simp [execOp, go_sem, es5], Below.refl _ _, fun _ _ => rfl⟩
        · refine MonoS.g ?_
          refine mono_call rfl (fun a w hB hk hp => ?_)
          obtain ⟨x2, ex2, rx2⟩ := hp ⟨2, .data⟩ (by simp) rfl _ _ rfl rfl
          obtain rfl : x2 = _ := rx2
          exact ⟨38, #[.int .i64 60000], by simp [execOp, go_sem, ex2], (beyond_any w 60000).mono fun e w' ⟨b, h1, h2, h3⟩ => ⟨_, h1, h2, fun _ _ => ⟨b, rfl, h3⟩⟩⟩
        · refine MonoS.g ?_
          refine mono_call rfl (fun a w hB hk hp => ?_)
          obtain ⟨x1, ex1, rx1⟩ := hp ⟨1, .data⟩ (by simp) rfl _ _ rfl rfl
          obtain rfl : x1 = _ := rx1
          obtain ⟨x3, ex3, rx3⟩ := hp ⟨3, .data⟩ (by simp) rfl _ _ rfl rfl
          obtain ⟨bb, rfl, hbb⟩ : PBy 60000 w x3 := rx3
          exact ⟨40, #[.slice (some ⟨bp, 0, none⟩) 16 16, .func (.func 39) #[] #[.pointer (some ⟨bb, 0, none⟩)]], by simp [execOp, go_sem, ex1, ex3], (contains_any w bp 0 16 16 P.pt (hpt.below hB) bb 60000 hbb (by omega) (by omega)).mono fun e w' ⟨h1, h2⟩ => ⟨_, h1, h2, fun _ _ => by rw [h9]; rfl⟩⟩
        · refine MonoS.g ?_
          refine mono_val rfl (fun a w hB hk hp => ?_)
          obtain ⟨x4, ex4, rx4⟩ := hp ⟨4, .data⟩ (by simp) rfl _ _ rfl rfl
          obtain rfl : x4 = _ := rx4
          exact ⟨.bool true, w, by simp [execOp, go_sem, ex4], Below.refl _ _, fun _ _ => rfl⟩
        · exact monoG_off rfl (by decide) ⟨5, .guard⟩ (by simp) rfl rfl rfl rfl rfl (fun w v h => h) (fun d hd w => trivial)
        · exact monoG_off rfl (by decide) ⟨5, .guard⟩ (by simp) rfl rfl rfl rfl rfl (fun w v h => h) (fun d hd w => trivial)
        · exact monoG_off rfl (by decide) ⟨5, .guard⟩ (by simp) rfl rfl rfl rfl rfl (fun w v h => h) (fun d hd w => trivial)
        · exact monoG_off rfl (by decide) ⟨5, .guard⟩ (by simp) rfl rfl rfl rfl rfl (fun w v h => h) (fun d hd w => trivial)
        · exact monoG_off rfl (by decide) ⟨5, .guard⟩ (by simp) rfl rfl rfl rfl rfl (fun w v h => h) (fun d hd w => trivial)
        · refine MonoS.g ?_
          refine mono_val rfl (fun a w hB hk hp => ?_)
          obtain ⟨x5, ex5, rx5⟩ := hp ⟨5, .data⟩ (by simp) rfl _ _ rfl rfl
          obtain rfl : x5 = _ := rx5
          exact ⟨.bool true, w, by simp [execOp, go_sem, ex5], Below.refl _ _, fun _ _ => rfl⟩
        · trivial
      · intro a w4 hB hsz hdf hk hgot
        obtain ⟨v11, ev11, rv11⟩ := hgot 11 _ 32 rfl rfl
        obtain rfl : v11 = _ := rv11
        obtain ⟨f, hf, rfl⟩ := frame_eq hsz hdf hk [21, 22, 23, 24, 25, 26, 27, 28, 29, 30, 31, 32] (by rfl)
        have f32 := hf 32 _ ev11
        clear hsz hdf hk hgot hf ev11
        simp only [List.drop_succ_cons, List.drop_zero, setAll, List.setIfInBounds_toArray, List.set_cons_succ, List.set_cons_zero, f32]
        clear f32
        generalize f 21 = uu21; generalize f 22 = uu22; generalize f 23 = uu23; generalize f 24 = uu24; generalize f 25 = uu25; generalize f 26 = uu26; generalize f 27 = uu27; generalize f 28 = uu28; generalize f 29 = uu29; generalize f 30 = uu30; generalize f 31 = uu31
        go_wp2
        go_ret
        exact ⟨rfl, bel_trans hb0 hB⟩
    · cases h8 : allW P.nm 1023 4
      · have e : msF P un ht = 21 := by unfold msF; rw [if_neg (by rw [hk]; simp), h9, h8]; rfl
        obtain rfl : ans = 21 := hans.out.trans e
        replace e := trivial
        refine wp_region_monoG 12 (RL [PE (.pointer (some ⟨bp, 0, none⟩)), PE (.slice (some ⟨bp, 0, none⟩) 16 16), PE (.func (.func 38) #[] #[]), PBy 60000, PE (.bool false), PE (.bool false), PE (.pointer (some ⟨bp, 52, none⟩)), PE (.slice (some ⟨bp, 52, none⟩) 4 4), PE (.func (.func 38) #[] #[]), PBy 1023, PE (.bool (!allW P.nm 1023 4)), PE (.bool (!allW P.nm 1023 4))]) (by kernel_rfl) _ rfl (by kernel_rfl) (by kernel_rfl) (by kernel_rfl) (by kernel_rfl) (by kernel_rfl) (RL.stays ?_) ?_ ?_
        · intro p hp
          simp only [List.mem_cons, List.not_mem_nil, or_false] at hp
          rcases hp with rfl | rfl | rfl | rfl | rfl | rfl | rfl | rfl | rfl | rfl | rfl | rfl <;> first | exact PE.stays _ | exact (fun _ _ _ _ h => h) | exact PBy.stays _
        · simp only [List.take_succ_cons, List.take_zero]
          refine ⟨?_, ?_, ?_, ?_, ?_, ?_, ?_, ?_, ?_, ?_, ?_, ?_, ?_⟩
          · refine MonoS.g ?_
            refine mono_val rfl (fun a w hB hk hp => ?_)
            have es2 := (hk 2 (keep_of (by kernel_rfl))).trans (show _ = some (.pointer (some ⟨bp, 0, none⟩)) from rfl)
            exact ⟨.pointer (some ⟨bp, 0, none⟩), w, by simp [execOp, go_sem, es2], Below.refl _ _, fun _ _ => rfl⟩
          · refine MonoS.g ?_
            refine mono_val rfl (fun a w hB hk hp => ?_)
            obtain ⟨x0, ex0, rx0⟩ := hp ⟨0, .data⟩ (by simp) rfl _ _ rfl rfl
            obtain rfl : x0 = _ := rx0
            exact ⟨.slice (some ⟨bp, 0, none⟩) 16 16, w, by simp [execOp, go_sem, ex0], Below.refl _ _, fun _ _ => rfl⟩
          · refine MonoS.g ?_
            refine mono_val rfl (fun a w hB hk hp => ?_)
            have es5 := (hk 5 (keep_of (by kernel_rfl))).trans (show _ = some (.func (.func 38) #[] #[]) from rfl)
            exact ⟨.func (.func 38) #[] #[], w, by simp [execOp, go_sem, es5], Below.refl _ _, fun _ _ => rfl⟩
          · refine MonoS.g ?_
            refine mono_call rfl (fun a w hB hk hp => ?_)
            obtain ⟨x2, ex2, rx2⟩ := hp ⟨2, .data⟩ (by simp) rfl _ _ rfl rfl
            obtain rfl : x2 = _ := rx2
            exact ⟨38, #[.int .i64 60000], by simp [execOp, go_sem, ex2], (beyond_any w 60000).mono fun e w' ⟨b, h1, h2, h3⟩ => ⟨_, h1, h2, fun _ _ => ⟨b, rfl, h3⟩⟩⟩
          · refine MonoS.g ?_
            refine mono_call rfl (fun a w hB hk hp => ?_)
            obtain ⟨x1, ex1, rx1⟩ := hp ⟨1, .data⟩ (by simp) rfl _ _ rfl rfl
            obtain rfl : x1 = _ := rx1
            obtain ⟨x3, ex3, rx3⟩ := hp ⟨3, .data⟩ (by simp) rfl _ _ rfl rfl
            obtain ⟨bb, rfl, hbb⟩ : PBy 60000 w x3 := rx3
            exact ⟨40, #[.slice (some ⟨bp, 0, none⟩) 16 16, .func (.func 39) #[] #[.pointer (some ⟨bb, 0, none⟩)]], by simp [execOp, go_sem, ex1, ex3], (contains_any w bp 0 16 16 P.pt (hpt.below hB) bb 60000 hbb (by omega) (by omega)).mono fun e w' ⟨h1, h2⟩ => ⟨_, h1, h2, fun _ _ => by rw [h9]; rfl⟩⟩
          · refine MonoS.g ?_
            refine mono_val rfl (fun a w hB hk hp => ?_)
            obtain ⟨x4, ex4, rx4⟩ := hp ⟨4, .data⟩ (by simp) rfl _ _ rfl rfl
            obtain rfl : x4 = _ := rx4
            exact ⟨.bool false, w, by simp [execOp, go_sem, ex4], Below.refl _ _, fun _ _ => rfl⟩
          · refine monoG_on rfl ⟨5, .guard⟩ (by simp) rfl rfl rfl rfl rfl (fun w v h => h) ?_
            refine mono_val rfl (fun a w hB hk hp => ?_)
            have es2 := (hk 2 (keep_of (by kernel_rfl))).trans (show _ = some (.pointer (some ⟨bp, 0, none⟩)) from rfl)
            exact ⟨.pointer (some ⟨bp, 52, none⟩), w, by simp [execOp, go_sem, es2], Below.refl _ _, fun _ _ => rfl⟩
          · refine monoG_on rfl ⟨5, .guard⟩ (by simp) rfl rfl rfl rfl rfl (fun w v h => h) ?_
            refine mono_val rfl (fun a w hB hk hp => ?_)
            obtain ⟨x6, ex6, rx6⟩ := hp ⟨6, .data⟩ (by simp) rfl _ _ rfl rfl
            obtain rfl : x6 = _ := rx6
            exact ⟨.slice (some ⟨bp, 52, none⟩) 4 4, w, by simp [execOp, go_sem, ex6], Below.refl _ _, fun _ _ => rfl⟩
          · refine monoG_on rfl ⟨5, .guard⟩ (by simp) rfl rfl rfl rfl rfl (fun w v h => h) ?_
            refine mono_val rfl (fun a w hB hk hp => ?_)
            have es5 := (hk 5 (keep_of (by kernel_rfl))).trans (show _ = some (.func (.func 38) #[] #[]) from rfl)
            exact ⟨.func (.func 38) #[] #[], w, by simp [execOp, go_sem, es5], Below.refl _ _, fun _ _ => rfl⟩
          · refine monoG_on rfl ⟨5, .guard⟩ (by simp) rfl rfl rfl rfl rfl (fun w v h => h) ?_
            refine mono_call rfl (fun a w hB hk hp => ?_)
            obtain ⟨x8, ex8, rx8⟩ := hp ⟨8, .data⟩ (by simp) rfl _ _ rfl rfl
            obtain rfl : x8 = _ := rx8
            exact ⟨38, #[.int .i64 1023], by simp [execOp, go_sem, ex8], (beyond_any w 1023).mono fun e w' ⟨b, h1, h2, h3⟩ => ⟨_, h1, h2, fun _ _ => ⟨b, rfl, h3⟩⟩⟩
          · refine monoG_on rfl ⟨5, .guard⟩ (by simp) rfl rfl rfl rfl rfl (fun w v h => h) ?_
            refine mono_call rfl (fun a w hB hk hp => ?_)
            obtain ⟨x7, ex7, rx7⟩ := hp ⟨7, .data⟩ (by simp) rfl _ _ rfl rfl
            obtain rfl : x7 = _ := rx7
            obtain ⟨x9, ex9, rx9⟩ := hp ⟨9, .data⟩ (by simp) rfl _ _ rfl rfl
            obtain ⟨bb, rfl, hbb⟩ : PBy 1023 w x9 := rx9
            exact ⟨40, #[.slice (some ⟨bp, 52, none⟩) 4 4, .func (.func 39) #[] #[.pointer (some ⟨bb, 0, none⟩)]], by simp [execOp, go_sem, ex7, ex9], (contains_any w bp 52 4 4 P.nm (hnm.below hB) bb 1023 hbb (by omega) (by omega)).mono fun e w' ⟨h1, h2⟩ => ⟨_, h1, h2, fun _ _ => rfl⟩⟩
          · refine MonoS.g ?_
            refine mono_val rfl (fun a w hB hk hp => ?_)
            obtain ⟨x5, ex5, rx5⟩ := hp ⟨5, .data⟩ (by simp) rfl _ _ rfl rfl
            obtain rfl : x5 = _ := rx5
            obtain ⟨x10, ex10, rx10⟩ := hp ⟨10, .data⟩ (by simp) rfl _ _ rfl rfl
            obtain rfl : x10 = _ := rx10
            exact ⟨.bool (!allW P.nm 1023 4), w, by simp [execOp, go_sem, ex5, ex10], Below.refl _ _, fun _ _ => rfl⟩
          · trivial
        · intro a w4 hB hsz hdf hk hgot
          obtain ⟨v11, ev11, rv11⟩ := hgot 11 _ 32 rfl rfl
          obtain rfl : v11 = _ := rv11
          obtain ⟨f, hf, rfl⟩ := frame_eq hsz hdf hk [21, 22, 23, 24, 25, 26, 27, 28, 29, 30, 31, 32] (by rfl)
          have f32 := hf 32 _ ev11
          clear hsz hdf hk hgot hf ev11
          simp only [List.drop_succ_cons, List.drop_zero, setAll, List.setIfInBounds_toArray, List.set_cons_succ, List.set_cons_zero, f32]
          clear f32
          generalize f 21 = uu21; generalize f 22 = uu22; generalize f 23 = uu23; generalize f 24 = uu24; generalize f 25 = uu25; generalize f 26 = uu26; generalize f 27 = uu27; generalize f 28 = uu28; generalize f 29 = uu29; generalize f 30 = uu30; generalize f 31 = uu31
          clear hP0 hpt hnm s3 s5 sl h1 h2 h3 hk2 hk h9 hS0 hans
          rw [h8]
          clear h8
          go_wp2
          go_ret
          exact ⟨rfl, bel_trans hb0 hB⟩
      · have e : msF P un ht = 0 := by unfold msF; rw [if_neg (by rw [hk]; simp), h9, h8]; rfl
        obtain rfl : ans = 0 := hans.out.trans e
        replace e := trivial
        refine wp_region_monoG 12 (RL [PE (.pointer (some ⟨bp, 0, none⟩)), PE (.slice (some ⟨bp, 0, none⟩) 16 16), PE (.func (.func 38) #[] #[]), PBy 60000, PE (.bool false), PE (.bool false), PE (.pointer (some ⟨bp, 52, none⟩)), PE (.slice (some ⟨bp, 52, none⟩) 4 4), PE (.func (.func 38) #[] #[]), PBy 1023, PE (.bool (!allW P.nm 1023 4)), PE (.bool (!allW P.nm 1023 4))]) (by kernel_rfl) _ rfl (by kernel_rfl) (by kernel_rfl) (by kernel_rfl) (by kernel_rfl) (by kernel_rfl) (RL.stays ?_) ?_ ?_
        · intro p hp
          simp only [List.mem_cons, List.not_mem_nil, or_false] at hp
          rcases hp with rfl | rfl | rfl | rfl | rfl | rfl | rfl | rfl | rfl | rfl | rfl | rfl <;> first | exact PE.stays _ | exact (fun _ _ _ _ h => h) | exact PBy.stays _
        · simp only [List.take_succ_cons, List.take_zero]
          refine ⟨?_, ?_, ?_, ?_, ?_, ?_, ?_, ?_, ?_, ?_, ?_, ?_, ?_⟩
          · refine MonoS.g ?_
            refine mono_val rfl (fun a w hB hk hp => ?_)
            have es2 := (hk 2 (keep_of (by kernel_rfl))).trans (show _ = some (.pointer (some ⟨bp, 0, none⟩)) from rfl)
            exact ⟨.pointer (some ⟨bp, 0, none⟩), w, by simp [execOp, go_sem, es2], Below.refl _ _, fun _ _ => rfl⟩
          · refine MonoS.g ?_
            refine mono_val rfl (fun a w hB hk hp => ?_)
            obtain ⟨x0, ex0, rx0⟩ := hp ⟨0, .data⟩ (by simp) rfl _ _ rfl rfl
            obtain rfl : x0 = _ := rx0
            exact ⟨.slice (some ⟨bp, 0, none⟩) 16 16, w, by simp [execOp, go_sem, ex0], Below.refl _ _, fun _ _ => rfl⟩
          · refine MonoS.g ?_
            refine mono_val rfl (fun a w hB hk hp => ?_)
            have es5 := (hk 5 (keep_of (by kernel_rfl))).trans (show _ = some (.func (.func 38) #[] #[]) from rfl)
            exact ⟨.func (.func 38) #[] #[], w, by simp [execOp, go_sem, es5], Below.refl _ _, fun _ _ => rfl⟩
          · refine MonoS.g ?_
            refine mono_call rfl (fun a w hB hk hp => ?_)
            obtain ⟨x2, ex2, rx2⟩ := hp ⟨2, .data⟩ (by simp) rfl _ _ rfl rfl
            obtain rfl : x2 = _ := rx2
            exact ⟨38, #[.int .i64 60000], by simp [execOp, go_sem, ex2], (beyond_any w 60000).mono fun e w' ⟨b, h1, h2, h3⟩ => ⟨_, h1, h2, fun _ _ => ⟨b, rfl, h3⟩⟩⟩
          · refine MonoS.g ?_
            refine mono_call rfl (fun a w hB hk hp => ?_)
            obtain ⟨x1, ex1, rx1⟩ := hp ⟨1, .data⟩ (by simp) rfl _ _ rfl rfl
            obtain rfl : x1 = _ := rx1
            obtain ⟨x3, ex3, rx3⟩ := hp ⟨3, .data⟩ (by simp) rfl _ _ rfl rfl
            obtain ⟨bb, rfl, hbb⟩ : PBy 60000 w x3 := rx3
            exact ⟨40, #[.slice (some ⟨bp, 0, none⟩) 16 16, .func (.func 39) #[] #[.pointer (some ⟨bb, 0, none⟩)]], by simp [execOp, go_sem, ex1, ex3], (contains_any w bp 0 16 16 P.pt (hpt.below hB) bb 60000 hbb (by omega) (by omega)).mono fun e w' ⟨h1, h2⟩ => ⟨_, h1, h2, fun _ _ => by rw [h9]; rfl⟩⟩
          · refine MonoS.g ?_
            refine mono_val rfl (fun a w hB hk hp => ?_)
            obtain ⟨x4, ex4, rx4⟩ := hp ⟨4, .data⟩ (by simp) rfl _ _ rfl rfl
            obtain rfl : x4 = _ := rx4
            exact ⟨.bool false, w, by simp [execOp, go_sem, ex4], Below.refl _ _, fun _ _ => rfl⟩
          · refine monoG_on rfl ⟨5, .guard⟩ (by simp) rfl rfl rfl rfl rfl (fun w v h => h) ?_
            refine mono_val rfl (fun a w hB hk hp => ?_)
            have es2 := (hk 2 (keep_of (by kernel_rfl))).trans (show _ = some (.pointer (some ⟨bp, 0, none⟩)) from rfl)
            exact ⟨.pointer (some ⟨bp, 52, none⟩), w, by simp [execOp, go_sem, es2], Below.refl _ _, fun _ _ => rfl⟩
          · refine monoG_on rfl ⟨5, .guard⟩ (by simp) rfl rfl rfl rfl rfl (fun w v h => h) ?_
            refine mono_val rfl (fun a w hB hk hp => ?_)
            obtain ⟨x6, ex6, rx6⟩ := hp ⟨6, .data⟩ (by simp) rfl _ _ rfl rfl
            obtain rfl : x6 = _ := rx6
            exact ⟨.slice (some ⟨bp, 52, none⟩) 4 4, w, by simp [execOp, go_sem, ex6], Below.refl _ _, fun _ _ => rfl⟩
          · refine monoG_on rfl ⟨5, .guard⟩ (by simp) rfl rfl rfl rfl rfl (fun w v h => h) ?_
            refine mono_val rfl (fun a w hB hk hp => ?_)
            have es5 := (hk 5 (keep_of (by kernel_rfl))).trans (show _ = some (.func (.func 38) #[] #[]) from rfl)
            exact ⟨.func (.func 38) #[] #[], w, by simp [execOp, go_sem, es5], Below.refl _ _, fun _ _ => rfl⟩
          · refine monoG_on rfl ⟨5, .guard⟩ (by simp) rfl rfl rfl rfl rfl (fun w v h => h) ?_
            refine mono_call rfl (fun a w hB hk hp => ?_)
            obtain ⟨x8, ex8, rx8⟩ := hp ⟨8, .data⟩ (by simp) rfl _ _ rfl rfl
            obtain rfl : x8 = _ := rx8
            exact ⟨38, #[.int .i64 1023], by simp [execOp, go_sem, ex8], (beyond_any w 1023).mono fun e w' ⟨b, h1, h2, h3⟩ => ⟨_, h1, h2, fun _ _ => ⟨b, rfl, h3⟩⟩⟩
          · refine monoG_on rfl ⟨5, .guard⟩ (by simp) rfl rfl rfl rfl rfl (fun w v h => h) ?_
            refine mono_call rfl (fun a w hB hk hp => ?_)
            obtain ⟨x7, ex7, rx7⟩ := hp ⟨7, .data⟩ (by simp) rfl _ _ rfl rfl
            obtain rfl : x7 = _ := rx7
            obtain ⟨x9, ex9, rx9⟩ := hp ⟨9, .data⟩ (by simp) rfl _ _ rfl rfl
            obtain ⟨bb, rfl, hbb⟩ : PBy 1023 w x9 := rx9
            exact ⟨40, #[.slice (some ⟨bp, 52, none⟩) 4 4, .func (.func 39) #[] #[.pointer (some ⟨bb, 0, none⟩)]], by simp [execOp, go_sem, ex7, ex9], (contains_any w bp 52 4 4 P.nm (hnm.below hB) bb 1023 hbb (by omega) (by omega)).mono fun e w' ⟨h1, h2⟩ => ⟨_, h1, h2, fun _ _ => rfl⟩⟩
          · refine MonoS.g ?_
            refine mono_val rfl (fun a w hB hk hp => ?_)
            obtain ⟨x5, ex5, rx5⟩ := hp ⟨5, .data⟩ (by simp) rfl _ _ rfl rfl
            obtain rfl : x5 = _ := rx5
            obtain ⟨x10, ex10, rx10⟩ := hp ⟨10, .data⟩ (by simp) rfl _ _ rfl rfl
            obtain rfl : x10 = _ := rx10
            exact ⟨.bool (!allW P.nm 1023 4), w, by simp [execOp, go_sem, ex5, ex10], Below.refl _ _, fun _ _ => rfl⟩
          · trivial
        · intro a w4 hB hsz hdf hk hgot
          obtain ⟨v11, ev11, rv11⟩ := hgot 11 _ 32 rfl rfl
          obtain rfl : v11 = _ := rv11
          obtain ⟨f, hf, rfl⟩ := frame_eq hsz hdf hk [21, 22, 23, 24, 25, 26, 27, 28, 29, 30, 31, 32] (by rfl)
          have f32 := hf 32 _ ev11
          clear hsz hdf hk hgot hf ev11
          simp only [List.drop_succ_cons, List.drop_zero, setAll, List.setIfInBounds_toArray, List.set_cons_succ, List.set_cons_zero, f32]
          clear f32
          generalize f 21 = uu21; generalize f 22 = uu22; generalize f 23 = uu23; generalize f 24 = uu24; generalize f 25 = uu25; generalize f 26 = uu26; generalize f 27 = uu27; generalize f 28 = uu28; generalize f 29 = uu29; generalize f 30 = uu30; generalize f 31 = uu31
          clear hP0 hpt hnm s3 s5 sl h1 h2 h3 hk2 hk h9 hS0 hans
          rw [h8]
          clear h8
          go_wp2
          go_ret
          exact ⟨rfl, bel_trans hb0 hB⟩
end Go.Proofs.Ytpaehkjnefgaiaa
namespace Go.Proofs.Ytpaehkjnefgaiaa
open Go.RowKit
set_option linter.unusedVariables false
set_option linter.unusedSimpArgs false
set_option linter.unnecessarySimpa false
set_option maxRecDepth 100000
/-- A texture's cells. -/
def texC (nm : ByteArray) (W H : Int) (A : Option Addr) (n c : Nat) : Array Value := #[.string nm, .int .i64 W, .int .i64 H, .slice A n c]
theorem WH_wrap {W H : Int} (h : (1 ≤ W ∧ W ≤ 16) ∧ (1 ≤ H ∧ H ≤ 16)) : wrap64 (W * H) = W * H := by
  have := WH_bd h
  exact wrap_id (by omega) (by omega)
set_option maxHeartbeats 1000000 in
theorem right_any (w : World) (nm : ByteArray) (W H : Int) (A : Option Addr) (c : Nat) (rows : List Int) (hA : IL w A rows) (hl : rows.length ≤ 1099511627776) :
    Calls Try.prog 85 #[.agg (texC nm W H A rows.length c)] w fun e w' => e = .returned (.bool (rightF W H rows)) ∧ ∃ x, w' = grow w x := by
  refine Calls.mono (R := fun e w' => e = .returned (.bool (rightF W H rows)) ∧ Below w.heap.size w w') ?_ (fun _ _ ⟨he, hb⟩ => ⟨he, grow_of hb⟩)
  unfold texC
  by_cases hs : 1 ≤ W ∧ W ≤ 16 ∧ 1 ≤ H ∧ H ≤ 16 ∧ (rows.length : Int) = W * H
  · have hwh := WH_wrap ⟨⟨hs.1, hs.2.1⟩, hs.2.2.1, hs.2.2.2.1⟩
    obtain ⟨s1, s2, s3, s4, s5⟩ := hs
    have hn : ((rows.length : Int) != W * H) = false := by simp [s5]
    have all := fun (ha : ∀ k (hk : k < rows.length), 0 ≤ rows[k] ∧ rows[k] ≤ 255) => rightF_all ⟨s1, s2, s3, s4, s5⟩ ha
    have all := Lib.hid all
    clear s5
    obtain ⟨ob, hob⟩ : ∃ o, o = rightF W H rows := ⟨_, rfl⟩
    rw [← hob]
    replace hob := Lib.hid hob
    go_enter Try.func85, Try.ntmps85
    go_wp2_with fail
    have hB0 : Below w.heap.size w (w.alloc (.cells #[.string nm, .int .i64 W, .int .i64 H, .slice A rows.length c] 65)) := bel_alloc (Below.refl _ _) _
    generalize (w.alloc (.cells #[.string nm, .int .i64 W, .int .i64 H, .slice A rows.length c] 65)) = w1 at *
    go_loopw [37] (fun i wr => ∃ k : Nat, i = .int .i64 (k : Int) ∧ k ≤ rows.length ∧ Below w.heap.size w wr ∧ Hid (∀ j (hj : j < rows.length), j < k → 0 ≤ rows[j] ∧ rows[j] ≤ 255)) (fun i _ => rows.length - (intOf i).toNat)
    case atStart => exact ⟨0, rfl, by omega, hB0, Lib.hid fun j _ h => absurd h (by omega)⟩
    case round =>
      obtain ⟨k, rfl, hk, hb, hok⟩ := hrel
      clear hB0
      by_cases hlt : k < rows.length
      · obtain ⟨b, off, rfl, hbl, c1⟩ := (hA.below hb).at_ k hlt
        have k0 : (0 : Int) ≤ (k : Int) := by omega
        have k1 : (k : Int) < (rows.length : Int) := by omega
        have kl := lit_any rows[k]
        by_cases hx : 0 ≤ rows[k] ∧ rows[k] ≤ 255
        · rw [decide_eq_true hx] at kl
          have hok' := Lib.hid (fun j (hj : j < rows.length) (h : j < k + 1) => if e : j < k then hok.out j hj e else (show 0 ≤ rows[j] ∧ rows[j] ≤ 255 by obtain rfl : j = k := (by omega); exact hx))
          clear hx
          generalize rows[k] = x at *
          clear hA
          go_wp2_with (first | (go_at_call 87; (with_reducible refine (kl.at_ _).mono ?_); rintro e w' ⟨rfl, xg, rfl⟩) | fail)
          go_roundw
          case rel => exact ⟨k + 1, by go_num, by omega, bel_grow hb xg, hok'⟩
          case measure => simp [intOf]; omega
        · rw [decide_eq_false hx] at kl
          obtain rfl : ob = false := hob.out.trans (rightF_cell hlt hx)
          clear hx
          generalize rows[k] = x at *
          clear hA
          go_wp2_with (first | (go_at_call 87; (with_reducible refine (kl.at_ _).mono ?_); rintro e w' ⟨rfl, xg, rfl⟩) | fail)
          go_ret
          exact ⟨rfl, bel_grow hb xg⟩
      · obtain rfl : k = rows.length := by omega
        obtain rfl : ob = true := hob.out.trans (all.out (fun j hj => hok.out j hj hj))
        go_wp2
        go_ret
        exact ⟨rfl, hb⟩
  · rw [rightF_size hs]
    by_cases hr : (1 ≤ W ∧ W ≤ 16) ∧ (1 ≤ H ∧ H ≤ 16)
    · have hwh := WH_wrap hr
      have hn : ((rows.length : Int) != W * H) = true := by simp; omega
      obtain ⟨⟨s1, s2⟩, s3, s4⟩ := hr
      clear hs
      go_enter Try.func85, Try.ntmps85
      go_wp2_with fail
      go_ret
      exact ⟨rfl, (by repeat (first | exact Below.refl _ _ | refine bel_then ?_ _ | refine bel_grow ?_ _ | refine bel_alloc ?_ _ | refine bel_drew ?_ | refine bel_set ?_ (by simp) _ | refine bel_setRow ?_ (by first | omega | (simp; done) | (refine Nat.le_trans ?_ (top_le _ _); simp; done) | (refine Nat.le_succ_of_le (Nat.le_trans ?_ (top_le _ _)); simp; done) | (refine Nat.le_trans ?_ (top_le _ _); simp only [World.size_alloc]; refine Nat.le_succ_of_le (Nat.le_trans ?_ (top_le _ _)); simp; done)) _))⟩
    · clear hs hA
      rcases (by omega : W < 1 ∨ (1 ≤ W ∧ 16 < W) ∨ (1 ≤ W ∧ W ≤ 16 ∧ H < 1) ∨ (1 ≤ W ∧ W ≤ 16 ∧ 1 ≤ H ∧ 16 < H)) with h1 | ⟨h1, h2⟩ | ⟨h1, h2, h3⟩ | ⟨h1, h2, h3, h4⟩
      all_goals
        clear hr
        go_enter Try.func85, Try.ntmps85
        go_wp2_with fail
        all_goals
          go_ret
          exact ⟨rfl, (by repeat (first | exact Below.refl _ _ | refine bel_then ?_ _ | refine bel_grow ?_ _ | refine bel_alloc ?_ _ | refine bel_drew ?_ | refine bel_set ?_ (by simp) _ | refine bel_setRow ?_ (by first | omega | (simp; done) | (refine Nat.le_trans ?_ (top_le _ _); simp; done) | (refine Nat.le_succ_of_le (Nat.le_trans ?_ (top_le _ _)); simp; done) | (refine Nat.le_trans ?_ (top_le _ _); simp only [World.size_alloc]; refine Nat.le_succ_of_le (Nat.le_trans ?_ (top_le _ _)); simp; done)) _))⟩
end Go.Proofs.Ytpaehkjnefgaiaa
namespace Go.Proofs.Ytpaehkjnefgaiaa
open Go.RowKit
set_option linter.unusedVariables false
set_option linter.unusedSimpArgs false
set_option linter.unnecessarySimpa false
set_option maxRecDepth 100000
theorem il_nat {W : World} {A : Option Addr} {rows : List Int} (h : IL W A rows) (i : Int) (h0 : 0 ≤ i) (hi : i.toNat < rows.length) : ∃ b off, A = some ⟨b, off, none⟩ ∧ b < W.heap.size ∧ W.cell? ⟨b, off + i.toNat, none⟩ = some (.int .i64 rows[i.toNat]) := h.at_ i.toNat hi
set_option maxHeartbeats 1000000 in
theorem texel_any (w : World) (nm : ByteArray) (W H : Int) (A : Option Addr) (c : Nat) (rows : List Int) (hA : IL w A rows) (hl : rows.length ≤ 1099511627776) (p : P3) :
    Calls Try.prog 70 #[.agg (texC nm W H A rows.length c), .agg #[.int .i64 p.x, .int .i64 p.y, .int .i64 p.z]] w fun e w' => e = .returned (.tuple #[.int .i64 (texV W H rows p), .bool (texK W H rows p)]) ∧ ∃ x, w' = grow w x := by
  refine Calls.mono (R := fun e w' => e = .returned (.tuple #[.int .i64 (texV W H rows p), .bool (texK W H rows p)]) ∧ Below w.heap.size w w') ?_ (fun _ _ ⟨he, hb⟩ => ⟨he, grow_of hb⟩)
  have k1 : ∀ W', Below w.heap.size w W' → Calls Try.prog 85 #[.agg #[.string nm, .int .i64 W, .int .i64 H, .slice A rows.length c]] W' fun e w' => e = .returned (.bool (rightF W H rows)) ∧ ∃ x, w' = grow W' x := fun W' hb => right_any W' nm W H A c rows (hA.below hb) hl
  have k2 : Gives Try.prog 19 #[.agg #[.int .i64 p.x, .int .i64 p.y, .int .i64 p.z], .int .i64 65536] (.bool (wi p)) := vWithin_any p.x p.y p.z 65536 (by omega)
  unfold texC
  cases hr : rightF W H rows
  · rw [hr] at k1
    rw [texV_no (show texK W H rows p = false by unfold texK; rw [hr]; rfl), show texK W H rows p = false by unfold texK; rw [hr]; rfl]
    clear hr hA
    go_enter Try.func70, Try.ntmps70
    go_wp2_with (first | (go_at_call 85; (with_reducible refine (k1 _ (by repeat (first | exact Below.refl _ _ | refine bel_then ?_ _ | refine bel_grow ?_ _ | refine bel_alloc ?_ _ | refine bel_drew ?_ | refine bel_set ?_ (by simp) _ | refine bel_setRow ?_ (by first | omega | (simp; done) | (refine Nat.le_trans ?_ (top_le _ _); simp; done) | (refine Nat.le_succ_of_le (Nat.le_trans ?_ (top_le _ _)); simp; done) | (refine Nat.le_trans ?_ (top_le _ _); simp only [World.size_alloc]; refine Nat.le_succ_of_le (Nat.le_trans ?_ (top_le _ _)); simp; done)) _))).mono ?_); rintro e w' ⟨rfl, xg, rfl⟩) | fail)
    go_ret2
    exact ⟨rfl, (by repeat (first | exact Below.refl _ _ | refine bel_then ?_ _ | refine bel_grow ?_ _ | refine bel_alloc ?_ _ | refine bel_drew ?_ | refine bel_set ?_ (by simp) _ | refine bel_setRow ?_ (by first | omega | (simp; done) | (refine Nat.le_trans ?_ (top_le _ _); simp; done) | (refine Nat.le_succ_of_le (Nat.le_trans ?_ (top_le _ _)); simp; done) | (refine Nat.le_trans ?_ (top_le _ _); simp only [World.size_alloc]; refine Nat.le_succ_of_le (Nat.le_trans ?_ (top_le _ _)); simp; done)) _))⟩
  · rw [hr] at k1
    cases hp : wi p
    · rw [hp] at k2
      rw [texV_no (show texK W H rows p = false by unfold texK; rw [hr, hp]; rfl), show texK W H rows p = false by unfold texK; rw [hr, hp]; rfl]
      clear hr hA hp
      go_enter Try.func70, Try.ntmps70
      go_wp2_with (first | (go_at_call 85; (with_reducible refine (k1 _ (by repeat (first | exact Below.refl _ _ | refine bel_then ?_ _ | refine bel_grow ?_ _ | refine bel_alloc ?_ _ | refine bel_drew ?_ | refine bel_set ?_ (by simp) _ | refine bel_setRow ?_ (by first | omega | (simp; done) | (refine Nat.le_trans ?_ (top_le _ _); simp; done) | (refine Nat.le_succ_of_le (Nat.le_trans ?_ (top_le _ _)); simp; done) | (refine Nat.le_trans ?_ (top_le _ _); simp only [World.size_alloc]; refine Nat.le_succ_of_le (Nat.le_trans ?_ (top_le _ _)); simp; done)) _))).mono ?_); rintro e w' ⟨rfl, xg, rfl⟩) | (go_at_call 19; (with_reducible refine (k2.at_ _).mono ?_); rintro e w' ⟨rfl, xh, rfl⟩) | fail)
      go_ret2
      exact ⟨rfl, (by repeat (first | exact Below.refl _ _ | refine bel_then ?_ _ | refine bel_grow ?_ _ | refine bel_alloc ?_ _ | refine bel_drew ?_ | refine bel_set ?_ (by simp) _ | refine bel_setRow ?_ (by first | omega | (simp; done) | (refine Nat.le_trans ?_ (top_le _ _); simp; done) | (refine Nat.le_succ_of_le (Nat.le_trans ?_ (top_le _ _)); simp; done) | (refine Nat.le_trans ?_ (top_le _ _); simp only [World.size_alloc]; refine Nat.le_succ_of_le (Nat.le_trans ?_ (top_le _ _)); simp; done)) _))⟩
    · rw [hp] at k2
      have hk : texK W H rows p = true := by unfold texK; rw [hr, hp]; rfl
      obtain ⟨hb, hi, e⟩ := texV_yes hk
      rw [e, hk]
      obtain ⟨hw, hh, hn, _⟩ := rightF_yes hr
      have hpb := (wiB_iff _ _ _ _).1 hp
      have kx := cell_any p.x W (by omega) hw.1 hw.2
      have ky := cell_any (p.y + p.z) H (by omega) hh.1 hh.2
      obtain ⟨r0, r1⟩ := cellN_bd (x := p.y + p.z) hh.1
      obtain ⟨c0, c1⟩ := cellN_bd (x := p.x) hw.1
      have hbd := WH_bd ⟨hw, hh⟩
      have hb2 : texN W H p < 256 := by omega
      have hrow : 0 ≤ cellN (p.y + p.z) H * W := Int.mul_nonneg r0 (by omega)
      obtain ⟨b, off, rfl, hbl, hc⟩ := il_nat hA (texN W H p) hb hi
      have hi' : texN W H p < (rows.length : Int) := by omega
      clear e hr hk hbd hn hp
      generalize rows[(texN W H p).toNat] = v at *
      unfold texN at *
      clear hA hi
      generalize rows.length = n at *
      obtain ⟨_, ⟨p1, p2⟩, ⟨p3, p4⟩, p5, p6⟩ := hpb
      obtain ⟨w1, w2⟩ := hw
      obtain ⟨h1, h2⟩ := hh
      go_enter Try.func70, Try.ntmps70
      go_upto_region 3 with (first | (go_at_call 85; (with_reducible refine (k1 _ (by repeat (first | exact Below.refl _ _ | refine bel_then ?_ _ | refine bel_grow ?_ _ | refine bel_alloc ?_ _ | refine bel_drew ?_ | refine bel_set ?_ (by simp) _ | refine bel_setRow ?_ (by first | omega | (simp; done) | (refine Nat.le_trans ?_ (top_le _ _); simp; done) | (refine Nat.le_succ_of_le (Nat.le_trans ?_ (top_le _ _)); simp; done) | (refine Nat.le_trans ?_ (top_le _ _); simp only [World.size_alloc]; refine Nat.le_succ_of_le (Nat.le_trans ?_ (top_le _ _)); simp; done)) _))).mono ?_); rintro e w' ⟨rfl, xg, rfl⟩) | (go_at_call 19; (with_reducible refine (k2.at_ _).mono ?_); rintro e w' ⟨rfl, xh, rfl⟩) | fail)
      refine wp_region_grow (by kernel_rfl) (by kernel_rfl) ?_
      repeat (go_big_quiet_step (((first | with_reducible exact kx.quiet _ | with_reducible exact kx.quiet2 _ _ | with_reducible exact ky.quiet _ | with_reducible exact ky.quiet2 _ _))))
      refine wpQuiet_nil ?_
      rintro _ ⟨xg, rfl⟩
      generalize cellN (p.y + p.z) H = row at *
      generalize cellN p.x W = col at *
      clear kx ky k1 k2
      go_wp2
      go_ret2
      exact ⟨rfl, (by repeat (first | exact Below.refl _ _ | refine bel_then ?_ _ | refine bel_grow ?_ _ | refine bel_alloc ?_ _ | refine bel_drew ?_ | refine bel_set ?_ (by simp) _ | refine bel_setRow ?_ (by first | omega | (simp; done) | (refine Nat.le_trans ?_ (top_le _ _); simp; done) | (refine Nat.le_succ_of_le (Nat.le_trans ?_ (top_le _ _)); simp; done) | (refine Nat.le_trans ?_ (top_le _ _); simp only [World.size_alloc]; refine Nat.le_succ_of_le (Nat.le_trans ?_ (top_le _ _)); simp; done)) _))⟩
end Go.Proofs.Ytpaehkjnefgaiaa
namespace Go.Proofs.Ytpaehkjnefgaiaa
open Go.RowKit
set_option linter.unusedVariables false
set_option linter.unusedSimpArgs false
set_option linter.unnecessarySimpa false
set_option maxRecDepth 100000
theorem sc_in {q : P3} {k : Int} (hq : wB q 1023 = true) (hk : 0 ≤ k ∧ k ≤ 16) : (wrap64 (q.x * k) = (scE q k).x ∧ wrap64 (q.y * k) = (scE q k).y ∧ wrap64 (q.z * k) = (scE q k).z) ∧ (-16368 ≤ (scE q k).x ∧ (scE q k).x ≤ 16368) ∧ (-16368 ≤ (scE q k).y ∧ (scE q k).y ≤ 16368) ∧ -16368 ≤ (scE q k).z ∧ (scE q k).z ≤ 16368 := by
  rw [wB_iff] at hq
  obtain ⟨_, a1, a2, a3⟩ := hq
  have c1 := mul_1023 a1 hk
  have c2 := mul_1023 a2 hk
  have c3 := mul_1023 a3 hk
  exact ⟨⟨wrap_id (by omega) (by omega), wrap_id (by omega) (by omega), wrap_id (by omega) (by omega)⟩, c1, c2, c3⟩
theorem vScale_r {q : P3} {k : Int} (hq : wB q 1023 = true) (hk : 0 ≤ k ∧ k ≤ 16) : Gives Try.prog 90 #[.agg #[.int .i64 q.x, .int .i64 q.y, .int .i64 q.z], .int .i64 k] (.agg #[.int .i64 (scE q k).x, .int .i64 (scE q k).y, .int .i64 (scE q k).z]) := by
  have h := vScale_any q.x q.y q.z k
  obtain ⟨⟨h1, h2, h3⟩, _⟩ := sc_in hq hk
  rw [h1, h2, h3] at h
  exact h
theorem ad_in {a b : P3} (h : InP 4611686018427387904 (adE a b)) : wrap64 (a.x + b.x) = (adE a b).x ∧ wrap64 (a.y + b.y) = (adE a b).y ∧ wrap64 (a.z + b.z) = (adE a b).z := by
  obtain ⟨h1, h2, h3⟩ := h
  exact ⟨wrap_id (by unfold adE at h1; simp only at h1; omega) (by unfold adE at h1; simp only at h1; omega), wrap_id (by unfold adE at h2; simp only at h2; omega) (by unfold adE at h2; simp only at h2; omega), wrap_id (by unfold adE at h3; simp only at h3; omega) (by unfold adE at h3; simp only at h3; omega)⟩
theorem vAdd_r {a b : P3} (h : InP 4611686018427387904 (adE a b)) : Gives Try.prog 35 #[.agg #[.int .i64 a.x, .int .i64 a.y, .int .i64 a.z], .agg #[.int .i64 b.x, .int .i64 b.y, .int .i64 b.z]] (.agg #[.int .i64 (adE a b).x, .int .i64 (adE a b).y, .int .i64 (adE a b).z]) := by
  have k := vAdd_any a.x a.y a.z b.x b.y b.z
  obtain ⟨h1, h2, h3⟩ := ad_in h
  rw [h1, h2, h3] at k
  exact k
theorem blS_bd {a b : P3} {i n : Int} (h : blK a b i n = true) : InP 16368 (blS a b i n) := by
  obtain ⟨h1, h2, h3⟩ := blK_yes h
  rw [wB_iff] at *
  obtain ⟨_, a1, a2, a3⟩ := h2
  obtain ⟨_, b1, b2, b3⟩ := h3
  exact ⟨bl1_bd h1 a1 b1, bl1_bd h1 a2 b2, bl1_bd h1 a3 b3⟩
theorem InP.up {m n : Int} {p : P3} (h : InP m p) (hm : m ≤ n) : InP n p := by
  obtain ⟨h1, h2, h3⟩ := h
  exact ⟨⟨by omega, by omega⟩, ⟨by omega, by omega⟩, by omega, by omega⟩
set_option maxHeartbeats 1000000 in
theorem blend_any (a b : P3) (i n : Int) (hi : -9223372036854775808 ≤ i ∧ i ≤ 9223372036854775807) (hn : -9223372036854775808 ≤ n ∧ n ≤ 9223372036854775807) :
    Gives Try.prog 91 #[.agg #[.int .i64 a.x, .int .i64 a.y, .int .i64 a.z], .agg #[.int .i64 b.x, .int .i64 b.y, .int .i64 b.z], .int .i64 i, .int .i64 n] (.tuple #[.agg #[.int .i64 (blP a b i n).x, .int .i64 (blP a b i n).y, .int .i64 (blP a b i n).z], .bool (blK a b i n)]) := by
  have k1 : Gives Try.prog 19 #[.agg #[.int .i64 a.x, .int .i64 a.y, .int .i64 a.z], .int .i64 1023] (.bool (wB a 1023)) := vWithin_any a.x a.y a.z 1023 (by omega)
  have k2 : Gives Try.prog 19 #[.agg #[.int .i64 b.x, .int .i64 b.y, .int .i64 b.z], .int .i64 1023] (.bool (wB b 1023)) := vWithin_any b.x b.y b.z 1023 (by omega)
  by_cases hp : 1 ≤ n ∧ n ≤ 16 ∧ 0 ≤ i ∧ i ≤ n
  · obtain ⟨n1, n2, i1, i2⟩ := hp
    have hpk : plK i n = true := decide_eq_true ⟨n1, n2, i1, i2⟩
    cases ha : wB a 1023
    · have hk : blK a b i n = false := by unfold blK; rw [ha, hpk]; rfl
      rw [ha] at k1
      rw [blP_no hk, hk]
      clear hk ha hpk
      refine Gives.mk fun w => ?_
      go_enter Try.func91, Try.ntmps91
      go_wp2_with (first | (go_at_call 19; first | ((with_reducible refine (k1.at_ _).mono ?_); rintro e w' ⟨rfl, xg, rfl⟩) | ((with_reducible refine (k2.at_ _).mono ?_); rintro e w' ⟨rfl, xg, rfl⟩)) | fail)
      refine bodyPost_ret (v := .tuple #[.agg #[.int .i64 N3.x, .int .i64 N3.y, .int .i64 N3.z], .bool false]) (by simp [results, Try.results91, go_sem, N3]) rfl ⟨rfl, (by repeat (first | exact Below.refl _ _ | refine bel_then ?_ _ | refine bel_grow ?_ _ | refine bel_alloc ?_ _ | refine bel_drew ?_ | refine bel_set ?_ (by simp) _ | refine bel_setRow ?_ (by first | omega | (simp; done) | (refine Nat.le_trans ?_ (top_le _ _); simp; done) | (refine Nat.le_succ_of_le (Nat.le_trans ?_ (top_le _ _)); simp; done) | (refine Nat.le_trans ?_ (top_le _ _); simp only [World.size_alloc]; refine Nat.le_succ_of_le (Nat.le_trans ?_ (top_le _ _)); simp; done)) _))⟩
    · rw [ha] at k1
      cases hb : wB b 1023
      · have hk : blK a b i n = false := by unfold blK; rw [ha, hpk, hb]; rfl
        rw [hb] at k2
        rw [blP_no hk, hk]
        clear hk ha hpk hb
        refine Gives.mk fun w => ?_
        go_enter Try.func91, Try.ntmps91
        go_wp2_with (first | (go_at_call 19; first | ((with_reducible refine (k1.at_ _).mono ?_); rintro e w' ⟨rfl, xg, rfl⟩) | ((with_reducible refine (k2.at_ _).mono ?_); rintro e w' ⟨rfl, xg, rfl⟩)) | fail)
        refine bodyPost_ret (v := .tuple #[.agg #[.int .i64 N3.x, .int .i64 N3.y, .int .i64 N3.z], .bool false]) (by simp [results, Try.results91, go_sem, N3]) rfl ⟨rfl, (by repeat (first | exact Below.refl _ _ | refine bel_then ?_ _ | refine bel_grow ?_ _ | refine bel_alloc ?_ _ | refine bel_drew ?_ | refine bel_set ?_ (by simp) _ | refine bel_setRow ?_ (by first | omega | (simp; done) | (refine Nat.le_trans ?_ (top_le _ _); simp; done) | (refine Nat.le_succ_of_le (Nat.le_trans ?_ (top_le _ _)); simp; done) | (refine Nat.le_trans ?_ (top_le _ _); simp only [World.size_alloc]; refine Nat.le_succ_of_le (Nat.le_trans ?_ (top_le _ _)); simp; done)) _))⟩
      · have hk : blK a b i n = true := by unfold blK; rw [ha, hpk, hb]; rfl
        rw [hb] at k2
        have k3 := vScale_r ha (k := n - i) (by omega)
        have k4 := vScale_r hb (k := i) (by omega)
        have hS := blS_bd hk
        have k5 := vAdd_r (a := scE a (n - i)) (b := scE b i) (hS.up (by omega))
        have k6 := vOf_any (adE (scE a (n - i)) (scE b i)) n (by obtain ⟨h1, h2, h3⟩ := hS; exact ⟨⟨by unfold blS at h1; omega, by unfold blS at h1; omega⟩, ⟨by unfold blS at h2; omega, by unfold blS at h2; omega⟩, by unfold blS at h3; omega, by unfold blS at h3; omega⟩) (by omega)
        rw [blP_yes hk, hk]
        unfold blS at *
        generalize adE (scE a (n - i)) (scE b i) = s at *
        generalize scE a (n - i) = u1 at *
        generalize scE b i = u2 at *
        generalize rnP s n = q at *
        clear hk ha hb hpk hS
        refine Gives.mk fun w => ?_
        go_enter Try.func91, Try.ntmps91
        go_upto_region 3 with (first | (go_at_call 19; first | ((with_reducible refine (k1.at_ _).mono ?_); rintro e w' ⟨rfl, xg, rfl⟩) | ((with_reducible refine (k2.at_ _).mono ?_); rintro e w' ⟨rfl, xg, rfl⟩)) | fail)
        clear k1 k2
        refine wp_region_tail 11 ?_ (by kernel_rfl) (by kernel_rfl) (by kernel_rfl) (fun x => ?_) (fun x => ?_)
        rotate_left
        · simp only [List.take_succ_cons, List.take_zero]
          repeat (go_big_quiet_step (((first | with_reducible exact k3.quiet _ | with_reducible exact k3.quiet2 _ _ | with_reducible exact k4.quiet _ | with_reducible exact k4.quiet2 _ _ | with_reducible exact k5.quiet _ | with_reducible exact k5.quiet2 _ _ | with_reducible exact k6.quiet _ | with_reducible exact k6.quiet2 _ _))))
          refine wpQuiet_nil ?_
          exact rfl
        simp only [List.drop_succ_cons, List.drop_zero]
        try simp only [Act.put, List.setIfInBounds_toArray, List.set_cons_succ, List.set_cons_zero]
        go_wp2
        refine bodyPost_ret (v := .tuple #[.agg #[.int .i64 q.x, .int .i64 q.y, .int .i64 q.z], .bool true]) (by simp [results, Try.results91, go_sem]) rfl ⟨rfl, (by repeat (first | exact Below.refl _ _ | refine bel_then ?_ _ | refine bel_grow ?_ _ | refine bel_alloc ?_ _ | refine bel_drew ?_ | refine bel_set ?_ (by simp) _ | refine bel_setRow ?_ (by first | omega | (simp; done) | (refine Nat.le_trans ?_ (top_le _ _); simp; done) | (refine Nat.le_succ_of_le (Nat.le_trans ?_ (top_le _ _)); simp; done) | (refine Nat.le_trans ?_ (top_le _ _); simp only [World.size_alloc]; refine Nat.le_succ_of_le (Nat.le_trans ?_ (top_le _ _)); simp; done)) _))⟩
  · have hk : blK a b i n = false := by unfold blK; rw [show plK i n = false from decide_eq_false hp]; rfl
    rw [blP_no hk, hk]
    clear hk
    rcases (by omega : n < 1 ∨ (1 ≤ n ∧ 16 < n) ∨ (1 ≤ n ∧ n ≤ 16 ∧ i < 0) ∨ (1 ≤ n ∧ n ≤ 16 ∧ 0 ≤ i ∧ n < i)) with h1 | ⟨h1, h2⟩ | ⟨h1, h2, h3⟩ | ⟨h1, h2, h3, h4⟩
    all_goals
      clear hp
      refine Gives.mk fun w => ?_
      go_enter Try.func91, Try.ntmps91
      go_wp2_with fail
      all_goals
        refine bodyPost_ret (v := .tuple #[.agg #[.int .i64 N3.x, .int .i64 N3.y, .int .i64 N3.z], .bool false]) (by simp [results, Try.results91, go_sem, N3]) rfl ⟨rfl, (by repeat (first | exact Below.refl _ _ | refine bel_then ?_ _ | refine bel_grow ?_ _ | refine bel_alloc ?_ _ | refine bel_drew ?_ | refine bel_set ?_ (by simp) _ | refine bel_setRow ?_ (by first | omega | (simp; done) | (refine Nat.le_trans ?_ (top_le _ _); simp; done) | (refine Nat.le_succ_of_le (Nat.le_trans ?_ (top_le _ _)); simp; done) | (refine Nat.le_trans ?_ (top_le _ _); simp only [World.size_alloc]; refine Nat.le_succ_of_le (Nat.le_trans ?_ (top_le _ _)); simp; done)) _))⟩
end Go.Proofs.Ytpaehkjnefgaiaa
