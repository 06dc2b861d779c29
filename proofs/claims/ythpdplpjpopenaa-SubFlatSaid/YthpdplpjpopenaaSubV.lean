/- Each coordinate of a finer cage, exactly. -/
import Derived.Test.YthpdplpjpopenaaC2
import Derived.Test.YthpdplpjpopenaaC12
namespace Go.Proofs.Ythpdplpjpopenaa
open Go.RowKit
set_option linter.unusedVariables false
set_option linter.unusedSimpArgs false
/-- One of the three coordinates. -/
structure Co (g : P3 → Int) : Prop where
  ad : ∀ a b, g (adW a b) = wrap64 (g a + g b)
  of : ∀ s n, g (ofP s n) = rnd (g s) n
  sc : ∀ a k, g (scW a k) = wrap64 (g a * k)
  z : g Z3 = 0
  tri : ∀ f : (P3 → Int) → Int, g (tri3 f) = f g
  inP : ∀ m p, InP m p → -m ≤ g p ∧ g p ≤ m
theorem co_x : Co P3.x := ⟨fun _ _ => rfl, fun _ _ => rfl, fun _ _ => rfl, rfl, fun _ => rfl, fun _ _ h => h.1⟩
theorem co_y : Co P3.y := ⟨fun _ _ => rfl, fun _ _ => rfl, fun _ _ => rfl, rfl, fun _ => rfl, fun _ _ h => h.2.1⟩
theorem co_z : Co P3.z := ⟨fun _ _ => rfl, fun _ _ => rfl, fun _ _ => rfl, rfl, fun _ => rfl, fun _ _ h => h.2.2⟩
theorem sum_bd (B : Int) : ∀ l : List Int, (∀ y ∈ l, -B ≤ y ∧ y ≤ B) → -(l.length * B) ≤ l.sum ∧ l.sum ≤ l.length * B
  | [], _ => by simp
  | a :: r, h => by
    have h1 := sum_bd B r (fun y hy => h y (List.mem_cons_of_mem _ hy))
    have h2 := h a (by simp)
    simp only [List.sum_cons, List.length_cons]
    have e : ((r.length + 1 : Nat) : Int) * B = (r.length : Int) * B + B := by rw [Int.natCast_add, Int.add_mul]; simp
    rw [e]; omega
theorem fold_exact (B : Int) (hB : 0 ≤ B) : ∀ (l : List Int) (s : Int), (∀ y ∈ l, -B ≤ y ∧ y ≤ B) → (-4611686018427387904 ≤ s - l.length * B ∧ s + l.length * B ≤ 4611686018427387904) → l.foldl (fun s y => wrap64 (s + y)) s = s + l.sum
  | [], s, _, _ => by simp
  | a :: r, s, h, hs => by
    have h2 := h a (by simp)
    have e : ((r.length + 1 : Nat) : Int) * B = (r.length : Int) * B + B := by rw [Int.natCast_add, Int.add_mul]; simp
    simp only [List.length_cons] at hs
    rw [e] at hs
    have hr : 0 ≤ (r.length : Int) * B := Int.mul_nonneg (by omega) hB
    have hw : wrap64 (s + a) = s + a := by unfold wrap64; omega
    rw [List.foldl_cons, hw, fold_exact B hB r (s + a) (fun y hy => h y (List.mem_cons_of_mem _ hy)) (by omega), List.sum_cons]
    omega
/-- A coordinate of a sum of points. -/
theorem co_fold {g : P3 → Int} (hg : Co g) (B : Int) (hB : 0 ≤ B) (s : P3) (l : List P3) (h : ∀ p ∈ l, -B ≤ g p ∧ g p ≤ B) (hs : -4611686018427387904 ≤ g s - l.length * B ∧ g s + l.length * B ≤ 4611686018427387904) : g (foldP s l) = g s + (l.map g).sum := by
  rw [foldP_tri g hg.ad, fold_exact B hB (l.map g) (g s) (fun y hy => by obtain ⟨p, hp, rfl⟩ := List.mem_map.1 hy; exact h p hp) (by simpa using hs)]
/-- The other ends of the edges at a vertex; of the sharp ones. -/
def othE (v : Int) (L : List (Ed × Int)) : List Int := L.filterMap fun q => other v q.1
def othS (v : Int) (L : List (Ed × Int)) : List Int := L.filterMap fun q => if q.2 = 0 then none else other v q.1
theorem starF_eq (vs : List P3) (v : Int) : ∀ (L : List (Ed × Int)) (s : St), L.foldl (starE vs v) s = ⟨foldP s.all ((othE v L).map (vat vs)), foldP s.ends ((othS v L).map (vat vs)), s.n + (othS v L).length⟩
  | [], s => rfl
  | q :: r, s => by
    rw [List.foldl_cons, starF_eq vs v r]
    unfold starE othE othS other
    by_cases h1 : q.1.a = v
    · by_cases h2 : q.2 = 0
      · simp [h1, h2, starMeet, foldP]
      · simp [h1, h2, starMeet, foldP]; omega
    · by_cases h3 : q.1.b = v
      · by_cases h2 : q.2 = 0
        · simp [h1, h2, h3, starMeet, foldP]
        · simp [h1, h2, h3, starMeet, foldP]; omega
      · simp [h1, h3]
/-- A coordinate's value by a vertex's number. -/
theorem co_vat {g : P3 → Int} (hg : Co g) {m : Int} (hm : 0 ≤ m) {vs : List P3} (h : ∀ p ∈ vs, InP m p) (v : Int) : -m ≤ g (vat vs v) ∧ g (vat vs v) ≤ m := by
  unfold vat
  rw [List.getD_eq_getElem?_getD]
  cases hq : vs[v.toNat]? with
  | none => simp only [Option.getD_none, hg.z]; omega
  | some p => exact hg.inP m p (h p (List.mem_of_getElem? hq))
/-- Rounded, a mean stays between. -/
theorem rnd_box {x n lo hi : Int} (hn : 0 < n) (hn2 : n ≤ 2305843009213693952) (h1 : lo * n ≤ x) (h2 : x ≤ hi * n) (hx : -2305843009213693952 ≤ x ∧ x ≤ 2305843009213693952) : lo ≤ rnd x n ∧ rnd x n ≤ hi := by
  rw [rnd_in (by omega)]
  constructor
  · apply (Int.le_ediv_iff_mul_le (by omega)).2
    have : lo * (2 * n) = 2 * (lo * n) := by rw [Int.mul_left_comm]
    omega
  · apply Int.le_of_lt_add_one
    apply (Int.ediv_lt_iff_lt_mul (by omega)).2
    have : (hi + 1) * (2 * n) = 2 * (hi * n) + 2 * n := by rw [Int.add_mul, Int.mul_left_comm]; omega
    omega
theorem rnd_shift {x n k : Int} (hn : 0 < n) (hn2 : n ≤ 2305843009213693952) (hx : -2305843009213693952 ≤ x ∧ x ≤ 2305843009213693952) (hy : -2305843009213693952 ≤ x + k * n ∧ x + k * n ≤ 2305843009213693952) : rnd (x + k * n) n = rnd x n + k := by
  rw [rnd_in (by omega), rnd_in (by omega)]
  rw [show 2 * (x + k * n) + n = 2 * x + n + k * (2 * n) by rw [Int.mul_left_comm]; omega]
  exact Int.add_mul_ediv_right _ _ (by omega)
theorem co_mid {g : P3 → Int} (hg : Co g) {vs : List P3} (h : ∀ p ∈ vs, InP 65536 p) (x : List Int) (hx : x.length ≤ 1000000) : g (midP vs x) = rnd ((x.map fun v => g (vat vs v)).sum) x.length := by
  rw [← mid_eq, hg.of, co_fold hg 65536 (by omega) _ _ (fun p hp => by obtain ⟨v, _, rfl⟩ := List.mem_map.1 hp; exact co_vat hg (by omega) h v) (by rw [hg.z, List.length_map]; omega), hg.z, List.map_map, Int.zero_add]
  rfl
theorem mid_in {vs : List P3} (h : ∀ p ∈ vs, InP 65536 p) (x : List Int) (hx : x.length ≤ 1000000) (hx0 : 0 < x.length) : InP 65536 (midP vs x) := by
  have key : ∀ g : P3 → Int, Co g → -65536 ≤ g (midP vs x) ∧ g (midP vs x) ≤ 65536 := fun g hg => by
    rw [co_mid hg h x hx]
    have hb := sum_bd 65536 (x.map fun v => g (vat vs v)) (fun y hy => by obtain ⟨v, _, rfl⟩ := List.mem_map.1 hy; exact co_vat hg (by omega) h v)
    rw [List.length_map] at hb
    exact rnd_box (by omega) (by omega) (by omega) (by omega) (by omega)
  exact ⟨key _ co_x, key _ co_y, key _ co_z⟩
theorem mids_in {vs : List P3} (h : ∀ p ∈ vs, InP 65536 p) (fs : List (List Int)) (hx : ∀ x ∈ fs, x.length ≤ 1000000 ∧ 0 < x.length) : ∀ p ∈ midsL vs fs, InP 65536 p := fun p hp => by
  obtain ⟨f, hf, rfl⟩ := List.mem_map.1 hp
  have hf2 : f < fs.length := by simpa using hf
  have e : fs.getD f [] = fs[f] := by rw [List.getD_eq_getElem?_getD, List.getElem?_eq_getElem hf2]; rfl
  rw [e]
  have := hx _ (List.getElem_mem hf2)
  exact mid_in h _ this.1 this.2
/-- The place of a vertex, one coordinate: what it is reckoned from. -/
def placeG (q M : Int → Int) (v : Int) (fan : List Int) (L : List (Ed × Int)) : Int :=
  if 2 < (othS v L).length then q v else if (othS v L).length = 2 then rnd (6 * q v + ((othS v L).map q).sum) 8 else q v + rnd ((fan.map M).sum + ((othE v L).map q).sum - 2 * (fan.length : Int) * q v) ((fan.length : Int) * (fan.length : Int))
theorem co_place {g : P3 → Int} (hg : Co g) {vs ms : List P3} (h : ∀ p ∈ vs, InP 65536 p) (hm : ∀ p ∈ ms, InP 65536 p) (fan : List Int) (L : List (Ed × Int)) (v : Int) (hf : fan.length ≤ 1000000) (hf0 : 0 < fan.length) (hL : L.length ≤ 1000000) :
    g (placeP (starF vs ms fan L v) (vat vs v) fan.length) = placeG (fun u => g (vat vs u)) (fun f => g (vat ms f)) v fan L := by
  have hs := starF_eq vs v L (star0 ms fan)
  have e : starF vs ms fan L v = L.foldl (starE vs v) (star0 ms fan) := rfl
  have l1 : (othE v L).length ≤ L.length := List.length_filterMap_le _ _
  have l2 : (othS v L).length ≤ L.length := List.length_filterMap_le _ _
  have hv := co_vat hg (m := 65536) (by omega) h v
  have hq : ∀ l : List Int, ∀ p ∈ l.map (vat vs), -65536 ≤ g p ∧ g p ≤ 65536 := fun l p hp => by obtain ⟨u, _, rfl⟩ := List.mem_map.1 hp; exact co_vat hg (by omega) h u
  have hM : ∀ p ∈ fan.map (vat ms), -65536 ≤ g p ∧ g p ≤ 65536 := fun p hp => by obtain ⟨u, _, rfl⟩ := List.mem_map.1 hp; exact co_vat hg (by omega) hm u
  have hends : g (starF vs ms fan L v).ends = ((othS v L).map fun u => g (vat vs u)).sum := by
    rw [e, hs]
    show g (foldP Z3 _) = _
    rw [co_fold hg 65536 (by omega) _ _ (hq _) (by rw [hg.z, List.length_map]; omega), hg.z, List.map_map, Int.zero_add]; rfl
  have hallm : g (foldP Z3 (fan.map (vat ms))) = (fan.map fun f => g (vat ms f)).sum := by
    rw [co_fold hg 65536 (by omega) _ _ hM (by rw [hg.z, List.length_map]; omega), hg.z, List.map_map, Int.zero_add]; rfl
  have bM := sum_bd 65536 (fan.map fun f => g (vat ms f)) (fun y hy => by obtain ⟨u, _, rfl⟩ := List.mem_map.1 hy; exact co_vat hg (by omega) hm u)
  have bE := sum_bd 65536 ((othE v L).map fun u => g (vat vs u)) (fun y hy => by obtain ⟨u, _, rfl⟩ := List.mem_map.1 hy; exact co_vat hg (by omega) h u)
  have bS := sum_bd 65536 ((othS v L).map fun u => g (vat vs u)) (fun y hy => by obtain ⟨u, _, rfl⟩ := List.mem_map.1 hy; exact co_vat hg (by omega) h u)
  rw [List.length_map] at bM bE bS
  have hall : g (starF vs ms fan L v).all = (fan.map fun f => g (vat ms f)).sum + ((othE v L).map fun u => g (vat vs u)).sum := by
    rw [e, hs]
    show g (foldP (foldP Z3 (fan.map (vat ms))) _) = _
    rw [co_fold hg 65536 (by omega) _ _ (hq _) (by rw [hallm, List.length_map]; omega), hallm, List.map_map]; rfl
  have hn : (starF vs ms fan L v).n = (othS v L).length := by rw [e, hs]; show 0 + _ = _; omega
  have bq := hv
  have hnn : 0 ≤ (fan.length : Int) := by omega
  unfold placeP placeG
  rw [hn]
  split
  · rfl
  · split
    · rename_i h2
      have e6 : g (scW (vat vs v) 6) = 6 * g (vat vs v) := by rw [hg.sc]; unfold wrap64; omega
      rw [hg.of, co_fold hg 65536000000 (by omega) _ _ ?_ ?_]
      · simp only [hg.z, List.map_cons, List.map_nil, List.sum_cons, List.sum_nil, e6, hends]
        congr 1; omega
      · intro p hp
        simp only [List.mem_cons, List.not_mem_nil, or_false] at hp
        rcases hp with rfl | rfl
        · rw [e6]; omega
        · rw [hends]; omega
      · rw [hg.z]; simp only [List.length_cons, List.length_nil]; omega
    · have k1 : (fan.length : Int) * g (vat vs v) ≤ (fan.length : Int) * 65536 := Int.mul_le_mul_of_nonneg_left bq.2 hnn
      have k2 : (fan.length : Int) * (-65536) ≤ (fan.length : Int) * g (vat vs v) := Int.mul_le_mul_of_nonneg_left bq.1 hnn
      have en : g (vat vs v) * (-2 * (fan.length : Int)) = -2 * ((fan.length : Int) * g (vat vs v)) := by rw [Int.mul_comm, Int.mul_assoc]
      have en2 : 2 * (fan.length : Int) * g (vat vs v) = 2 * ((fan.length : Int) * g (vat vs v)) := Int.mul_assoc ..
      have e2 : g (scW (vat vs v) (-2 * (fan.length : Int))) = -2 * ((fan.length : Int) * g (vat vs v)) := by rw [hg.sc, en]; unfold wrap64; omega
      rw [hg.ad, hg.of, co_fold hg 262144000000 (by omega) _ _ ?_ ?_]
      · simp only [hg.z, List.map_cons, List.map_nil, List.sum_cons, List.sum_nil, e2, hall, en2]
        have ex : (0 : Int) + ((fan.map fun f => g (vat ms f)).sum + ((othE v L).map fun u => g (vat vs u)).sum + (-2 * ((fan.length : Int) * g (vat vs v)) + 0)) = (fan.map fun f => g (vat ms f)).sum + ((othE v L).map fun u => g (vat vs u)).sum - 2 * ((fan.length : Int) * g (vat vs v)) := by omega
        rw [ex]
        generalize hX : (fan.map fun f => g (vat ms f)).sum + ((othE v L).map fun u => g (vat vs u)).sum - 2 * ((fan.length : Int) * g (vat vs v)) = X at *
        have hX1 : -524288000000 ≤ X ∧ X ≤ 524288000000 := by omega
        have hN1 : 1 ≤ (fan.length : Int) * (fan.length : Int) := by
          have := Int.mul_le_mul_of_nonneg_left (show 1 ≤ (fan.length : Int) by omega) hnn
          omega
        have hN2 : (fan.length : Int) * (fan.length : Int) ≤ 1000000000000 := by
          have := Int.mul_le_mul_of_nonneg_left (show (fan.length : Int) ≤ 1000000 by omega) hnn
          omega
        generalize (fan.length : Int) * (fan.length : Int) = N at *
        have hr := rnd_box (x := X) (n := N) (lo := -524288000000) (hi := 524288000000) (by omega) (by omega) (by omega) (by omega) (by omega)
        unfold wrap64; omega
      · intro p hp
        simp only [List.mem_cons, List.not_mem_nil, or_false] at hp
        rcases hp with rfl | rfl
        · rw [hall]; omega
        · rw [e2]; omega
      · rw [hg.z]; simp only [List.length_cons, List.length_nil]; omega
end Go.Proofs.Ythpdplpjpopenaa
