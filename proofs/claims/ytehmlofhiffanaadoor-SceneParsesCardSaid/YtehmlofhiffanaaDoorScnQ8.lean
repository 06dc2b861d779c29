/- The program's own scene: names in rows; numbers of two rows; the line of a texture. -/
import Derived.Test.YtehmlofhiffanaaDoorScnQ7
import Derived.Test.YtehmlofhiffanaaDoorScnQ5
import Derived.Test.YtehmlofhiffanaaDoorMLexP
namespace Go.Proofs.YtehmlofhiffanaaDoor
open Go.RowKit
set_option linter.unusedVariables false
set_option linter.unusedSimpArgs false
set_option linter.unnecessarySimpa false

theorem numV_small (s : ByteArray) (h : (numV s).2 = true) : -999999 ≤ (numV s).1 ∧ (numV s).1 ≤ 999999 := by
  have key : ∀ t : ByteArray, okU t = true → nv t t.size < 1000000 := fun t ht => by
    unfold okU at ht
    simp only [Bool.and_eq_true, decide_eq_true_eq] at ht
    exact nv_small t _ ht.2 ht.1.1.2
  unfold numV at h ⊢
  split
  · split
    · rename_i q; have := key _ q; simp only; omega
    · simp
  · split
    · simp
    · split
      · rename_i q; have := key _ q; simp only; omega
      · simp
theorem numsF_small : ∀ (ws : List Wd) (ns : List Int), numsF ws = some ns → ∀ x ∈ ns, -999999 ≤ x ∧ x ≤ 999999
  | [], ns, h, x, hx => by unfold numsF at h; injection h with h; subst h; cases hx
  | w :: ws, ns, h, x, hx => by
    unfold numsF at h
    split at h
    · rename_i q
      cases e : numsF ws with
      | none => rw [e] at h; cases h
      | some m =>
        rw [e] at h
        injection h with h
        subst h
        rcases List.mem_cons.1 hx with rfl | hx
        · exact numV_small _ q
        · exact numsF_small ws m e x hx
    · cases h
theorem numsF_app (l m : List Wd) : numsF (l ++ m) = match numsF l, numsF m with | some a, some b => some (a ++ b) | _, _ => none := by
  rw [numsF_eq, numsF_eq, numsF_eq, List.all_append, List.map_append]
  cases h1 : (l.all fun w => (nW w).2) <;> cases h2 : (m.all fun w => (nW w).2) <;> simp
theorem SFW.subE {W : World} {b off : Nat} {ws : List Wd} (h : SFW W (some ⟨b, off, none⟩) ws) (a e off' : Nat) (he : e ≤ ws.length) (ho : off' = off + a) : SFW W (some ⟨b, off', none⟩) ((ws.take e).drop a) := fun h0 => by
  have hl : a < e := by rw [List.length_drop, List.length_take] at h0; omega
  obtain ⟨b2, off2, q, hb, hc⟩ := h (by omega)
  cases q
  refine ⟨b, off + a, by rw [ho], hb, fun i hi => ?_⟩
  rw [List.length_drop, List.length_take] at hi
  rw [Nat.add_assoc, hc (a + i) (by omega)]
  have h1 : a + i < ws.length := by omega
  simp [List.getD, h1]
  rw [List.getElem?_take_of_lt (by omega)]
  simp [h1]
theorem RepV.ef_tex {W : World} {base g : Nat} {TR : TypeId} {sc : Scn} {val : Key → Value} (h : RepV base W g TR sc val) {A : Option Addr} {a : Nat} (hv : val .texs = .slice A sc.texs.length a) : EFtex W A (sc.texs.map (·.1)) := fun h0 => by
  rw [List.length_map] at h0
  have ho : W.ownsRow base 67 4 (val .texs) sc.texs.length ((texSS sc val).flatMap fT) := h.own.row .texs
  have hlen : (texSS sc val).length = sc.texs.length := by unfold texSS; simp
  rcases ho.2 with ⟨h1, h2⟩ | ⟨b, cap, cur, h1, _⟩
  · omega
  · rw [h1] at hv ho
    cases hv
    refine ⟨b, 0, rfl, (ho.lt b rfl).2, fun i hi => ?_⟩
    rw [List.length_map] at hi
    have G := fun j (hj : j < 4) => flat_get fT 4 (fun _ => rfl) (texSS sc val) i (by omega) j hj
    have e : (texSS sc val)[i] = (texAt sc i, val (.tex i)) := by unfold texSS; simp
    have en : (sc.texs.map (·.1)).getD i [] = (texAt sc i).1 := by unfold texAt; simp [List.getD, hi]
    simp only [e] at G
    have hr := h.own.row (.tex i)
    obtain ⟨A3, n3, c3, e3⟩ : ∃ A3 n3 c3, val (.tex i) = .slice A3 n3 c3 := by
      rcases (show roRow W base 3 (val (.tex i)) _ _ from hr).2 with ⟨q, _⟩ | ⟨bb, o2, cp, _, q, _⟩
      · exact ⟨_, _, _, q⟩
      · exact ⟨_, _, _, q⟩
    simp only [Nat.zero_add]
    refine ⟨by rw [ho.cellAt (i * 4) (by omega), show i * 4 = i * 4 + 0 by omega, G 0 (by omega), en]; rfl, (texAt sc i).2.getD 0 0, (texAt sc i).2.getD 1 0, A3, n3, c3, ?_, ?_, ?_⟩
    · rw [ho.cellAt (i * 4 + 1) (by omega), G 1 (by omega)]; rfl
    · rw [ho.cellAt (i * 4 + 2) (by omega), G 2 (by omega)]; rfl
    · rw [ho.cellAt (i * 4 + 3) (by omega), G 3 (by omega), ← e3]; rfl
theorem RepV.ef_mat {W : World} {base g : Nat} {TR : TypeId} {sc : Scn} {val : Key → Value} (h : RepV base W g TR sc val) {A : Option Addr} {a : Nat} (hv : val .mats = .slice A sc.mats.length a) : EFmat W A (sc.mats.map (·.1)) := fun h0 => by
  rw [List.length_map] at h0
  have ho : W.ownsRow base 65 9 (val .mats) sc.mats.length (sc.mats.flatMap fM) := h.own.row .mats
  rcases ho.2 with ⟨h1, h2⟩ | ⟨b, cap, cur, h1, _⟩
  · omega
  · rw [h1] at hv ho
    cases hv
    refine ⟨b, 0, rfl, (ho.lt b rfl).2, fun i hi => ?_⟩
    rw [List.length_map] at hi
    have G := fun j (hj : j < 9) => flat_get fM 9 (fun _ => rfl) sc.mats i hi j hj
    have en : (sc.mats.map (·.1)).getD i [] = (sc.mats[i]).1 := by simp [List.getD, hi]
    simp only [Nat.zero_add]
    refine ⟨by rw [ho.cellAt (i * 9) (by omega), show i * 9 = i * 9 + 0 by omega, G 0 (by omega), en]; rfl, (sc.mats[i]).2.getD 0 0, (sc.mats[i]).2.getD 1 0, (sc.mats[i]).2.getD 2 0, (sc.mats[i]).2.getD 3 0, (sc.mats[i]).2.getD 4 0, (sc.mats[i]).2.getD 5 0, (sc.mats[i]).2.getD 6 0, (sc.mats[i]).2.getD 7 0, ?_, ?_, ?_, ?_, ?_, ?_, ?_, ?_⟩
    · rw [ho.cellAt (i * 9 + 1) (by omega), G 1 (by omega)]; rfl
    · rw [ho.cellAt (i * 9 + 2) (by omega), G 2 (by omega)]; rfl
    · rw [ho.cellAt (i * 9 + 3) (by omega), G 3 (by omega)]; rfl
    · rw [ho.cellAt (i * 9 + 4) (by omega), G 4 (by omega)]; rfl
    · rw [ho.cellAt (i * 9 + 5) (by omega), G 5 (by omega)]; rfl
    · rw [ho.cellAt (i * 9 + 6) (by omega), G 6 (by omega)]; rfl
    · rw [ho.cellAt (i * 9 + 7) (by omega), G 7 (by omega)]; rfl
    · rw [ho.cellAt (i * 9 + 8) (by omega), G 8 (by omega)]; rfl
theorem RepV.ef_skin {W : World} {base g : Nat} {TR : TypeId} {sc : Scn} {val : Key → Value} (h : RepV base W g TR sc val) {A : Option Addr} {a : Nat} (hv : val .skins = .slice A sc.skins.length a) : EFskin W A (sc.skins.map (·.name)) := fun h0 => by
  rw [List.length_map] at h0
  have ho : W.ownsRow base 42 6 (val .skins) sc.skins.length (sc.skins.flatMap fS) := h.own.row .skins
  rcases ho.2 with ⟨h1, h2⟩ | ⟨b, cap, cur, h1, _⟩
  · omega
  · rw [h1] at hv ho
    cases hv
    refine ⟨b, 0, rfl, (ho.lt b rfl).2, fun i hi => ?_⟩
    rw [List.length_map] at hi
    have G := fun j (hj : j < 6) => flat_get fS 6 (fun _ => rfl) sc.skins i hi j hj
    have en : (sc.skins.map (·.name)).getD i [] = (sc.skins[i]).name := by simp [List.getD, hi]
    simp only [Nat.zero_add]
    refine ⟨by rw [ho.cellAt (i * 6) (by omega), show i * 6 = i * 6 + 0 by omega, G 0 (by omega), en]; rfl, ((sc.skins[i]).mat : Int), (sc.skins[i]).levels, (sc.skins[i]).unit, (sc.skins[i]).tex, (sc.skins[i]).height, ?_, ?_, ?_, ?_, ?_⟩
    · rw [ho.cellAt (i * 6 + 1) (by omega), G 1 (by omega)]; rfl
    · rw [ho.cellAt (i * 6 + 2) (by omega), G 2 (by omega)]; rfl
    · rw [ho.cellAt (i * 6 + 3) (by omega), G 3 (by omega)]; rfl
    · rw [ho.cellAt (i * 6 + 4) (by omega), G 4 (by omega)]; rfl
    · rw [ho.cellAt (i * 6 + 5) (by omega), G 5 (by omega)]; rfl
end Go.Proofs.YtehmlofhiffanaaDoor
