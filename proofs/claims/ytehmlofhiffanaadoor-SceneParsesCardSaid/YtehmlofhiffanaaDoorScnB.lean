/- Scenes that are read: their bounds, how many things there are, what order makes no difference (math). -/
import Derived.Test.YtehmlofhiffanaaDoorScnM
namespace Go.Proofs.YtehmlofhiffanaaDoor
set_option linter.unusedVariables false
set_option linter.unusedSimpArgs false
theorem wi_at {n : List Int} {a b : Nat} {lo hi : Int} (h : wi n a b lo hi = true) (i : Nat) (h1 : a ≤ i) (h2 : i < b) (h3 : i < n.length) : lo ≤ n.getD i 0 ∧ n.getD i 0 ≤ hi := by
  unfold wi at h
  rw [List.all_eq_true] at h
  have hm : n[i] ∈ (n.take b).drop a := by
    rw [List.mem_iff_getElem]
    refine ⟨i - a, by simp; omega, ?_⟩
    rw [List.getElem_drop, List.getElem_take]
    congr 1
    omega
  have := h _ hm
  simp only [Bool.and_eq_true, decide_eq_true_eq] at this
  simpa [List.getD, h3] using this
theorem onLast_at {f : CageM → CageM} {l : List CageM} {c : CageM} (h : l.getLast? = some c) : ∃ ys, l = ys ++ [c] ∧ onLast f l = ys ++ [f c] := by
  obtain ⟨ys, rfl⟩ := List.getLast?_eq_some_iff.1 h
  exact ⟨ys, rfl, by unfold onLast; simp⟩
theorem place_lt (name : Wd) : ∀ (l : List Wd) (i : Nat), place name l = some i → i < l.length
  | [], i, h => by cases h
  | x :: l, i, h => by
    unfold place at h
    split at h
    · injection h with h; subst h; simp
    · cases e : place name l with
      | none => rw [e] at h; cases h
      | some j => rw [e] at h; injection h with h; subst h; have := place_lt name l j e; simp; omega
/-- What is read is within the bounds. -/
structure InvS (sc : Scn) : Prop where
  cam : ∀ n, sc.cam = some n → n.length = 16 ∧ (1 ≤ n.getD 12 0 ∧ n.getD 12 0 ≤ 64) ∧ (1 ≤ n.getD 13 0 ∧ n.getD 13 0 ≤ 64) ∧ (1 ≤ n.getD 14 0 ∧ n.getD 14 0 ≤ 4) ∧ 0 ≤ n.getD 15 0 ∧ n.getD 15 0 ≤ 8
  skins : sc.skins.length = sc.cages.length ∧ sc.cages.length ≤ 8
  skin : ∀ k ∈ sc.skins, k.mat < sc.mats.length ∧ -1 ≤ k.tex ∧ k.tex < sc.texs.length ∧ 0 ≤ k.levels ∧ k.levels ≤ 2 ∧ 1 ≤ k.unit
  cage : ∀ c ∈ sc.cages, c.verts.length ≤ 64 ∧ c.faces.length ≤ 64 ∧ ∀ f ∈ c.faces, ∀ j ∈ f, 0 ≤ j ∧ j < c.verts.length
theorem invS0 : InvS scn0 := ⟨(fun n h => by cases h), ⟨rfl, by decide⟩, (fun k h => by cases h), (fun c h => by cases h)⟩
theorem placeI_lt (name : Wd) (l : List Wd) : -1 ≤ placeI name l ∧ placeI name l < l.length := by
  unfold placeI
  cases e : place name l with
  | none => simp only; omega
  | some i => have := place_lt name l i e; simp only; omega
theorem inv_adds {sc sc' : Scn} {ws : List Wd} (h : Adds sc ws sc') (hi : InvS sc) : InvS sc' := by
  cases h with
  | camera ws n h1 h2 h3 h4 =>
    simp only [Bool.and_eq_true] at h4
    obtain ⟨⟨⟨⟨_, _⟩, w1⟩, w2⟩, w3⟩ := h4
    exact ⟨fun m hm => by
      simp only [Option.some.injEq] at hm
      subst hm
      exact ⟨h2, wi_at w1 12 (by omega) (by omega) (by omega), wi_at w1 13 (by omega) (by omega) (by omega), wi_at w2 14 (by omega) (by omega) (by omega), wi_at w3 15 (by omega) (by omega) (by omega)⟩, hi.skins, hi.skin, hi.cage⟩
  | sky ws n h1 h2 h3 h4 => exact ⟨hi.cam, hi.skins, hi.skin, hi.cage⟩
  | light ws n h1 h2 h3 h4 => exact ⟨hi.cam, hi.skins, hi.skin, hi.cage⟩
  | texture name ws n h1 h2 h3 h4 h5 h6 h7 =>
    exact ⟨hi.cam, hi.skins, fun k hk => by have := hi.skin k hk; simp; omega, hi.cage⟩
  | material name ws n h1 h2 h3 h4 h5 h6 =>
    exact ⟨hi.cam, hi.skins, fun k hk => by have := hi.skin k hk; simp; omega, hi.cage⟩
  | cage name mat w3 w4 tex w6 n i h1 h2 h3 h4 h5 h6 h7 h8 h9 =>
    have hl := numsF_len _ _ h4
    simp only [List.length_cons, List.length_nil] at hl
    simp only [Bool.and_eq_true] at h9
    obtain ⟨⟨w1, w2⟩, w3'⟩ := h9
    have b1 := wi_at w1 0 (by omega) (by omega) (by omega)
    have b2 := wi_at w2 1 (by omega) (by omega) (by omega)
    have hp := place_lt mat _ i h7
    have ht := placeI_lt tex (sc.texs.map (·.1))
    simp only [List.length_map] at hp ht
    refine ⟨hi.cam, ⟨by have := hi.skins; simp; omega, by have := hi.skins; simp; omega⟩, fun k hk => ?_, fun c hc => ?_⟩
    · rcases List.mem_append.1 hk with hk | hk
      · exact hi.skin k hk
      · rw [List.mem_singleton] at hk
        subst hk
        exact ⟨hp, ht.1, ht.2, b1.1, b1.2, b2.1⟩
    · rcases List.mem_append.1 hc with hc | hc
      · exact hi.cage c hc
      · rw [List.mem_singleton] at hc
        subst hc
        exact ⟨by simp, by simp, fun f hf => by cases hf⟩
  | vert ws n c h1 h2 h3 h4 h5 =>
    obtain ⟨ys, e1, e2⟩ := onLast_at (f := fun c => { c with verts := c.verts ++ [n] }) h3
    refine ⟨hi.cam, ⟨by have := hi.skins; rw [e2]; rw [e1] at this; simp at this ⊢; omega, by have := hi.skins; rw [e2]; rw [e1] at this; simp at this ⊢; omega⟩, hi.skin, fun d hd => ?_⟩
    simp only at hd
    rw [e2] at hd
    rcases List.mem_append.1 hd with hd | hd
    · exact hi.cage d (by rw [e1]; simp [hd])
    · rw [List.mem_singleton] at hd
      subst hd
      obtain ⟨k1, k2, k3⟩ := hi.cage c (by rw [e1]; simp)
      exact ⟨by simp; omega, k2, fun f hf j hj => by have := k3 f hf j hj; simp; omega⟩
  | face ws n c h1 h2 h2' h3 h4 h5 =>
    obtain ⟨ys, e1, e2⟩ := onLast_at (f := fun c => { c with faces := c.faces ++ [n] }) h3
    refine ⟨hi.cam, ⟨by have := hi.skins; rw [e2]; rw [e1] at this; simp at this ⊢; omega, by have := hi.skins; rw [e2]; rw [e1] at this; simp at this ⊢; omega⟩, hi.skin, fun d hd => ?_⟩
    simp only at hd
    rw [e2] at hd
    rcases List.mem_append.1 hd with hd | hd
    · exact hi.cage d (by rw [e1]; simp [hd])
    · rw [List.mem_singleton] at hd
      subst hd
      obtain ⟨k1, k2, k3⟩ := hi.cage c (by rw [e1]; simp)
      refine ⟨k1, by simp; omega, fun f hf j hj => ?_⟩
      rcases List.mem_append.1 hf with hf | hf
      · exact k3 f hf j hj
      · rw [List.mem_singleton] at hf
        subst hf
        obtain ⟨i, hi2, rfl⟩ := List.getElem_of_mem hj
        have := wi_at h5 i (by omega) hi2 hi2
        simp [List.getD, hi2] at this
        exact ⟨this.1, by show _ < (c.verts.length : Int); omega⟩
  | crease ws n c h1 h2 h3 h4 h5 =>
    obtain ⟨ys, e1, e2⟩ := onLast_at (f := fun c => { c with creases := c.creases ++ [n] }) h3
    refine ⟨hi.cam, ⟨by have := hi.skins; rw [e2]; rw [e1] at this; simp at this ⊢; omega, by have := hi.skins; rw [e2]; rw [e1] at this; simp at this ⊢; omega⟩, hi.skin, fun d hd => ?_⟩
    simp only at hd
    rw [e2] at hd
    rcases List.mem_append.1 hd with hd | hd
    · exact hi.cage d (by rw [e1]; simp [hd])
    · rw [List.mem_singleton] at hd
      subst hd
      exact hi.cage c (by rw [e1]; simp)
theorem inv_run : ∀ (l : List (Nat × List Wd)) (sc sc' : Scn), runS sc l = .ok sc' → InvS sc → InvS sc'
  | [], sc, sc', h, hi => by unfold runS at h; injection h with h; subst h; exact hi
  | q :: l, sc, sc', h, hi => by
    unfold runS at h
    cases e : lineF sc q.2 with
    | error n => rw [e] at h; cases h
    | ok s2 => rw [e] at h; exact inv_run l s2 sc' h (inv_adds (lineF_adds e) hi)
theorem inv_scene {l : List (Nat × List Wd)} {sc : Scn} (h : sceneF l = .ok sc) : InvS sc ∧ sc.cam ≠ none := by
  unfold sceneF at h
  cases e : runS scn0 l with
  | error n => rw [e] at h; cases h
  | ok s2 =>
    rw [e] at h
    simp only at h
    split at h
    · rename_i hc
      injection h with h; subst h
      exact ⟨inv_run l scn0 s2 e invS0, fun k => by rw [k] at hc; cases hc⟩
    · cases h
/-! how many there are -/
def headIs (k : Wd) (q : Nat × List Wd) : Bool := decide (q.2.head? = some k)
def cnt (k : Wd) (l : List (Nat × List Wd)) : Nat := (l.filter (headIs k)).length
def sumOf (f : CageM → Nat) (l : List CageM) : Nat := (l.map f).sum
theorem sumOf_app (f : CageM → Nat) (a b : List CageM) : sumOf f (a ++ b) = sumOf f a + sumOf f b := by unfold sumOf; simp
theorem cnt_cons (k : Wd) (q : Nat × List Wd) (l : List (Nat × List Wd)) : cnt k (q :: l) = (if q.2.head? = some k then 1 else 0) + cnt k l := by
  unfold cnt headIs
  rw [List.filter_cons]
  by_cases h : q.2.head? = some k
  · simp [h]; omega
  · simp [h]
/-- A measure that goes up by one at each line of a kind. -/
theorem cnt_run (k : Wd) (m : Scn → Nat) (hm : ∀ sc ws sc', Adds sc ws sc' → m sc' = m sc + if ws.head? = some k then 1 else 0) : ∀ (l : List (Nat × List Wd)) (sc sc' : Scn), runS sc l = .ok sc' → m sc' = m sc + cnt k l
  | [], sc, sc', h => by unfold runS at h; injection h with h; subst h; rfl
  | q :: l, sc, sc', h => by
    unfold runS at h
    cases e : lineF sc q.2 with
    | error n => rw [e] at h; cases h
    | ok s2 =>
      rw [e] at h
      have h1 := hm _ _ _ (lineF_adds e)
      have h2 := cnt_run k m hm l s2 sc' h
      rw [cnt_cons]
      omega
theorem cnt_camera (l : List (Nat × List Wd)) (sc sc' : Scn) (h : runS sc l = .ok sc') : (if sc'.cam.isSome then 1 else 0) = (if sc.cam.isSome then 1 else 0) + cnt kCamera l := by
  refine cnt_run kCamera (fun sc => if sc.cam.isSome then 1 else 0) (fun sc ws sc' a => ?_) l sc sc' h
  cases a <;> simp_all [kCamera, kSky, kLight, kTexture, kMaterial, kCage, kV, kF, kCrease]
theorem cnt_light (l : List (Nat × List Wd)) (sc sc' : Scn) (h : runS sc l = .ok sc') : sc'.lights.length = sc.lights.length + cnt kLight l := by
  refine cnt_run kLight (fun sc => sc.lights.length) (fun sc ws sc' a => ?_) l sc sc' h
  cases a <;> simp [kCamera, kSky, kLight, kTexture, kMaterial, kCage, kV, kF, kCrease]
theorem cnt_texture (l : List (Nat × List Wd)) (sc sc' : Scn) (h : runS sc l = .ok sc') : sc'.texs.length = sc.texs.length + cnt kTexture l := by
  refine cnt_run kTexture (fun sc => sc.texs.length) (fun sc ws sc' a => ?_) l sc sc' h
  cases a <;> simp [kCamera, kSky, kLight, kTexture, kMaterial, kCage, kV, kF, kCrease]
theorem cnt_material (l : List (Nat × List Wd)) (sc sc' : Scn) (h : runS sc l = .ok sc') : sc'.mats.length = sc.mats.length + cnt kMaterial l := by
  refine cnt_run kMaterial (fun sc => sc.mats.length) (fun sc ws sc' a => ?_) l sc sc' h
  cases a <;> simp [kCamera, kSky, kLight, kTexture, kMaterial, kCage, kV, kF, kCrease]
theorem onLast_len (f : CageM → CageM) (l : List CageM) (c : CageM) (h : l.getLast? = some c) : (onLast f l).length = l.length := by
  obtain ⟨ys, e1, e2⟩ := onLast_at (f := f) h
  rw [e2, e1]; simp
theorem cnt_cage (l : List (Nat × List Wd)) (sc sc' : Scn) (h : runS sc l = .ok sc') : sc'.cages.length = sc.cages.length + cnt kCage l := by
  refine cnt_run kCage (fun sc => sc.cages.length) (fun sc ws sc' a => ?_) l sc sc' h
  cases a with
  | vert ws n c h1 h2 h3 h4 h5 => simp only; rw [onLast_len _ _ c h3]; simp [kCage, kV]
  | face ws n c h1 h2 h2' h3 h4 h5 => simp only; rw [onLast_len _ _ c h3]; simp [kCage, kF]
  | crease ws n c h1 h2 h3 h4 h5 => simp only; rw [onLast_len _ _ c h3]; simp [kCage, kCrease]
  | _ => simp [kCamera, kSky, kLight, kTexture, kMaterial, kCage, kV, kF, kCrease]
theorem onLast_sum (g : CageM → Nat) (f : CageM → CageM) (d : Nat) (l : List CageM) (c : CageM) (h : l.getLast? = some c) (hf : g (f c) = g c + d) : sumOf g (onLast f l) = sumOf g l + d := by
  obtain ⟨ys, e1, e2⟩ := onLast_at (f := f) h
  rw [e2, e1, sumOf_app, sumOf_app]
  unfold sumOf
  simp [hf]
  omega
theorem cnt_parts (k : Wd) (g : CageM → Nat) (h0 : g ⟨[], [], []⟩ = 0) (hk : k = kV ∨ k = kF ∨ k = kCrease)
    (hv : ∀ c n, g { c with verts := c.verts ++ [n] } = g c + if k = kV then 1 else 0) (hf : ∀ c n, g { c with faces := c.faces ++ [n] } = g c + if k = kF then 1 else 0) (hc : ∀ c n, g { c with creases := c.creases ++ [n] } = g c + if k = kCrease then 1 else 0)
    (l : List (Nat × List Wd)) (sc sc' : Scn) (h : runS sc l = .ok sc') : sumOf g sc'.cages = sumOf g sc.cages + cnt k l := by
  refine cnt_run k (fun sc => sumOf g sc.cages) (fun sc ws sc' a => ?_) l sc sc' h
  cases a with
  | vert ws n c h1 h2 h3 h4 h5 =>
    simp only
    rw [onLast_sum g _ _ _ c h3 (hv c n)]
    simp only [List.head?_cons, Option.some.injEq]
    congr 1
    by_cases q : k = kV
    · rw [if_pos q, if_pos q.symm]
    · rw [if_neg q, if_neg (fun e => q e.symm)]
  | face ws n c h1 h2 h2' h3 h4 h5 =>
    simp only
    rw [onLast_sum g _ _ _ c h3 (hf c n)]
    simp only [List.head?_cons, Option.some.injEq]
    congr 1
    by_cases q : k = kF
    · rw [if_pos q, if_pos q.symm]
    · rw [if_neg q, if_neg (fun e => q e.symm)]
  | crease ws n c h1 h2 h3 h4 h5 =>
    simp only
    rw [onLast_sum g _ _ _ c h3 (hc c n)]
    simp only [List.head?_cons, Option.some.injEq]
    congr 1
    by_cases q : k = kCrease
    · rw [if_pos q, if_pos q.symm]
    · rw [if_neg q, if_neg (fun e => q e.symm)]
  | cage name mat w3 w4 tex w6 n i h1 h2 h3 h4 h5 h6 h7 h8 h9 =>
    simp only
    rw [sumOf_app]
    have : sumOf g [⟨[], [], []⟩] = 0 := by unfold sumOf; simp [h0]
    rw [this]
    rcases hk with rfl | rfl | rfl <;> simp [kCage, kV, kF, kCrease]
  | _ => rcases hk with rfl | rfl | rfl <;> simp [kCamera, kSky, kLight, kTexture, kMaterial, kCage, kV, kF, kCrease]
/-! lights and the sky may stand anywhere -/
def setLS (sc : Scn) (L : List (List Int)) (S : Option (List Int)) : Scn := { sc with lights := L, sky := S }
def isLS (q : Nat × List Wd) : Bool := headIs kLight q || headIs kSky q
theorem ls_line {sc sc' : Scn} {ws : List Wd} (h : lineF sc ws = .ok sc') (hl : ws.head? = some kLight ∨ ws.head? = some kSky) (t : Scn) : lineF (setLS t sc.lights sc.sky) ws = .ok (setLS t sc'.lights sc'.sky) ∧ ∀ L S, setLS sc' L S = setLS sc L S := by
  have a := lineF_adds h
  cases a with
  | sky ws n h1 h2 h3 h4 =>
    refine ⟨?_, fun L S => rfl⟩
    rw [lineF_cons, if_neg (by decide), if_pos rfl]
    unfold skyF
    rw [h1]
    simp only [setLS, h2, h3, h4, ne_eq, not_true, if_false, Option.isSome_none, Bool.false_eq_true, if_true]
  | light ws n h1 h2 h3 h4 =>
    refine ⟨?_, fun L S => rfl⟩
    rw [lineF_cons, if_neg (by decide), if_neg (by decide), if_pos rfl]
    unfold lightF
    rw [h1]
    simp only [setLS, h2, h4, ne_eq, not_true, if_false, if_true]
    rw [if_neg (by omega)]
  | _ => simp [kCamera, kSky, kLight, kTexture, kMaterial, kCage, kV, kF, kCrease] at hl
def mapLS (L : List (List Int)) (S : Option (List Int)) : Except Nat Scn → Except Nat Scn
  | .error e => .error e
  | .ok t => .ok (setLS t L S)
theorem mapLS_ite (L : List (List Int)) (S : Option (List Int)) (c : Prop) [Decidable c] (a b : Except Nat Scn) : mapLS L S (if c then a else b) = if c then mapLS L S a else mapLS L S b := by split <;> rfl
theorem camF_ls (sc : Scn) (ws : List Wd) (L : List (List Int)) (S : Option (List Int)) : camF (setLS sc L S) ws = mapLS L S (camF sc ws) := by
  unfold camF
  cases numsF ws with
  | none => rfl
  | some n => simp only [mapLS_ite]; rfl
theorem texF_ls (sc : Scn) (ws : List Wd) (L : List (List Int)) (S : Option (List Int)) : texF (setLS sc L S) ws = mapLS L S (texF sc ws) := by
  cases ws with
  | nil => rfl
  | cons name ws =>
    rw [texF_cons, texF_cons]
    cases numsF ws with
    | none => simp only [mapLS_ite]; rfl
    | some n => simp only [mapLS_ite]; rfl
theorem matF_ls (sc : Scn) (ws : List Wd) (L : List (List Int)) (S : Option (List Int)) : matF (setLS sc L S) ws = mapLS L S (matF sc ws) := by
  cases ws with
  | nil => rfl
  | cons name ws =>
    rw [matF_cons, matF_cons]
    cases numsF ws with
    | none => simp only [mapLS_ite]; rfl
    | some n => simp only [mapLS_ite]; rfl
theorem skinF_ls (sc : Scn) (ws : List Wd) (L : List (List Int)) (S : Option (List Int)) : skinF (setLS sc L S) ws = mapLS L S (skinF sc ws) := by
  unfold skinF
  split
  · rename_i name mat w3 w4 tex w6
    cases numsF [w3, w4, w6] with
    | none => simp only [mapLS_ite]; rfl
    | some n => simp only [mapLS_ite]; rfl
  · rfl
theorem partF_ls (sc : Scn) (k : Wd) (ws : List Wd) (L : List (List Int)) (S : Option (List Int)) : partF (setLS sc L S) k ws = mapLS L S (partF sc k ws) := by
  unfold partF
  cases numsF ws with
  | none => rfl
  | some n =>
    have e : (setLS sc L S).cages = sc.cages := rfl
    simp only [mapLS_ite, e]
    cases sc.cages.getLast? with
    | none => rfl
    | some c => simp only [mapLS_ite]; rfl
theorem other_ls (sc : Scn) (ws : List Wd) (L : List (List Int)) (S : Option (List Int)) (hl : ¬ (ws.head? = some kLight ∨ ws.head? = some kSky)) : lineF (setLS sc L S) ws = mapLS L S (lineF sc ws) := by
  cases ws with
  | nil => rfl
  | cons k ws =>
    simp only [List.head?_cons, Option.some.injEq, not_or] at hl
    rw [lineF_cons, lineF_cons, if_neg hl.2, if_neg hl.1, if_neg hl.2, if_neg hl.1]
    simp only [mapLS_ite, camF_ls, texF_ls, matF_ls, skinF_ls, partF_ls]
    rfl
theorem other_line {sc sc' : Scn} {ws : List Wd} (h : lineF sc ws = .ok sc') (hl : ¬ (ws.head? = some kLight ∨ ws.head? = some kSky)) (L : List (List Int)) (S : Option (List Int)) : lineF (setLS sc L S) ws = .ok (setLS sc' L S) ∧ sc'.lights = sc.lights ∧ sc'.sky = sc.sky := by
  refine ⟨by rw [other_ls sc ws L S hl, h]; rfl, ?_⟩
  have a := lineF_adds h
  cases a <;> simp_all
theorem isLS_iff (q : Nat × List Wd) : isLS q = true ↔ (q.2.head? = some kLight ∨ q.2.head? = some kSky) := by unfold isLS headIs; simp
/-- The same words, whatever the numbers. -/
def noNo (l : List (Nat × List Wd)) : List (List Wd) := l.map (·.2)
theorem run_words : ∀ (l m : List (Nat × List Wd)) (sc sc' : Scn), noNo l = noNo m → runS sc l = .ok sc' → runS sc m = .ok sc'
  | [], [], sc, sc', _, h => h
  | [], q :: m, sc, sc', h, _ => by cases h
  | q :: l, [], sc, sc', h, _ => by cases h
  | q :: l, p :: m, sc, sc', h, hr => by
    unfold noNo at h
    simp only [List.map_cons, List.cons.injEq] at h
    unfold runS at hr ⊢
    rw [← h.1]
    cases e : lineF sc q.2 with
    | error n => rw [e] at hr; cases hr
    | ok s2 => rw [e] at hr; exact run_words l m s2 sc' h.2 hr
theorem run_ls : ∀ (l : List (Nat × List Wd)) (sc sc' : Scn), runS sc l = .ok sc' →
    (∀ t, runS (setLS t sc.lights sc.sky) (l.filter isLS) = .ok (setLS t sc'.lights sc'.sky)) ∧ ∀ L S, runS (setLS sc L S) (l.filter fun q => !isLS q) = .ok (setLS sc' L S)
  | [], sc, sc', h => by unfold runS at h; injection h with h; subst h; exact ⟨fun t => rfl, fun L S => rfl⟩
  | q :: l, sc, sc', h => by
    unfold runS at h
    cases e : lineF sc q.2 with
    | error n => rw [e] at h; cases h
    | ok s2 =>
      rw [e] at h
      obtain ⟨i1, i2⟩ := run_ls l s2 sc' h
      by_cases q1 : isLS q = true
      · have hl := (isLS_iff q).1 q1
        refine ⟨fun t => ?_, fun L S => ?_⟩
        · rw [List.filter_cons, if_pos q1]
          unfold runS
          rw [(ls_line e hl t).1]
          exact i1 t
        · rw [List.filter_cons, if_neg (by simp [q1])]
          have k := (ls_line e hl sc).2 L S
          rw [← k]
          exact i2 L S
      · have hl : ¬ (q.2.head? = some kLight ∨ q.2.head? = some kSky) := fun k => q1 ((isLS_iff q).2 k)
        obtain ⟨_, k1, k2⟩ := other_line e hl sc.lights sc.sky
        refine ⟨fun t => ?_, fun L S => ?_⟩
        · rw [List.filter_cons, if_neg q1, ← k1, ← k2]
          exact i1 t
        · rw [List.filter_cons, if_pos (by simp [q1])]
          unfold runS
          rw [(other_line e hl L S).1]
          exact i2 L S
/-- Lines of lights and of the sky ahead of all others, or behind them. -/
theorem scene_order {l m1 m2 : List (Nat × List Wd)} {sc : Scn} (h : sceneF l = .ok sc) (h1 : noNo m1 = noNo (l.filter isLS ++ l.filter fun q => !isLS q)) (h2 : noNo m2 = noNo ((l.filter fun q => !isLS q) ++ l.filter isLS)) : sceneF m1 = .ok sc ∧ sceneF m2 = .ok sc := by
  unfold sceneF at h
  cases e : runS scn0 l with
  | error n => rw [e] at h; cases h
  | ok s2 =>
    rw [e] at h
    simp only at h
    split at h
    · rename_i hc
      injection h with h; subst h
      obtain ⟨i1, i2⟩ := run_ls l scn0 s2 e
      have a1 := i1 scn0
      have e0 : setLS scn0 scn0.lights scn0.sky = scn0 := rfl
      have e2 : setLS s2 s2.lights s2.sky = s2 := rfl
      rw [e0] at a1
      have r1 : runS scn0 (l.filter isLS ++ l.filter fun q => !isLS q) = .ok s2 := by
        rw [runS_app, a1]
        simp only
        rw [i2, e2]
      have r2 : runS scn0 ((l.filter fun q => !isLS q) ++ l.filter isLS) = .ok s2 := by
        have a2 := i2 scn0.lights scn0.sky
        rw [e0] at a2
        rw [runS_app, a2]
        simp only
        have a3 := i1 s2
        rw [a3, e2]
      unfold sceneF
      rw [run_words _ _ _ _ h1.symm r1, run_words _ _ _ _ h2.symm r2]
      simp only [hc, if_true]
      exact ⟨trivial, trivial⟩
    · cases h
end Go.Proofs.YtehmlofhiffanaaDoor
