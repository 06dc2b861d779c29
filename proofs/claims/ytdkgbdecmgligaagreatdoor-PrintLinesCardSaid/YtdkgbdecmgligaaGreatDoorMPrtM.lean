/- A scene's own text (math): what is shown is read as the scene again. -/
import Derived.Test.YtdkgbdecmgligaaGreatDoorMScnDE
import Derived.Test.YtdkgbdecmgligaaGreatDoorMLexB
import Derived.Test.YtdkgbdecmgligaaGreatDoorLex6
namespace Go.Proofs.YtdkgbdecmgligaaGreatDoor
open Go.RowKit
set_option linter.unusedVariables false
set_option linter.unusedSimpArgs false
set_option linter.unnecessarySimpa false
/-- A number's word. -/
def shW (V : Int) : Wd := (textOf (showL V)).data.toList
theorem nW_sh (V : Int) : nW (shW V) = if -999999 ≤ V ∧ V ≤ 999999 then (V, true) else (0, false) := num_show V
def Sm (ns : List Int) : Prop := ∀ x ∈ ns, -999999 ≤ x ∧ x ≤ 999999
theorem numsF_sh : ∀ (ns : List Int), Sm ns → numsF (ns.map shW) = some ns
  | [], _ => rfl
  | x :: ns, h => by
    have h1 := h x (by simp)
    have h2 := numsF_sh ns (fun y hy => h y (by simp [hy]))
    simp only [List.map_cons, numsF]
    rw [nW_sh, if_pos h1, h2]
    simp
theorem okW_sh (V : Int) : okW (shW V) := by
  have e : shW V = (showL V).map fun n => UInt8.ofNat n := textOf_list _
  have hd := dgB_dig V.natAbs
  have hp := dgB_pos V.natAbs
  have hm : ∀ c ∈ showL V, c = 45 ∨ (48 ≤ c ∧ c ≤ 57) := fun c hc => by
    unfold showL at hc
    rcases List.mem_append.1 hc with hc | hc
    · split at hc
      · simp at hc; exact .inl hc
      · cases hc
    · exact .inr (hd c (by simpa using hc))
  rw [e]
  refine ⟨fun h => ?_, fun c hc => ?_⟩
  · have hlen : 1 ≤ (showL V).length := by unfold showL; rw [List.length_append, List.length_reverse]; omega
    have := congrArg List.length h
    rw [List.length_map] at this
    simp only [List.length_nil] at this
    omega
  · obtain ⟨n, hn, rfl⟩ := List.mem_map.1 hc
    have h := hm n hn
    have e2 : (UInt8.ofNat n).toNat = n := by simp [UInt8.toNat_ofNat']; omega
    refine ⟨by omega, by omega, fun q => ?_⟩
    have := congrArg UInt8.toNat q
    rw [e2] at this
    have h3 : (35 : UInt8).toNat = 35 := rfl
    omega
/-! lines one behind the other, whatever their numbers -/
def okRun (sc : Scn) (L : List (List Wd)) (sc' : Scn) : Prop := ∀ m, noNo m = L → runS sc m = .ok sc'
theorem okRun_nil (sc : Scn) : okRun sc [] sc := fun m hm => by
  cases m with
  | nil => rfl
  | cons q l => simp [noNo] at hm
theorem okRun_cons {sc sc1 sc2 : Scn} {ws : List Wd} {L : List (List Wd)} (h1 : lineF sc ws = .ok sc1) (h2 : okRun sc1 L sc2) : okRun sc (ws :: L) sc2 := fun m hm => by
  cases m with
  | nil => simp [noNo] at hm
  | cons q l =>
    simp only [noNo, List.map_cons, List.cons.injEq] at hm
    obtain ⟨rfl, hl⟩ := hm
    simp only [runS, h1]
    exact h2 l hl
theorem okRun_app {sc sc1 sc2 : Scn} {L M : List (List Wd)} (h1 : okRun sc L sc1) (h2 : okRun sc1 M sc2) : okRun sc (L ++ M) sc2 := fun m hm => by
  have e : m = m.take L.length ++ m.drop L.length := (List.take_append_drop _ _).symm
  have hl : noNo (m.take L.length) = L := by
    unfold noNo at hm ⊢; rw [List.map_take, hm, List.take_left]
  have hr : noNo (m.drop L.length) = M := by
    unfold noNo at hm ⊢; rw [List.map_drop, hm, List.drop_left]
  rw [e, runS_app, h1 _ hl]
  exact h2 _ hr
/-- Things told one by one: a state for each list that has been told. -/
theorem okRun_list {α : Type} (f : α → List Wd) (st : List α → Scn) : ∀ (b a : List α), (∀ (c d : List α) (x : α), a ++ b = c ++ x :: d → lineF (st c) (f x) = .ok (st (c ++ [x]))) → okRun (st a) (b.map f) (st (a ++ b))
  | [], a, _ => by rw [List.append_nil]; exact okRun_nil _
  | x :: b, a, h => by
    rw [List.map_cons]
    refine okRun_cons (h a b x rfl) ?_
    have e : a ++ x :: b = (a ++ [x]) ++ b := by simp
    rw [e]
    exact okRun_list f st b (a ++ [x]) (fun c d y hy => h c d y (by rw [e]; exact hy))
/-! numbers within bounds are small -/
theorem sm_wi {ns : List Int} {a b : Nat} {lo hi : Int} (h : wi ns a b lo hi = true) : ∀ x ∈ (ns.take b).drop a, lo ≤ x ∧ x ≤ hi := fun x hx => by
  unfold wi at h
  have := List.all_eq_true.1 h x hx
  simpa using this
theorem mem_parts {ns : List Int} (a : Nat) : ∀ x ∈ ns, x ∈ ns.take a ∨ x ∈ ns.drop a := fun x hx => by
  rw [← List.take_append_drop a ns] at hx
  exact List.mem_append.1 hx
/-! places -/
theorem place_at : ∀ (l : List Wd) (i : Nat) (h : i < l.length), l.Nodup → place l[i] l = some i
  | x :: l, 0, _, _ => by simp [place]
  | x :: l, i + 1, h, hn => by
    have hi : i < l.length := by simpa using h
    obtain ⟨h1, h2⟩ := List.nodup_cons.1 hn
    have hne : ¬ x = l[i] := fun e => h1 (by rw [e]; exact List.getElem_mem hi)
    simp only [List.getElem_cons_succ, place]
    rw [if_neg hne, place_at l i hi h2]
    rfl
theorem place_no : ∀ (l : List Wd) (x : Wd), x ∉ l → place x l = none
  | [], _, _ => rfl
  | y :: l, x, h => by
    have h1 : ¬ y = x := fun e => h (by rw [e]; simp)
    have h2 : x ∉ l := fun q => h (by simp [q])
    unfold place
    rw [if_neg h1, place_no l x h2]
    rfl
theorem kNo_name : isN kNo = false := by decide +kernel
/-! lines -/
theorem line_light {sc : Scn} {n : List Int} (hl : sc.lights.length < 4) (h : n.length = 6 ∧ (wi n 0 3 (-16384) 16384 && wi n 3 6 0 255) = true) : lineF sc (kLight :: n.map shW) = .ok { sc with lights := sc.lights ++ [n] } := by
  obtain ⟨h1, h2⟩ := h
  have hs : Sm n := by
    simp only [Bool.and_eq_true] at h2
    intro x hx
    rcases mem_parts 3 x hx with q | q
    · have := sm_wi h2.1 x (by simpa using q); omega
    · have := sm_wi h2.2 x (by rw [List.take_of_length_le (by omega)]; exact q); omega
  show lightF sc (n.map shW) = _
  unfold lightF
  rw [numsF_sh n hs]
  simp only []
  rw [if_neg (by omega), if_neg (by omega), if_pos h2]
theorem line_sky {sc : Scn} {n : List Int} (hc : sc.sky = none) (h : n.length = 3 ∧ wi n 0 3 0 255 = true) : lineF sc (kSky :: n.map shW) = .ok { sc with sky := some n } := by
  obtain ⟨h1, h2⟩ := h
  have hs : Sm n := fun x hx => by
    have := sm_wi h2 x (by rw [List.take_of_length_le (by omega)]; simpa using hx); omega
  show skyF sc (n.map shW) = _
  unfold skyF
  rw [numsF_sh n hs]
  simp only []
  rw [if_neg (by omega), hc, if_neg (by simp), if_pos h2]
theorem line_cam {sc : Scn} {n : List Int} (hc : sc.cam = none) (h : n.length = 16 ∧ (wi n 0 6 (-16384) 16384 && wi n 6 12 (-32) 32 && wi n 12 14 1 64 && wi n 14 15 1 4 && wi n 15 16 0 8) = true) : lineF sc (kCamera :: n.map shW) = .ok { sc with cam := some n } := by
  obtain ⟨h1, h2⟩ := h
  have hs : Sm n := by
    simp only [Bool.and_eq_true] at h2
    obtain ⟨⟨⟨⟨a, b⟩, c⟩, d⟩, e⟩ := h2
    intro x hx
    rcases mem_parts 6 x hx with q | q
    · have := sm_wi a x (by simpa using q); omega
    · rcases mem_parts 6 x q with q | q
      · have := sm_wi b x (by rw [List.drop_take]; exact q); omega
      · rw [List.drop_drop] at q
        rcases mem_parts 2 x q with q | q
        · have := sm_wi c x (by rw [List.drop_take]; exact q); omega
        · rw [List.drop_drop] at q
          rcases mem_parts 1 x q with q | q
          · have := sm_wi d x (by rw [List.drop_take]; exact q); omega
          · rw [List.drop_drop] at q
            have := sm_wi e x (by rw [List.take_of_length_le (by omega)]; simpa using q); omega
  show camF sc (n.map shW) = _
  unfold camF
  rw [numsF_sh n hs]
  simp only []
  rw [if_neg (by omega), hc, if_neg (by simp), if_pos h2]
theorem line_tex {sc : Scn} {q : Wd × List Int} (hl : sc.texs.length < 4) (hn : q.1 ∉ sc.texs.map (·.1)) (h : isN q.1 = true ∧ 2 ≤ q.2.length ∧ q.2.getD 0 0 * q.2.getD 1 0 = (q.2.length : Int) - 2 ∧ (wi q.2 0 2 1 16 && wi q.2 2 q.2.length 0 255) = true) : lineF sc (kTexture :: q.1 :: q.2.map shW) = .ok { sc with texs := sc.texs ++ [q] } := by
  obtain ⟨h1, h2, h3, h4⟩ := h
  have hs : Sm q.2 := by
    simp only [Bool.and_eq_true] at h4
    intro x hx
    rcases mem_parts 2 x hx with p | p
    · have := sm_wi h4.1 x (by simpa using p); omega
    · have := sm_wi h4.2 x (by rw [List.take_of_length_le (by omega)]; exact p); omega
  show texF sc (q.1 :: q.2.map shW) = _
  rw [texF_cons, if_neg (by rw [h1]; simp; omega), numsF_sh q.2 hs]
  simp only []
  rw [if_neg (by rw [h3]; simp), if_neg (by omega), place_no _ _ hn, if_neg (by simp), if_pos h4]
theorem line_mat {sc : Scn} {q : Wd × List Int} (hl : sc.mats.length < 8) (hn : q.1 ∉ sc.mats.map (·.1)) (h : isN q.1 = true ∧ q.2.length = 8 ∧ (wi q.2 0 3 0 255 && wi q.2 3 4 0 256 && wi q.2 4 5 1 64 && wi q.2 5 7 0 256 && decide (q.2.getD 5 0 + q.2.getD 6 0 ≤ 256) && wi q.2 7 8 64 1024) = true) : lineF sc (kMaterial :: q.1 :: q.2.map shW) = .ok { sc with mats := sc.mats ++ [q] } := by
  obtain ⟨h1, h2, h4⟩ := h
  have hs : Sm q.2 := by
    simp only [Bool.and_eq_true] at h4
    obtain ⟨⟨⟨⟨⟨a, b⟩, c⟩, d⟩, _⟩, e⟩ := h4
    intro x hx
    rcases mem_parts 3 x hx with p | p
    · have := sm_wi a x (by simpa using p); omega
    · rcases mem_parts 1 x p with p | p
      · have := sm_wi b x (by rw [List.drop_take]; exact p); omega
      · rw [List.drop_drop] at p
        rcases mem_parts 1 x p with p | p
        · have := sm_wi c x (by rw [List.drop_take]; exact p); omega
        · rw [List.drop_drop] at p
          rcases mem_parts 2 x p with p | p
          · have := sm_wi d x (by rw [List.drop_take]; exact p); omega
          · rw [List.drop_drop] at p
            have := sm_wi e x (by rw [List.take_of_length_le (by omega)]; simpa using p); omega
  show matF sc (q.1 :: q.2.map shW) = _
  rw [matF_cons, if_neg (by rw [h1]; simp; omega), numsF_sh q.2 hs]
  simp only []
  rw [if_neg (by omega), place_no _ _ hn, if_neg (by simp), if_pos h4]
theorem onLast_snocM (f : CageM → CageM) (cs : List CageM) (c : CageM) : onLast f (cs ++ [c]) = cs ++ [f c] := by
  unfold onLast; simp
theorem line_v {sc : Scn} {cs : List CageM} {c : CageM} {n : List Int} (hcs : sc.cages = cs ++ [c]) (hl : c.verts.length < 64) (h : n.length = 3 ∧ wi n 0 3 (-16384) 16384 = true) : lineF sc (kV :: n.map shW) = .ok { sc with cages := cs ++ [{ c with verts := c.verts ++ [n] }] } := by
  obtain ⟨h1, h2⟩ := h
  have hs : Sm n := fun x hx => by
    have := sm_wi h2 x (by rw [List.take_of_length_le (by omega)]; simpa using hx); omega
  have hne : ¬ ((kV ≠ kF ∧ n.length ≠ 3) ∨ (kV = kF ∧ (n.length < 3 ∨ 8 < n.length))) := by
    rintro (q | q)
    · exact q.2 h1
    · exact absurd q.1 (by decide)
  show partF sc kV (n.map shW) = _
  unfold partF
  rw [numsF_sh n hs, hcs]
  simp only []
  rw [if_neg hne, List.getLast?_concat]
  simp only []
  rw [if_pos trivial, if_neg (by omega), if_pos h2, onLast_snocM]
theorem line_f {sc : Scn} {cs : List CageM} {c : CageM} {n : List Int} (hcs : sc.cages = cs ++ [c]) (hl : c.faces.length < 64) (hv : c.verts.length ≤ 64) (h : 3 ≤ n.length ∧ n.length ≤ 8 ∧ wi n 0 n.length 0 ((c.verts.length : Int) - 1) = true) : lineF sc (kF :: n.map shW) = .ok { sc with cages := cs ++ [{ c with faces := c.faces ++ [n] }] } := by
  obtain ⟨h0, h1, h2⟩ := h
  have hs : Sm n := fun x hx => by
    have := sm_wi h2 x (by rw [List.take_of_length_le (by omega)]; simpa using hx); omega
  have hne : ¬ ((kF ≠ kF ∧ n.length ≠ 3) ∨ (True ∧ (n.length < 3 ∨ 8 < n.length))) := by
    rintro (q | q)
    · exact q.1 rfl
    · omega
  show partF sc kF (n.map shW) = _
  unfold partF
  rw [numsF_sh n hs, hcs]
  simp only []
  rw [if_neg hne, List.getLast?_concat]
  simp only []
  rw [if_neg (by decide), if_pos trivial, if_neg (by omega), if_pos h2, onLast_snocM]
theorem line_c {sc : Scn} {cs : List CageM} {c : CageM} {n : List Int} (hcs : sc.cages = cs ++ [c]) (hl : c.creases.length < 128) (hv : c.verts.length ≤ 64) (h : n.length = 3 ∧ wi n 0 2 0 ((c.verts.length : Int) - 1) = true ∧ n.getD 0 0 ≠ n.getD 1 0 ∧ wi n 2 3 1 255 = true) : lineF sc (kCrease :: n.map shW) = .ok { sc with cages := cs ++ [{ c with creases := c.creases ++ [n] }] } := by
  obtain ⟨h1, h2, h3, h4⟩ := h
  have hs : Sm n := fun x hx => by
    rcases mem_parts 2 x hx with q | q
    · have := sm_wi h2 x (by simpa using q); omega
    · have := sm_wi h4 x (by rw [List.take_of_length_le (by omega)]; exact q); omega
  have hne : ¬ ((kCrease ≠ kF ∧ n.length ≠ 3) ∨ (kCrease = kF ∧ (n.length < 3 ∨ 8 < n.length))) := by
    rintro (q | q)
    · exact q.2 h1
    · exact absurd q.1 (by decide)
  show partF sc kCrease (n.map shW) = _
  unfold partF
  rw [numsF_sh n hs, hcs]
  simp only []
  rw [if_neg hne, List.getLast?_concat]
  simp only []
  rw [if_neg (by decide), if_neg (by decide), if_neg (by omega), if_pos (by simp only [h2, h4, decide_eq_false h3]; rfl), onLast_snocM]
def cageL (c : CageM) : List (List Wd) := c.verts.map (fun n => kV :: n.map shW) ++ (c.faces.map (fun n => kF :: n.map shW) ++ c.creases.map (fun n => kCrease :: n.map shW))
theorem run_cage {sc : Scn} {cs : List CageM} {c : CageM} (hc : GoodC c) : okRun { sc with cages := cs ++ [⟨[], [], []⟩] } (cageL c) { sc with cages := cs ++ [c] } := by
  have h1 := okRun_list (fun n : List Int => kV :: n.map shW) (fun a => { sc with cages := cs ++ [⟨a, [], []⟩] }) c.verts [] (fun a d x e => by
    rw [List.nil_append] at e
    have hl := congrArg List.length e
    simp at hl
    have := hc.nv
    exact line_v (c := ⟨a, [], []⟩) rfl (by show a.length < 64; omega) (hc.verts x (by rw [e]; simp)))
  have h2 := okRun_list (fun n : List Int => kF :: n.map shW) (fun a => { sc with cages := cs ++ [⟨c.verts, a, []⟩] }) c.faces [] (fun a d x e => by
    rw [List.nil_append] at e
    have hl := congrArg List.length e
    simp at hl
    have := hc.nf
    exact line_f (c := ⟨c.verts, a, []⟩) rfl (by show a.length < 64; omega) hc.nv (hc.faces x (by rw [e]; simp)))
  have h3 := okRun_list (fun n : List Int => kCrease :: n.map shW) (fun a => { sc with cages := cs ++ [⟨c.verts, c.faces, a⟩] }) c.creases [] (fun a d x e => by
    rw [List.nil_append] at e
    have hl := congrArg List.length e
    simp at hl
    have := hc.nc
    exact line_c (c := ⟨c.verts, c.faces, a⟩) rfl (by show a.length < 128; omega) hc.nv (hc.creases x (by rw [e]; simp)))
  simp only [List.nil_append] at h1 h2 h3
  exact okRun_app h1 (okRun_app h2 h3)
def skinL (mats texs : List (Wd × List Int)) (k : SkinM) : List Wd := [kCage, k.name, (mats.getD k.mat ([], [])).1, shW k.levels, shW k.unit, if 0 ≤ k.tex then (texs.getD k.tex.toNat ([], [])).1 else kNo, shW k.height]
theorem skinF_six (sc : Scn) (name mat w3 w4 tex w6 : Wd) : skinF sc [name, mat, w3, w4, tex, w6] = if isN name = false ∨ isN mat = false ∨ (tex ≠ kNo ∧ isN tex = false) then .error 10 else match numsF [w3, w4, w6] with
    | none => .error 10
    | some n => if 8 ≤ sc.skins.length then .error 13
      else if (place name (sc.skins.map (·.name))).isSome ∨ place mat (sc.mats.map (·.1)) = none ∨ (tex ≠ kNo ∧ place tex (sc.texs.map (·.1)) = none) then .error 12
      else if (wi n 0 1 0 2 && wi n 1 2 1 65536 && wi n 2 3 0 255) then
        .ok { sc with skins := sc.skins ++ [⟨name, (place mat (sc.mats.map (·.1))).getD 0, n.getD 0 0, n.getD 1 0, placeI tex (sc.texs.map (·.1)), n.getD 2 0⟩], cages := sc.cages ++ [⟨[], [], []⟩] } else .error 11 := rfl
theorem line_skin {sc : Scn} {k : SkinM} (hl : sc.skins.length < 8) (hn : k.name ∉ sc.skins.map (·.name)) (hmn : (sc.mats.map (·.1)).Nodup) (htn : (sc.texs.map (·.1)).Nodup) (hmN : ∀ q ∈ sc.mats, isN q.1 = true) (htN : ∀ q ∈ sc.texs, isN q.1 = true)
    (h : isN k.name = true ∧ k.mat < sc.mats.length ∧ -1 ≤ k.tex ∧ k.tex < sc.texs.length ∧ (0 ≤ k.levels ∧ k.levels ≤ 2) ∧ (1 ≤ k.unit ∧ k.unit ≤ 65536) ∧ 0 ≤ k.height ∧ k.height ≤ 255) :
    lineF sc (skinL sc.mats sc.texs k) = .ok { sc with skins := sc.skins ++ [k], cages := sc.cages ++ [⟨[], [], []⟩] } := by
  obtain ⟨h1, h2, h3, h4, h5, h6, h7, hh⟩ := h
  have eM : (sc.mats.getD k.mat ([], [])).1 = (sc.mats.map (·.1))[k.mat]'(by simpa using h2) := by
    simp [List.getD, h2]
  have pM : place (sc.mats.getD k.mat ([], [])).1 (sc.mats.map (·.1)) = some k.mat := by rw [eM]; exact place_at _ _ _ hmn
  have nM : isN (sc.mats.getD k.mat ([], [])).1 = true := by
    have e : sc.mats.getD k.mat ([], []) = sc.mats[k.mat] := by simp [List.getD, h2]
    rw [e]; exact hmN _ (List.getElem_mem h2)
  have hs : Sm [k.levels, k.unit, k.height] := fun x hx => by
    simp at hx; rcases hx with rfl | rfl | rfl <;> omega
  have hw : (wi [k.levels, k.unit, k.height] 0 1 0 2 && wi [k.levels, k.unit, k.height] 1 2 1 65536 && wi [k.levels, k.unit, k.height] 2 3 0 255) = true := by
    simp [wi]; omega
  have hnum : numsF [shW k.levels, shW k.unit, shW k.height] = some [k.levels, k.unit, k.height] := numsF_sh _ hs
  have main : ∀ tw : Wd, (tw = kNo ∧ k.tex = -1 ∨ tw ≠ kNo ∧ isN tw = true ∧ place tw (sc.texs.map (·.1)) = some k.tex.toNat ∧ 0 ≤ k.tex) → skinF sc [k.name, (sc.mats.getD k.mat ([], [])).1, shW k.levels, shW k.unit, tw, shW k.height] = .ok { sc with skins := sc.skins ++ [k], cages := sc.cages ++ [⟨[], [], []⟩] } := by
    intro tw ht
    have ht1 : ¬ (tw ≠ kNo ∧ isN tw = false) := by
      rcases ht with ⟨e, _⟩ | ⟨_, e, _⟩
      · exact fun q => q.1 e
      · exact fun q => by rw [e] at q; cases q.2
    have ht2 : ¬ (tw ≠ kNo ∧ place tw (sc.texs.map (·.1)) = none) := by
      rcases ht with ⟨e, _⟩ | ⟨_, _, e, _⟩
      · exact fun q => q.1 e
      · exact fun q => by rw [e] at q; cases q.2
    have ht3 : placeI tw (sc.texs.map (·.1)) = k.tex := by
      unfold placeI
      rcases ht with ⟨e, e2⟩ | ⟨_, _, e, e2⟩
      · rw [e, place_no _ _ (fun q => by
          obtain ⟨z, hz, ez⟩ := List.mem_map.1 q
          have := htN z hz
          rw [ez, kNo_name] at this
          cases this)]
        exact e2.symm
      · rw [e]; show (k.tex.toNat : Int) = k.tex; omega
    rw [skinF_six, if_neg (by
      rintro (q | q | q)
      · rw [h1] at q; cases q
      · rw [nM] at q; cases q
      · exact ht1 q), hnum]
    simp only []
    rw [if_neg (by omega), if_neg (by
      rintro (q | q | q)
      · rw [place_no _ _ hn] at q; cases q
      · rw [pM] at q; cases q
      · exact ht2 q), if_pos hw, pM, ht3]
    rfl
  unfold skinL
  refine main _ ?_
  by_cases ht : 0 ≤ k.tex
  · right
    have hlt : k.tex.toNat < sc.texs.length := by omega
    have e : sc.texs.getD k.tex.toNat ([], []) = sc.texs[k.tex.toNat] := by simp [List.getD, hlt]
    have eT : (sc.texs.getD k.tex.toNat ([], [])).1 = (sc.texs.map (·.1))[k.tex.toNat]'(by simpa using hlt) := by rw [e]; simp
    have nT : isN (sc.texs.getD k.tex.toNat ([], [])).1 = true := by rw [e]; exact htN _ (List.getElem_mem hlt)
    rw [if_pos ht]
    refine ⟨fun q => ?_, nT, by rw [eT]; exact place_at _ _ _ htn, ht⟩
    rw [q, kNo_name] at nT; cases nT
  · left
    rw [if_neg ht]
    exact ⟨rfl, by omega⟩
theorem okRun_flat {α : Type} (f : α → List (List Wd)) (st : List α → Scn) : ∀ (b a : List α), (∀ (c d : List α) (x : α), a ++ b = c ++ x :: d → okRun (st c) (f x) (st (c ++ [x]))) → okRun (st a) (b.flatMap f) (st (a ++ b))
  | [], a, _ => by rw [List.append_nil]; exact okRun_nil _
  | x :: b, a, h => by
    rw [List.flatMap_cons]
    refine okRun_app (h a b x rfl) ?_
    have e : a ++ x :: b = (a ++ [x]) ++ b := by simp
    rw [e]
    exact okRun_flat f st b (a ++ [x]) (fun c d y hy => h c d y (by rw [e]; exact hy))
def allL (sc : Scn) (n sk : List Int) : List (List Wd) := (kCamera :: n.map shW) :: (kSky :: sk.map shW) :: (sc.lights.map (fun n => kLight :: n.map shW) ++ (sc.texs.map (fun q => kTexture :: q.1 :: q.2.map shW) ++ (sc.mats.map (fun q => kMaterial :: q.1 :: q.2.map shW) ++ (sc.skins.zip sc.cages).flatMap fun p => skinL sc.mats sc.texs p.1 :: cageL p.2)))
theorem notin_front {l a d : List Wd} {x : Wd} (h : l.Nodup) (e : l = a ++ x :: d) : x ∉ a := fun hx => by
  rw [e, List.nodup_append] at h
  exact h.2.2 x hx x (by simp) rfl
/-- What is told of a good scene is the scene. -/
theorem run_all {sc : Scn} (hg : Good sc) {n sk : List Int} (hc : sc.cam = some n) (hsk : sk.length = 3 ∧ wi sk 0 3 0 255 = true) : okRun scn0 (allL sc n sk) { sc with sky := some sk } := by
  unfold allL
  refine okRun_cons (line_cam (sc := scn0) rfl (hg.cam n hc)) (okRun_cons (line_sky rfl hsk) ?_)
  have h1 := okRun_list (fun n : List Int => kLight :: n.map shW) (fun a => { scn0 with cam := some n, sky := some sk, lights := a }) sc.lights [] (fun a d x e => by
    rw [List.nil_append] at e
    have hl := congrArg List.length e
    simp at hl
    have := hg.nl
    exact line_light (by show a.length < 4; omega) (hg.lights x (by rw [e]; simp)))
  have h2 := okRun_list (fun q : Wd × List Int => kTexture :: q.1 :: q.2.map shW) (fun a => { scn0 with cam := some n, sky := some sk, lights := sc.lights, texs := a }) sc.texs [] (fun a d x e => by
    rw [List.nil_append] at e
    have hl := congrArg List.length e
    simp at hl
    have := hg.nt
    exact line_tex (by show a.length < 4; omega) (notin_front (a := a.map (·.1)) (d := d.map (·.1)) (x := x.1) hg.tn (by rw [e]; simp)) (hg.texs x (by rw [e]; simp)))
  have h3 := okRun_list (fun q : Wd × List Int => kMaterial :: q.1 :: q.2.map shW) (fun a => { scn0 with cam := some n, sky := some sk, lights := sc.lights, texs := sc.texs, mats := a }) sc.mats [] (fun a d x e => by
    rw [List.nil_append] at e
    have hl := congrArg List.length e
    simp at hl
    have := hg.nm
    exact line_mat (by show a.length < 8; omega) (notin_front (a := a.map (·.1)) (d := d.map (·.1)) (x := x.1) hg.mn (by rw [e]; simp)) (hg.mats x (by rw [e]; simp)))
  have hz1 : (sc.skins.zip sc.cages).map (·.1) = sc.skins := List.map_fst_zip (by have := hg.ns.1; omega)
  have hz2 : (sc.skins.zip sc.cages).map (·.2) = sc.cages := List.map_snd_zip (by have := hg.ns.1; omega)
  have h4 := okRun_flat (fun p : SkinM × CageM => skinL sc.mats sc.texs p.1 :: cageL p.2) (fun a => { scn0 with cam := some n, sky := some sk, lights := sc.lights, texs := sc.texs, mats := sc.mats, skins := a.map (·.1), cages := a.map (·.2) }) (sc.skins.zip sc.cages) [] (fun a d x e => by
    rw [List.nil_append] at e
    have e1 : sc.skins = a.map (·.1) ++ x.1 :: d.map (·.1) := by rw [← hz1, e]; simp
    have e2 : sc.cages = a.map (·.2) ++ x.2 :: d.map (·.2) := by rw [← hz2, e]; simp
    have hl := congrArg List.length e1
    simp at hl
    have := hg.ns
    have hk : x.1 ∈ sc.skins := by rw [e1]; simp
    refine okRun_cons (line_skin (sc := { scn0 with cam := some n, sky := some sk, lights := sc.lights, texs := sc.texs, mats := sc.mats, skins := a.map (·.1), cages := a.map (·.2) }) (k := x.1) (by show (a.map (·.1)).length < 8; rw [List.length_map]; omega) (notin_front (a := (a.map (·.1)).map (·.name)) (d := (d.map (·.1)).map (·.name)) (x := x.1.name) hg.sn (by rw [e1]; simp)) hg.mn hg.tn (fun q hq => (hg.mats q hq).1) (fun q hq => (hg.texs q hq).1) (hg.skins x.1 hk)) ?_
    have := run_cage (sc := { scn0 with cam := some n, sky := some sk, lights := sc.lights, texs := sc.texs, mats := sc.mats, skins := a.map (·.1) ++ [x.1], cages := a.map (·.2) }) (cs := a.map (·.2)) (hg.cages x.2 (by rw [e2]; simp))
    simpa using this)
  simp only [List.nil_append] at h1 h2 h3 h4
  rw [hz1, hz2] at h4
  have e : { sc with sky := some sk } = { scn0 with cam := some n, sky := some sk, lights := sc.lights, texs := sc.texs, mats := sc.mats, skins := sc.skins, cages := sc.cages } := by rw [← hc]
  rw [e]
  exact okRun_app h1 (okRun_app h2 (okRun_app h3 h4))
end Go.Proofs.YtdkgbdecmgligaaGreatDoor

/- A scene's own text (math): its bytes and its length. -/
namespace Go.Proofs.YtdkgbdecmgligaaGreatDoor
open Go.RowKit
set_option linter.unusedVariables false
set_option linter.unusedSimpArgs false
set_option linter.unnecessarySimpa false
theorem okW_name {w : Wd} (h : isN w = true) : okW w ∧ w.length ≤ 16 := by
  unfold isN nameB at h
  simp only [Bool.and_eq_true, decide_eq_true_eq] at h
  obtain ⟨⟨h1, h2⟩, h3⟩ := h
  have hs : (⟨w.toArray⟩ : ByteArray).size = w.length := by show w.toArray.size = _; simp
  rw [hs] at h1 h2 h3
  rw [allAt_iff] at h3
  refine ⟨⟨fun e => by rw [e] at h1; simp at h1, fun c hc => ?_⟩, h2⟩
  obtain ⟨k, hk, rfl⟩ := List.getElem_of_mem hc
  have h4 := h3 k hk
  have e : bt ⟨w.toArray⟩ k = w[k].toNat := by
    unfold bt
    rw [dif_pos (by rw [hs]; exact hk)]
    rfl
  rw [e, okAt_iff] at h4
  refine ⟨by omega, by omega, fun q => ?_⟩
  have := congrArg UInt8.toNat q
  have h5 : (35 : UInt8).toNat = 35 := rfl
  omega
def lineT : List Wd → List UInt8
  | [] => []
  | k :: ws => k ++ jn ws
/-- A scene's text. -/
def showT (sc : Scn) (n sk : List Int) : List UInt8 := txtOf ((allL sc n sk).map lineT)
def okL (ws : List Wd) : Prop := ws ≠ [] ∧ ∀ w ∈ ws, okW w
theorem okL_nums {k : Wd} (hk : okW k) (ns : List Int) : okL (k :: ns.map shW) := ⟨by simp, fun w hw => by
  rcases List.mem_cons.1 hw with rfl | hw
  · exact hk
  · obtain ⟨x, _, rfl⟩ := List.mem_map.1 hw; exact okW_sh x⟩
theorem okL_named {k name : Wd} (hk : okW k) (hn : isN name = true) (ns : List Int) : okL (k :: name :: ns.map shW) := ⟨by simp, fun w hw => by
  rcases List.mem_cons.1 hw with rfl | hw
  · exact hk
  · rcases List.mem_cons.1 hw with rfl | hw
    · exact (okW_name hn).1
    · obtain ⟨x, _, rfl⟩ := List.mem_map.1 hw; exact okW_sh x⟩
theorem okK (k : Wd) (h : k ≠ [] ∧ ∀ c ∈ k, 33 ≤ c.toNat ∧ c.toNat ≤ 126 ∧ c ≠ 35) : okW k := h
theorem k0 : okW kCamera := by unfold okW; decide
theorem k1 : okW kSky := by unfold okW; decide
theorem k2 : okW kLight := by unfold okW; decide
theorem k3 : okW kTexture := by unfold okW; decide
theorem k4 : okW kMaterial := by unfold okW; decide
theorem k5 : okW kCage := by unfold okW; decide
theorem k6 : okW kV := by unfold okW; decide
theorem k7 : okW kF := by unfold okW; decide
theorem k8 : okW kCrease := by unfold okW; decide
theorem k9 : okW kNo := by unfold okW; decide
theorem okL_cage (c : CageM) : ∀ ws ∈ cageL c, okL ws := fun ws hw => by
  unfold cageL at hw
  rcases List.mem_append.1 hw with hw | hw
  · obtain ⟨x, _, rfl⟩ := List.mem_map.1 hw; exact okL_nums k6 x
  · rcases List.mem_append.1 hw with hw | hw
    · obtain ⟨x, _, rfl⟩ := List.mem_map.1 hw; exact okL_nums k7 x
    · obtain ⟨x, _, rfl⟩ := List.mem_map.1 hw; exact okL_nums k8 x
theorem skin_words {sc : Scn} (hg : Good sc) {k : SkinM} (hk : k ∈ sc.skins) : (okW (sc.mats.getD k.mat ([], [])).1 ∧ (sc.mats.getD k.mat ([], [])).1.length ≤ 16) ∧ (okW (if 0 ≤ k.tex then (sc.texs.getD k.tex.toNat ([], [])).1 else kNo) ∧ (if 0 ≤ k.tex then (sc.texs.getD k.tex.toNat ([], [])).1 else kNo).length ≤ 16) := by
  obtain ⟨h1, h2, h3, h4, _⟩ := hg.skins k hk
  have e : sc.mats.getD k.mat ([], []) = sc.mats[k.mat] := by simp [List.getD, h2]
  refine ⟨by rw [e]; exact okW_name (hg.mats _ (List.getElem_mem h2)).1, ?_⟩
  split
  · rename_i ht
    have hlt : k.tex.toNat < sc.texs.length := by omega
    have e : sc.texs.getD k.tex.toNat ([], []) = sc.texs[k.tex.toNat] := by simp [List.getD, hlt]
    rw [e]; exact okW_name (hg.texs _ (List.getElem_mem hlt)).1
  · exact ⟨k9, by decide⟩
theorem okL_skin {sc : Scn} (hg : Good sc) {k : SkinM} (hk : k ∈ sc.skins) : okL (skinL sc.mats sc.texs k) := by
  obtain ⟨⟨a, _⟩, b, _⟩ := skin_words hg hk
  refine ⟨by simp [skinL], fun w hw => ?_⟩
  unfold skinL at hw
  simp only [List.mem_cons, List.not_mem_nil, or_false] at hw
  rcases hw with rfl | rfl | rfl | rfl | rfl | rfl | rfl
  · exact k5
  · exact (okW_name (hg.skins k hk).1).1
  · exact a
  · exact okW_sh _
  · exact okW_sh _
  · exact b
  · exact okW_sh _
theorem okL_all {sc : Scn} (hg : Good sc) (n sk : List Int) : ∀ ws ∈ allL sc n sk, okL ws := fun ws hw => by
  unfold allL at hw
  simp only [List.mem_cons, List.mem_append, List.mem_map, List.mem_flatMap] at hw
  rcases hw with rfl | rfl | ⟨x, _, rfl⟩ | ⟨q, hq, rfl⟩ | ⟨q, hq, rfl⟩ | ⟨p, hp, rfl | hw⟩
  · exact okL_nums k0 n
  · exact okL_nums k1 sk
  · exact okL_nums k2 x
  · exact okL_named k3 (hg.texs q hq).1 q.2
  · exact okL_named k4 (hg.mats q hq).1 q.2
  · exact okL_skin hg (List.of_mem_zip hp).1
  · exact okL_cage _ ws hw
theorem lineOf_T {ws : List Wd} (h : okL ws) : LineOf (lineT ws) ws := by
  cases ws with
  | nil => exact absurd rfl h.1
  | cons k t => exact lineOf_kind (h.2 k (by simp)) (fun w hw => h.2 w (by simp [hw]))
/-- A good scene's text is read as the scene, its sky told. -/
theorem show_back {sc : Scn} (hg : Good sc) {n sk : List Int} (hc : sc.cam = some n) (hsk : sk.length = 3 ∧ wi sk 0 3 0 255 = true) : sceneT (showT sc n sk) = .ok { sc with sky := some sk } := by
  have ho := okL_all hg n sk
  obtain ⟨m, h1, h2⟩ := sceneT_text ((allL sc n sk).map lineT) (allL sc n sk) (by simp) (fun i h1 h2 => by
    rw [List.getElem_map]; exact lineOf_T (ho _ (List.getElem_mem _))) (fun ws hw => (ho ws hw).1)
  unfold showT
  rw [h1]
  unfold sceneF
  rw [run_all hg hc hsk m h2]
  simp [hc]
/-! its length -/
theorem sh_len (V : Int) (k : Nat) (h : V.natAbs < 10 ^ (k + 1)) : (shW V).length ≤ (if V < 0 then 1 else 0) + (k + 1) := by
  have e : shW V = (showL V).map fun n => UInt8.ofNat n := textOf_list _
  have := digR_len k V.natAbs h
  rw [e]
  unfold showL dgB
  split <;> simp <;> omega
theorem wl_nums {ns : List Int} {c : Nat} (h : ∀ x ∈ ns, (shW x).length ≤ c) : wl (ns.map shW) ≤ ns.length * (c + 1) := by
  induction ns with
  | nil => simp [wl]
  | cons x t ih =>
    rw [List.map_cons, wl_cons, List.length_cons]
    have h1 := h x (by simp)
    have h2 := ih (fun y hy => h y (by simp [hy]))
    rw [Nat.add_mul]
    omega
theorem sh6 {V : Int} (h : -99999 ≤ V ∧ V ≤ 99999) : (shW V).length ≤ 6 := by
  have := sh_len V 4 (by omega)
  split at this <;> omega
theorem sh3 {V : Int} (h : 0 ≤ V ∧ V ≤ 999) : (shW V).length ≤ 3 := by
  have := sh_len V 2 (by omega)
  rw [if_neg (by omega)] at this; omega
theorem sh2 {V : Int} (h : 0 ≤ V ∧ V ≤ 99) : (shW V).length ≤ 2 := by
  have := sh_len V 1 (by omega)
  rw [if_neg (by omega)] at this; omega
def sumW (L : List (List Wd)) : Nat := (L.map wl).sum
theorem sumW_app (a b : List (List Wd)) : sumW (a ++ b) = sumW a + sumW b := by unfold sumW; simp
theorem sumW_cons (a : List Wd) (b : List (List Wd)) : sumW (a :: b) = wl a + sumW b := by unfold sumW; simp
theorem sumW_map {α : Type} (f : α → List Wd) (c : Nat) : ∀ (l : List α), (∀ x ∈ l, wl (f x) ≤ c) → sumW (l.map f) ≤ l.length * c
  | [], _ => by simp [sumW]
  | x :: l, h => by
    rw [List.map_cons, sumW_cons, List.length_cons, Nat.add_mul]
    have h1 := h x (by simp)
    have h2 := sumW_map f c l (fun y hy => h y (by simp [hy]))
    omega
theorem sumW_flat {α : Type} (f : α → List (List Wd)) (c : Nat) : ∀ (l : List α), (∀ x ∈ l, sumW (f x) ≤ c) → sumW (l.flatMap f) ≤ l.length * c
  | [], _ => by simp [sumW]
  | x :: l, h => by
    rw [List.flatMap_cons, sumW_app, List.length_cons, Nat.add_mul]
    have h1 := h x (by simp)
    have h2 := sumW_flat f c l (fun y hy => h y (by simp [hy]))
    omega
theorem txt_sum : ∀ (L : List (List Wd)), (∀ ws ∈ L, ws ≠ []) → (txtOf (L.map lineT)).length = sumW L
  | [], _ => rfl
  | ws :: L, h => by
    have h1 := txt_sum L (fun q hq => h q (by simp [hq]))
    rw [List.map_cons, sumW_cons, ← h1]
    have e : txtOf (lineT ws :: L.map lineT) = (lineT ws ++ [10]) ++ txtOf (L.map lineT) := by unfold txtOf; simp
    rw [e, List.length_append, List.length_append]
    cases ws with
    | nil => exact absurd rfl (h _ (by simp))
    | cons k t =>
      show (k ++ jn t).length + 1 + _ = _
      rw [List.length_append, jn_len, wl_cons]; omega
theorem mem_wi {ns : List Int} {m : Nat} (hm : ns.length ≤ m) {a b : Nat} {lo hi : Int} (h : wi ns a b lo hi = true) {x : Int} (hx : x ∈ (ns.take b).drop a) : lo ≤ x ∧ x ≤ hi := sm_wi h x hx
theorem cage_sum {c : CageM} (hc : GoodC c) : sumW (cageL c) ≤ 64 * 23 + (64 * 26 + 128 * 17) := by
  unfold cageL
  rw [sumW_app, sumW_app]
  have h1 := sumW_map (fun n : List Int => kV :: n.map shW) 23 c.verts (fun n hn => by
    obtain ⟨l, h⟩ := hc.verts n hn
    have := wl_nums (ns := n) (c := 6) (fun x hx => sh6 (by have := sm_wi h x (by rw [List.take_of_length_le (by omega)]; simpa using hx); omega))
    rw [wl_cons, l] at *
    have : kV.length = 1 := rfl
    omega)
  have h2 := sumW_map (fun n : List Int => kF :: n.map shW) 26 c.faces (fun n hn => by
    obtain ⟨l, l2, h⟩ := hc.faces n hn
    have hv := hc.nv
    have := wl_nums (ns := n) (c := 2) (fun x hx => sh2 (by have := sm_wi h x (by rw [List.take_of_length_le (by omega)]; simpa using hx); omega))
    rw [wl_cons]
    have : kF.length = 1 := rfl
    omega)
  have h3 := sumW_map (fun n : List Int => kCrease :: n.map shW) 17 c.creases (fun n hn => by
    obtain ⟨l, h, _, h4⟩ := hc.creases n hn
    have hv := hc.nv
    obtain ⟨x, y, z, rfl⟩ : ∃ x y z, n = [x, y, z] := by
      match n, l with
      | [x, y, z], _ => exact ⟨x, y, z, rfl⟩
    have a := sh2 (V := x) (by have := sm_wi h x (by simp); omega)
    have b := sh2 (V := y) (by have := sm_wi h y (by simp); omega)
    have d := sh3 (V := z) (by have := sm_wi h4 z (by simp); omega)
    simp only [List.map_cons, List.map_nil, wl_cons]
    have e0 : wl [] = 0 := rfl
    have : kCrease.length = 6 := rfl
    omega)
  have := hc.nv
  have := hc.nf
  have := hc.nc
  have g1 : c.verts.length * 23 ≤ 64 * 23 := Nat.mul_le_mul_right _ hc.nv
  have g2 : c.faces.length * 26 ≤ 64 * 26 := Nat.mul_le_mul_right _ hc.nf
  have g3 : c.creases.length * 17 ≤ 128 * 17 := Nat.mul_le_mul_right _ hc.nc
  omega
theorem small_all {ns : List Int} {lo hi : Int} (a : Nat) (h : ∀ x ∈ ns.take a, lo ≤ x ∧ x ≤ hi) (h2 : ∀ x ∈ ns.drop a, lo ≤ x ∧ x ≤ hi) : ∀ x ∈ ns, lo ≤ x ∧ x ≤ hi := fun x hx => by
  rcases mem_parts a x hx with q | q
  · exact h x q
  · exact h2 x q
theorem wi_weak {ns : List Int} {a b : Nat} {lo hi : Int} (h : wi ns a b lo hi = true) (h1 : -99999 ≤ lo) (h2 : hi ≤ 99999) : ∀ x ∈ (ns.take b).drop a, -99999 ≤ x ∧ x ≤ 99999 := fun x hx => by
  have := sm_wi h x hx; omega
theorem wi_pairN {ns : List Int} {lo hi : Int} (hl : 2 ≤ ns.length) (h : wi ns 0 2 lo hi = true) : (lo ≤ ns.getD 0 0 ∧ ns.getD 0 0 ≤ hi) ∧ (lo ≤ ns.getD 1 0 ∧ ns.getD 1 0 ≤ hi) := by
  match ns, hl with
  | x :: y :: t, _ =>
    refine ⟨sm_wi h x (by simp), sm_wi h y (by simp)⟩
theorem all_sum {sc : Scn} (hg : Good sc) {n sk : List Int} (hc : sc.cam = some n) (hsk : sk.length = 3 ∧ wi sk 0 3 0 255 = true) : sumW (allL sc n sk) ≤ 65536 := by
  have e0 : wl [] = 0 := rfl
  obtain ⟨cl, cw⟩ := hg.cam n hc
  have c1 : wl (kCamera :: n.map shW) ≤ 119 := by
    have hs : ∀ x ∈ n, (shW x).length ≤ 6 := by
      simp only [Bool.and_eq_true] at cw
      obtain ⟨⟨⟨⟨a, b⟩, c⟩, d⟩, e⟩ := cw
      intro x hx
      refine sh6 ?_
      rcases mem_parts 6 x hx with q | q
      · have := sm_wi a x (by simpa using q); omega
      · rcases mem_parts 6 x q with q | q
        · have := sm_wi b x (by rw [List.drop_take]; exact q); omega
        · rw [List.drop_drop] at q
          rcases mem_parts 2 x q with q | q
          · have := sm_wi c x (by rw [List.drop_take]; exact q); omega
          · rw [List.drop_drop] at q
            rcases mem_parts 1 x q with q | q
            · have := sm_wi d x (by rw [List.drop_take]; exact q); omega
            · rw [List.drop_drop] at q
              have := sm_wi e x (by rw [List.take_of_length_le (by omega)]; simpa using q); omega
    have := wl_nums hs
    rw [wl_cons]
    have : kCamera.length = 6 := rfl
    omega
  have c2 : wl (kSky :: sk.map shW) ≤ 25 := by
    have := wl_nums (ns := sk) (c := 6) (fun x hx => sh6 (by have := sm_wi hsk.2 x (by rw [List.take_of_length_le (by omega)]; simpa using hx); omega))
    rw [wl_cons]
    have : kSky.length = 3 := rfl
    omega
  have c3 := sumW_map (fun n : List Int => kLight :: n.map shW) 48 sc.lights (fun n hn => by
    obtain ⟨l, h⟩ := hg.lights n hn
    simp only [Bool.and_eq_true] at h
    have := wl_nums (ns := n) (c := 6) (fun x hx => sh6 (by
      rcases mem_parts 3 x hx with q | q
      · have := sm_wi h.1 x (by simpa using q); omega
      · have := sm_wi h.2 x (by rw [List.take_of_length_le (by omega)]; exact q); omega))
    rw [wl_cons]
    have : kLight.length = 5 := rfl
    omega)
  have c4 := sumW_map (fun q : Wd × List Int => kTexture :: q.1 :: q.2.map shW) 1057 sc.texs (fun q hq => by
    obtain ⟨h1, h2, h3, h4⟩ := hg.texs q hq
    simp only [Bool.and_eq_true] at h4
    obtain ⟨⟨a1, a2⟩, b1, b2⟩ := wi_pairN h2 h4.1
    have hm : q.2.getD 0 0 * q.2.getD 1 0 ≤ 16 * 16 := Int.mul_le_mul a2 b2 (by omega) (by omega)
    have hn := (okW_name h1).2
    have := wl_nums (ns := q.2) (c := 3) (fun x hx => sh3 (by
      rcases mem_parts 2 x hx with p | p
      · have := sm_wi h4.1 x (by simpa using p); omega
      · have := sm_wi h4.2 x (by rw [List.take_of_length_le (by omega)]; exact p); omega))
    rw [wl_cons, wl_cons]
    have : kTexture.length = 7 := rfl
    omega)
  have c5 := sumW_map (fun q : Wd × List Int => kMaterial :: q.1 :: q.2.map shW) 82 sc.mats (fun q hq => by
    obtain ⟨h1, h2, h4⟩ := hg.mats q hq
    simp only [Bool.and_eq_true] at h4
    obtain ⟨⟨⟨⟨⟨a, b⟩, c⟩, d⟩, _⟩, e⟩ := h4
    have hn := (okW_name h1).2
    have := wl_nums (ns := q.2) (c := 6) (fun x hx => sh6 (by
      rcases mem_parts 3 x hx with p | p
      · have := sm_wi a x (by simpa using p); omega
      · rcases mem_parts 1 x p with p | p
        · have := sm_wi b x (by rw [List.drop_take]; exact p); omega
        · rw [List.drop_drop] at p
          rcases mem_parts 1 x p with p | p
          · have := sm_wi c x (by rw [List.drop_take]; exact p); omega
          · rw [List.drop_drop] at p
            rcases mem_parts 2 x p with p | p
            · have := sm_wi d x (by rw [List.drop_take]; exact p); omega
            · rw [List.drop_drop] at p
              have := sm_wi e x (by rw [List.take_of_length_le (by omega)]; simpa using p); omega))
    rw [wl_cons, wl_cons]
    have : kMaterial.length = 8 := rfl
    omega)
  have c6 := sumW_flat (fun p : SkinM × CageM => skinL sc.mats sc.texs p.1 :: cageL p.2) 5400 (sc.skins.zip sc.cages) (fun p hp => by
    obtain ⟨hk, hcg⟩ := List.of_mem_zip hp
    have s1 := cage_sum (hg.cages p.2 hcg)
    obtain ⟨⟨_, m1⟩, _, m2⟩ := skin_words hg hk
    obtain ⟨h1, _, _, _, h5, h6, h7⟩ := hg.skins p.1 hk
    have hn := (okW_name h1).2
    have l1 := sh6 (V := p.1.levels) (by omega)
    have l2 := sh6 (V := p.1.unit) (by omega)
    have l3 := sh6 (V := p.1.height) (by omega)
    rw [sumW_cons]
    unfold skinL
    simp only [wl_cons]
    have : kCage.length = 4 := rfl
    omega)
  have hz : (sc.skins.zip sc.cages).length ≤ 8 := by rw [List.length_zip]; have := hg.ns; omega
  have := hg.nl
  have := hg.nt
  have := hg.nm
  unfold allL
  rw [sumW_cons, sumW_cons, sumW_app, sumW_app, sumW_app]
  have g1 : sc.lights.length * 48 ≤ 4 * 48 := Nat.mul_le_mul_right _ hg.nl
  have g2 : sc.texs.length * 1057 ≤ 4 * 1057 := Nat.mul_le_mul_right _ hg.nt
  have g3 : sc.mats.length * 82 ≤ 8 * 82 := Nat.mul_le_mul_right _ hg.nm
  have g4 : (sc.skins.zip sc.cages).length * 5400 ≤ 8 * 5400 := Nat.mul_le_mul_right _ hz
  omega
/-- A good scene's text is no longer than a text may be. -/
theorem show_len {sc : Scn} (hg : Good sc) {n sk : List Int} (hc : sc.cam = some n) (hsk : sk.length = 3 ∧ wi sk 0 3 0 255 = true) : (showT sc n sk).length ≤ 65536 := by
  unfold showT
  rw [txt_sum _ (fun ws hw => (okL_all hg n sk ws hw).1)]
  exact all_sum hg hc hsk
end Go.Proofs.YtdkgbdecmgligaaGreatDoor
