/- A scene out of lines of words, step by step (math). -/
import Derived.Test.YtdkgbdecmgligaaGreatDoorMLexA
import Derived.Test.YtdkgbdecmgligaaGreatDoorLexM2
namespace Go.Proofs.YtdkgbdecmgligaaGreatDoor
set_option linter.unusedVariables false
set_option linter.unusedSimpArgs false
abbrev Wd := List UInt8
def nW (w : Wd) : Int × Bool := numV ⟨w.toArray⟩
def isN (w : Wd) : Bool := nameB ⟨w.toArray⟩
/-- Words as numbers, if all are. -/
def numsF : List Wd → Option (List Int)
  | [] => some []
  | w :: ws => if (nW w).2 then (numsF ws).map ((nW w).1 :: ·) else none
/-- From one place on up to another all are within bounds. -/
def wi (n : List Int) (a b : Nat) (lo hi : Int) : Bool := ((n.take b).drop a).all fun x => decide (lo ≤ x) && decide (x ≤ hi)
structure SkinM where
  name : Wd
  mat : Nat
  levels : Int
  unit : Int
  tex : Int
  height : Int
structure CageM where
  verts : List (List Int)
  faces : List (List Int)
  creases : List (List Int)
structure Scn where
  cam : Option (List Int)
  sky : Option (List Int)
  lights : List (List Int)
  mats : List (Wd × List Int)
  texs : List (Wd × List Int)
  skins : List SkinM
  cages : List CageM
def scn0 : Scn := ⟨none, none, [], [], [], [], []⟩
def kCamera : Wd := [99, 97, 109, 101, 114, 97]
def kSky : Wd := [115, 107, 121]
def kLight : Wd := [108, 105, 103, 104, 116]
def kTexture : Wd := [116, 101, 120, 116, 117, 114, 101]
def kMaterial : Wd := [109, 97, 116, 101, 114, 105, 97, 108]
def kCage : Wd := [99, 97, 103, 101]
def kV : Wd := [118]
def kF : Wd := [102]
def kCrease : Wd := [99, 114, 101, 97, 115, 101]
def kNo : Wd := [45]
/-- The first place of a name. -/
def place (name : Wd) : List Wd → Option Nat
  | [] => none
  | x :: l => if x = name then some 0 else (place name l).map (· + 1)
def placeI (name : Wd) (l : List Wd) : Int := match place name l with | none => -1 | some i => i
def camF (sc : Scn) (ws : List Wd) : Except Nat Scn := match numsF ws with
  | none => .error 10
  | some n => if n.length ≠ 16 then .error 10 else if sc.cam.isSome then .error 12
    else if (wi n 0 6 (-16384) 16384 && wi n 6 12 (-32) 32 && wi n 12 14 1 64 && wi n 14 15 1 4 && wi n 15 16 0 8) then .ok { sc with cam := some n } else .error 11
def skyF (sc : Scn) (ws : List Wd) : Except Nat Scn := match numsF ws with
  | none => .error 10
  | some n => if n.length ≠ 3 then .error 10 else if sc.sky.isSome then .error 12
    else if wi n 0 3 0 255 then .ok { sc with sky := some n } else .error 11
def lightF (sc : Scn) (ws : List Wd) : Except Nat Scn := match numsF ws with
  | none => .error 10
  | some n => if n.length ≠ 6 then .error 10 else if 4 ≤ sc.lights.length then .error 13
    else if (wi n 0 3 (-16384) 16384 && wi n 3 6 0 255) then .ok { sc with lights := sc.lights ++ [n] } else .error 11
def texF (sc : Scn) : List Wd → Except Nat Scn
  | name :: ws => if ws.length < 2 ∨ isN name = false then .error 10 else match numsF ws with
    | none => .error 10
    | some n => if n.getD 0 0 * n.getD 1 0 ≠ (n.length : Int) - 2 then .error 10 else if 4 ≤ sc.texs.length then .error 13
      else if (place name (sc.texs.map (·.1))).isSome then .error 12
      else if (wi n 0 2 1 16 && wi n 2 n.length 0 255) then .ok { sc with texs := sc.texs ++ [(name, n)] } else .error 11
  | [] => .error 10
def matF (sc : Scn) : List Wd → Except Nat Scn
  | name :: ws => if ws.length ≠ 8 ∨ isN name = false then .error 10 else match numsF ws with
    | none => .error 10
    | some n => if 8 ≤ sc.mats.length then .error 13
      else if (place name (sc.mats.map (·.1))).isSome then .error 12
      else if (wi n 0 3 0 255 && wi n 3 4 0 256 && wi n 4 5 1 64 && wi n 5 7 0 256 && decide (n.getD 5 0 + n.getD 6 0 ≤ 256) && wi n 7 8 64 1024) then .ok { sc with mats := sc.mats ++ [(name, n)] } else .error 11
  | [] => .error 10
def skinF (sc : Scn) : List Wd → Except Nat Scn
  | [name, mat, w3, w4, tex, w6] =>
    if isN name = false ∨ isN mat = false ∨ (tex ≠ kNo ∧ isN tex = false) then .error 10 else match numsF [w3, w4, w6] with
    | none => .error 10
    | some n => if 8 ≤ sc.skins.length then .error 13
      else if (place name (sc.skins.map (·.name))).isSome ∨ place mat (sc.mats.map (·.1)) = none ∨ (tex ≠ kNo ∧ place tex (sc.texs.map (·.1)) = none) then .error 12
      else if (wi n 0 1 0 2 && wi n 1 2 1 65536 && wi n 2 3 0 255) then
        .ok { sc with skins := sc.skins ++ [⟨name, (place mat (sc.mats.map (·.1))).getD 0, n.getD 0 0, n.getD 1 0, placeI tex (sc.texs.map (·.1)), n.getD 2 0⟩], cages := sc.cages ++ [⟨[], [], []⟩] } else .error 11
  | _ => .error 10
/-- The last one of a list made anew. -/
def onLast (f : CageM → CageM) (l : List CageM) : List CageM := match l.getLast? with | none => l | some c => l.dropLast ++ [f c]
def partF (sc : Scn) (k : Wd) (ws : List Wd) : Except Nat Scn := match numsF ws with
  | none => .error 10
  | some n => if (k ≠ kF ∧ n.length ≠ 3) ∨ (k = kF ∧ (n.length < 3 ∨ 8 < n.length)) then .error 10
    else match sc.cages.getLast? with
    | none => .error 15
    | some c =>
      if k = kV then (if 64 ≤ c.verts.length then .error 13 else if wi n 0 3 (-16384) 16384 then .ok { sc with cages := onLast (fun c => { c with verts := c.verts ++ [n] }) sc.cages } else .error 11)
      else if k = kF then (if 64 ≤ c.faces.length then .error 13 else if wi n 0 n.length 0 ((c.verts.length : Int) - 1) then .ok { sc with cages := onLast (fun c => { c with faces := c.faces ++ [n] }) sc.cages } else .error 11)
      else (if 128 ≤ c.creases.length then .error 13 else if (wi n 0 2 0 ((c.verts.length : Int) - 1) && !decide (n.getD 0 0 = n.getD 1 0) && wi n 2 3 1 255) then .ok { sc with cages := onLast (fun c => { c with creases := c.creases ++ [n] }) sc.cages } else .error 11)
def lineF (sc : Scn) : List Wd → Except Nat Scn
  | [] => .error 10
  | k :: ws => if k = kCamera then camF sc ws else if k = kSky then skyF sc ws else if k = kLight then lightF sc ws
    else if k = kTexture then texF sc ws else if k = kMaterial then matF sc ws else if k = kCage then skinF sc ws
    else if k = kV ∨ k = kF ∨ k = kCrease then partF sc k ws else .error 10
theorem texF_cons (sc : Scn) (name : Wd) (ws : List Wd) : texF sc (name :: ws) = if ws.length < 2 ∨ isN name = false then .error 10 else match numsF ws with
    | none => .error 10
    | some n => if n.getD 0 0 * n.getD 1 0 ≠ (n.length : Int) - 2 then .error 10 else if 4 ≤ sc.texs.length then .error 13
      else if (place name (sc.texs.map (·.1))).isSome then .error 12
      else if (wi n 0 2 1 16 && wi n 2 n.length 0 255) then .ok { sc with texs := sc.texs ++ [(name, n)] } else .error 11 := rfl
theorem matF_cons (sc : Scn) (name : Wd) (ws : List Wd) : matF sc (name :: ws) = if ws.length ≠ 8 ∨ isN name = false then .error 10 else match numsF ws with
    | none => .error 10
    | some n => if 8 ≤ sc.mats.length then .error 13
      else if (place name (sc.mats.map (·.1))).isSome then .error 12
      else if (wi n 0 3 0 255 && wi n 3 4 0 256 && wi n 4 5 1 64 && wi n 5 7 0 256 && decide (n.getD 5 0 + n.getD 6 0 ≤ 256) && wi n 7 8 64 1024) then .ok { sc with mats := sc.mats ++ [(name, n)] } else .error 11 := rfl
theorem lineF_cons (sc : Scn) (k : Wd) (ws : List Wd) : lineF sc (k :: ws) = if k = kCamera then camF sc ws else if k = kSky then skyF sc ws else if k = kLight then lightF sc ws
    else if k = kTexture then texF sc ws else if k = kMaterial then matF sc ws else if k = kCage then skinF sc ws
    else if k = kV ∨ k = kF ∨ k = kCrease then partF sc k ws else .error 10 := rfl
/-- Line by line; an error with its line. -/
def runS (sc : Scn) : List (Nat × List Wd) → Except (Nat × Nat) Scn
  | [] => .ok sc
  | q :: l => match lineF sc q.2 with | .error e => .error (q.1, e) | .ok sc' => runS sc' l
theorem runS_app : ∀ (l m : List (Nat × List Wd)) (sc : Scn), runS sc (l ++ m) = (match runS sc l with | .error e => .error e | .ok sc' => runS sc' m)
  | [], m, sc => rfl
  | q :: l, m, sc => by
    simp only [List.cons_append, runS]
    cases lineF sc q.2 with
    | error e => rfl
    | ok sc' => exact runS_app l m sc'
/-- The scene of lines. -/
def sceneF (l : List (Nat × List Wd)) : Except (Nat × Nat) Scn := match runS scn0 l with
  | .error e => .error e
  | .ok sc => if sc.cam.isSome then .ok sc else .error (0, 15)
/-! what a line can do to a scene -/
theorem numsF_len : ∀ (ws : List Wd) (n : List Int), numsF ws = some n → n.length = ws.length
  | [], n, h => by unfold numsF at h; injection h with h; subst h; rfl
  | w :: ws, n, h => by
    unfold numsF at h
    split at h
    · cases e : numsF ws with
      | none => rw [e] at h; cases h
      | some m => rw [e] at h; injection h with h; subst h; simp [numsF_len ws m e]
    · cases h
/-- One line, told by what it adds. -/
inductive Adds (sc : Scn) : List Wd → Scn → Prop
  | camera (ws n) : numsF ws = some n → n.length = 16 → sc.cam = none → (wi n 0 6 (-16384) 16384 && wi n 6 12 (-32) 32 && wi n 12 14 1 64 && wi n 14 15 1 4 && wi n 15 16 0 8) = true → Adds sc (kCamera :: ws) { sc with cam := some n }
  | sky (ws n) : numsF ws = some n → n.length = 3 → sc.sky = none → wi n 0 3 0 255 = true → Adds sc (kSky :: ws) { sc with sky := some n }
  | light (ws n) : numsF ws = some n → n.length = 6 → sc.lights.length < 4 → (wi n 0 3 (-16384) 16384 && wi n 3 6 0 255) = true → Adds sc (kLight :: ws) { sc with lights := sc.lights ++ [n] }
  | texture (name ws n) : numsF ws = some n → isN name = true → 2 ≤ ws.length → n.getD 0 0 * n.getD 1 0 = (n.length : Int) - 2 → sc.texs.length < 4 → place name (sc.texs.map (·.1)) = none → (wi n 0 2 1 16 && wi n 2 n.length 0 255) = true → Adds sc (kTexture :: name :: ws) { sc with texs := sc.texs ++ [(name, n)] }
  | material (name ws n) : numsF ws = some n → isN name = true → ws.length = 8 → sc.mats.length < 8 → place name (sc.mats.map (·.1)) = none → (wi n 0 3 0 255 && wi n 3 4 0 256 && wi n 4 5 1 64 && wi n 5 7 0 256 && decide (n.getD 5 0 + n.getD 6 0 ≤ 256) && wi n 7 8 64 1024) = true → Adds sc (kMaterial :: name :: ws) { sc with mats := sc.mats ++ [(name, n)] }
  | cage (name mat w3 w4 tex w6 n i) : isN name = true → isN mat = true → (tex = kNo ∨ isN tex = true) → numsF [w3, w4, w6] = some n → sc.skins.length < 8 → place name (sc.skins.map (·.name)) = none → place mat (sc.mats.map (·.1)) = some i → (tex = kNo ∨ place tex (sc.texs.map (·.1)) ≠ none) → (wi n 0 1 0 2 && wi n 1 2 1 65536 && wi n 2 3 0 255) = true →
      Adds sc [kCage, name, mat, w3, w4, tex, w6] { sc with skins := sc.skins ++ [⟨name, i, n.getD 0 0, n.getD 1 0, placeI tex (sc.texs.map (·.1)), n.getD 2 0⟩], cages := sc.cages ++ [⟨[], [], []⟩] }
  | vert (ws n c) : numsF ws = some n → n.length = 3 → sc.cages.getLast? = some c → c.verts.length < 64 → wi n 0 3 (-16384) 16384 = true → Adds sc (kV :: ws) { sc with cages := onLast (fun c => { c with verts := c.verts ++ [n] }) sc.cages }
  | face (ws n c) : numsF ws = some n → 3 ≤ n.length → n.length ≤ 8 → sc.cages.getLast? = some c → c.faces.length < 64 → wi n 0 n.length 0 ((c.verts.length : Int) - 1) = true → Adds sc (kF :: ws) { sc with cages := onLast (fun c => { c with faces := c.faces ++ [n] }) sc.cages }
  | crease (ws n c) : numsF ws = some n → n.length = 3 → sc.cages.getLast? = some c → c.creases.length < 128 → (wi n 0 2 0 ((c.verts.length : Int) - 1) && !decide (n.getD 0 0 = n.getD 1 0) && wi n 2 3 1 255) = true → Adds sc (kCrease :: ws) { sc with cages := onLast (fun c => { c with creases := c.creases ++ [n] }) sc.cages }
theorem lineF_adds {sc sc' : Scn} {ws : List Wd} (h : lineF sc ws = .ok sc') : Adds sc ws sc' := by
  cases ws with
  | nil => unfold lineF at h; cases h
  | cons k ws =>
    rw [lineF_cons] at h
    by_cases c1 : k = kCamera
    · rw [if_pos c1] at h; subst c1
      unfold camF at h
      cases e : numsF ws with
      | none => rw [e] at h; cases h
      | some n =>
        rw [e] at h
        simp only at h
        split at h
        · cases h
        split at h
        · cases h
        split at h
        · rename_i a b c
          injection h with h; subst h
          exact .camera ws n e (by omega) (by simpa using b) c
        · cases h
    rw [if_neg c1] at h
    by_cases c2 : k = kSky
    · rw [if_pos c2] at h; subst c2
      unfold skyF at h
      cases e : numsF ws with
      | none => rw [e] at h; cases h
      | some n =>
        rw [e] at h
        simp only at h
        split at h
        · cases h
        split at h
        · cases h
        split at h
        · rename_i a b c
          injection h with h; subst h
          exact .sky ws n e (by omega) (by simpa using b) c
        · cases h
    rw [if_neg c2] at h
    by_cases c3 : k = kLight
    · rw [if_pos c3] at h; subst c3
      unfold lightF at h
      cases e : numsF ws with
      | none => rw [e] at h; cases h
      | some n =>
        rw [e] at h
        simp only at h
        split at h
        · cases h
        split at h
        · cases h
        split at h
        · rename_i a b c
          injection h with h; subst h
          exact .light ws n e (by omega) (by omega) c
        · cases h
    rw [if_neg c3] at h
    by_cases c4 : k = kTexture
    · rw [if_pos c4] at h; subst c4
      cases ws with
      | nil => unfold texF at h; cases h
      | cons name ws =>
        rw [texF_cons] at h
        split at h
        · cases h
        rename_i a
        cases e : numsF ws with
        | none => rw [e] at h; cases h
        | some n =>
          rw [e] at h
          simp only at h
          split at h
          · cases h
          split at h
          · cases h
          split at h
          · cases h
          split at h
          · rename_i b c d f
            injection h with h; subst h
            exact .texture name ws n e (by simp at a; exact a.2) (by simp at a; omega) (by simpa using b) (by omega) (by simpa using d) f
          · cases h
    rw [if_neg c4] at h
    by_cases c5 : k = kMaterial
    · rw [if_pos c5] at h; subst c5
      cases ws with
      | nil => unfold matF at h; cases h
      | cons name ws =>
        rw [matF_cons] at h
        split at h
        · cases h
        rename_i a
        cases e : numsF ws with
        | none => rw [e] at h; cases h
        | some n =>
          rw [e] at h
          simp only at h
          split at h
          · cases h
          split at h
          · cases h
          split at h
          · rename_i b c d
            injection h with h; subst h
            exact .material name ws n e (by simp at a; exact a.2) (by simp at a; omega) (by omega) (by simpa using c) d
          · cases h
    rw [if_neg c5] at h
    by_cases c6 : k = kCage
    · rw [if_pos c6] at h; subst c6
      unfold skinF at h
      split at h
      · rename_i name mat w3 w4 tex w6
        split at h
        · cases h
        rename_i a
        cases e : numsF [w3, w4, w6] with
        | none => rw [e] at h; cases h
        | some n =>
          rw [e] at h
          simp only at h
          split at h
          · cases h
          split at h
          · cases h
          split at h
          · rename_i b c d
            injection h with h; subst h
            simp only [not_or, not_and, Bool.not_eq_false] at a c
            obtain ⟨i, hi⟩ : ∃ i, place mat (sc.mats.map (·.1)) = some i := by
              cases q : place mat (sc.mats.map (·.1)) with
              | none => exact absurd q c.2.1
              | some i => exact ⟨i, rfl⟩
            rw [hi]
            refine .cage name mat w3 w4 tex w6 n i a.1 a.2.1 ?_ e (by omega) (by simpa using c.1) hi ?_ d
            · by_cases q : tex = kNo
              · exact .inl q
              · exact .inr (a.2.2 q)
            · by_cases q : tex = kNo
              · exact .inl q
              · exact .inr (c.2.2 q)
          · cases h
      · cases h
    rw [if_neg c6] at h
    split at h
    · rename_i hk
      unfold partF at h
      cases e : numsF ws with
      | none => rw [e] at h; cases h
      | some n =>
        rw [e] at h
        simp only at h
        split at h
        · cases h
        rename_i a
        cases g : sc.cages.getLast? with
        | none => rw [g] at h; cases h
        | some c =>
          rw [g] at h
          simp only at h
          have kvf : kV ≠ kF := by decide
          have kcf : kCrease ≠ kF := by decide
          have kcv : kCrease ≠ kV := by decide
          rcases hk with rfl | rfl | rfl
          · rw [if_pos rfl] at h
            split at h
            · cases h
            split at h
            · rename_i b d
              injection h with h; subst h
              exact .vert ws n c e (by simp [kvf] at a; exact a) g (by omega) d
            · cases h
          · rw [if_neg (fun q => kvf q.symm), if_pos rfl] at h
            split at h
            · cases h
            split at h
            · rename_i b d
              injection h with h; subst h
              exact .face ws n c e (by simp at a; omega) (by simp at a; omega) g (by omega) d
            · cases h
          · rw [if_neg kcv, if_neg kcf] at h
            split at h
            · cases h
            split at h
            · rename_i b d
              injection h with h; subst h
              exact .crease ws n c e (by simp [kcf] at a; exact a) g (by omega) d
            · cases h
    · cases h
end Go.Proofs.YtdkgbdecmgligaaGreatDoor

/- Scenes that are read: their bounds, how many things there are, what order makes no difference (math). -/
namespace Go.Proofs.YtdkgbdecmgligaaGreatDoor
set_option linter.unusedVariables false
set_option linter.unusedSimpArgs false
theorem wi_at {n : List Int} {a b : Nat} {lo hi : Int} (h : wi n a b lo hi = true) (i : Nat) (h1 : a ≤ i) (h2 : i < b) (h3 : i < n.length) : lo ≤ n.getD i 0 ∧ n.getD i 0 ≤ hi := by
  unfold wi at h
  rw [List.all_eq_true] at h
  have hm : n[i] ∈ (n.take b).drop a := by
    rw [List.mem_iff_getElem]
    refine ⟨i - a, by simp; omega, ?_⟩
    rw [List.getElem_drop, List.getElem_take]
    congr 1
    omega
  have := h _ hm
  simp only [Bool.and_eq_true, decide_eq_true_eq] at this
  simpa [List.getD, h3] using this
theorem onLast_at {f : CageM → CageM} {l : List CageM} {c : CageM} (h : l.getLast? = some c) : ∃ ys, l = ys ++ [c] ∧ onLast f l = ys ++ [f c] := by
  obtain ⟨ys, rfl⟩ := List.getLast?_eq_some_iff.1 h
  exact ⟨ys, rfl, by unfold onLast; simp⟩
theorem place_lt (name : Wd) : ∀ (l : List Wd) (i : Nat), place name l = some i → i < l.length
  | [], i, h => by cases h
  | x :: l, i, h => by
    unfold place at h
    split at h
    · injection h with h; subst h; simp
    · cases e : place name l with
      | none => rw [e] at h; cases h
      | some j => rw [e] at h; injection h with h; subst h; have := place_lt name l j e; simp; omega
/-- What is read is within the bounds. -/
structure InvS (sc : Scn) : Prop where
  cam : ∀ n, sc.cam = some n → n.length = 16 ∧ (1 ≤ n.getD 12 0 ∧ n.getD 12 0 ≤ 64) ∧ (1 ≤ n.getD 13 0 ∧ n.getD 13 0 ≤ 64) ∧ (1 ≤ n.getD 14 0 ∧ n.getD 14 0 ≤ 4) ∧ 0 ≤ n.getD 15 0 ∧ n.getD 15 0 ≤ 8
  skins : sc.skins.length = sc.cages.length ∧ sc.cages.length ≤ 8
  skin : ∀ k ∈ sc.skins, k.mat < sc.mats.length ∧ -1 ≤ k.tex ∧ k.tex < sc.texs.length ∧ 0 ≤ k.levels ∧ k.levels ≤ 2 ∧ 1 ≤ k.unit
  cage : ∀ c ∈ sc.cages, c.verts.length ≤ 64 ∧ c.faces.length ≤ 64 ∧ ∀ f ∈ c.faces, ∀ j ∈ f, 0 ≤ j ∧ j < c.verts.length
theorem invS0 : InvS scn0 := ⟨(fun n h => by cases h), ⟨rfl, by decide⟩, (fun k h => by cases h), (fun c h => by cases h)⟩
theorem placeI_lt (name : Wd) (l : List Wd) : -1 ≤ placeI name l ∧ placeI name l < l.length := by
  unfold placeI
  cases e : place name l with
  | none => simp only; omega
  | some i => have := place_lt name l i e; simp only; omega
theorem inv_adds {sc sc' : Scn} {ws : List Wd} (h : Adds sc ws sc') (hi : InvS sc) : InvS sc' := by
  cases h with
  | camera ws n h1 h2 h3 h4 =>
    simp only [Bool.and_eq_true] at h4
    obtain ⟨⟨⟨⟨_, _⟩, w1⟩, w2⟩, w3⟩ := h4
    exact ⟨fun m hm => by
      simp only [Option.some.injEq] at hm
      subst hm
      exact ⟨h2, wi_at w1 12 (by omega) (by omega) (by omega), wi_at w1 13 (by omega) (by omega) (by omega), wi_at w2 14 (by omega) (by omega) (by omega), wi_at w3 15 (by omega) (by omega) (by omega)⟩, hi.skins, hi.skin, hi.cage⟩
  | sky ws n h1 h2 h3 h4 => exact ⟨hi.cam, hi.skins, hi.skin, hi.cage⟩
  | light ws n h1 h2 h3 h4 => exact ⟨hi.cam, hi.skins, hi.skin, hi.cage⟩
  | texture name ws n h1 h2 h3 h4 h5 h6 h7 =>
    exact ⟨hi.cam, hi.skins, fun k hk => by have := hi.skin k hk; simp; omega, hi.cage⟩
  | material name ws n h1 h2 h3 h4 h5 h6 =>
    exact ⟨hi.cam, hi.skins, fun k hk => by have := hi.skin k hk; simp; omega, hi.cage⟩
  | cage name mat w3 w4 tex w6 n i h1 h2 h3 h4 h5 h6 h7 h8 h9 =>
    have hl := numsF_len _ _ h4
    simp only [List.length_cons, List.length_nil] at hl
    simp only [Bool.and_eq_true] at h9
    obtain ⟨⟨w1, w2⟩, w3'⟩ := h9
    have b1 := wi_at w1 0 (by omega) (by omega) (by omega)
    have b2 := wi_at w2 1 (by omega) (by omega) (by omega)
    have hp := place_lt mat _ i h7
    have ht := placeI_lt tex (sc.texs.map (·.1))
    simp only [List.length_map] at hp ht
    refine ⟨hi.cam, ⟨by have := hi.skins; simp; omega, by have := hi.skins; simp; omega⟩, fun k hk => ?_, fun c hc => ?_⟩
    · rcases List.mem_append.1 hk with hk | hk
      · exact hi.skin k hk
      · rw [List.mem_singleton] at hk
        subst hk
        exact ⟨hp, ht.1, ht.2, b1.1, b1.2, b2.1⟩
    · rcases List.mem_append.1 hc with hc | hc
      · exact hi.cage c hc
      · rw [List.mem_singleton] at hc
        subst hc
        exact ⟨by simp, by simp, fun f hf => by cases hf⟩
  | vert ws n c h1 h2 h3 h4 h5 =>
    obtain ⟨ys, e1, e2⟩ := onLast_at (f := fun c => { c with verts := c.verts ++ [n] }) h3
    refine ⟨hi.cam, ⟨by have := hi.skins; rw [e2]; rw [e1] at this; simp at this ⊢; omega, by have := hi.skins; rw [e2]; rw [e1] at this; simp at this ⊢; omega⟩, hi.skin, fun d hd => ?_⟩
    simp only at hd
    rw [e2] at hd
    rcases List.mem_append.1 hd with hd | hd
    · exact hi.cage d (by rw [e1]; simp [hd])
    · rw [List.mem_singleton] at hd
      subst hd
      obtain ⟨k1, k2, k3⟩ := hi.cage c (by rw [e1]; simp)
      exact ⟨by simp; omega, k2, fun f hf j hj => by have := k3 f hf j hj; simp; omega⟩
  | face ws n c h1 h2 h2' h3 h4 h5 =>
    obtain ⟨ys, e1, e2⟩ := onLast_at (f := fun c => { c with faces := c.faces ++ [n] }) h3
    refine ⟨hi.cam, ⟨by have := hi.skins; rw [e2]; rw [e1] at this; simp at this ⊢; omega, by have := hi.skins; rw [e2]; rw [e1] at this; simp at this ⊢; omega⟩, hi.skin, fun d hd => ?_⟩
    simp only at hd
    rw [e2] at hd
    rcases List.mem_append.1 hd with hd | hd
    · exact hi.cage d (by rw [e1]; simp [hd])
    · rw [List.mem_singleton] at hd
      subst hd
      obtain ⟨k1, k2, k3⟩ := hi.cage c (by rw [e1]; simp)
      refine ⟨k1, by simp; omega, fun f hf j hj => ?_⟩
      rcases List.mem_append.1 hf with hf | hf
      · exact k3 f hf j hj
      · rw [List.mem_singleton] at hf
        subst hf
        obtain ⟨i, hi2, rfl⟩ := List.getElem_of_mem hj
        have := wi_at h5 i (by omega) hi2 hi2
        simp [List.getD, hi2] at this
        exact ⟨this.1, by show _ < (c.verts.length : Int); omega⟩
  | crease ws n c h1 h2 h3 h4 h5 =>
    obtain ⟨ys, e1, e2⟩ := onLast_at (f := fun c => { c with creases := c.creases ++ [n] }) h3
    refine ⟨hi.cam, ⟨by have := hi.skins; rw [e2]; rw [e1] at this; simp at this ⊢; omega, by have := hi.skins; rw [e2]; rw [e1] at this; simp at this ⊢; omega⟩, hi.skin, fun d hd => ?_⟩
    simp only at hd
    rw [e2] at hd
    rcases List.mem_append.1 hd with hd | hd
    · exact hi.cage d (by rw [e1]; simp [hd])
    · rw [List.mem_singleton] at hd
      subst hd
      exact hi.cage c (by rw [e1]; simp)
theorem inv_run : ∀ (l : List (Nat × List Wd)) (sc sc' : Scn), runS sc l = .ok sc' → InvS sc → InvS sc'
  | [], sc, sc', h, hi => by unfold runS at h; injection h with h; subst h; exact hi
  | q :: l, sc, sc', h, hi => by
    unfold runS at h
    cases e : lineF sc q.2 with
    | error n => rw [e] at h; cases h
    | ok s2 => rw [e] at h; exact inv_run l s2 sc' h (inv_adds (lineF_adds e) hi)
theorem inv_scene {l : List (Nat × List Wd)} {sc : Scn} (h : sceneF l = .ok sc) : InvS sc ∧ sc.cam ≠ none := by
  unfold sceneF at h
  cases e : runS scn0 l with
  | error n => rw [e] at h; cases h
  | ok s2 =>
    rw [e] at h
    simp only at h
    split at h
    · rename_i hc
      injection h with h; subst h
      exact ⟨inv_run l scn0 s2 e invS0, fun k => by rw [k] at hc; cases hc⟩
    · cases h
/-! how many there are -/
def headIs (k : Wd) (q : Nat × List Wd) : Bool := decide (q.2.head? = some k)
def cnt (k : Wd) (l : List (Nat × List Wd)) : Nat := (l.filter (headIs k)).length
def sumOf (f : CageM → Nat) (l : List CageM) : Nat := (l.map f).sum
theorem sumOf_app (f : CageM → Nat) (a b : List CageM) : sumOf f (a ++ b) = sumOf f a + sumOf f b := by unfold sumOf; simp
theorem cnt_cons (k : Wd) (q : Nat × List Wd) (l : List (Nat × List Wd)) : cnt k (q :: l) = (if q.2.head? = some k then 1 else 0) + cnt k l := by
  unfold cnt headIs
  rw [List.filter_cons]
  by_cases h : q.2.head? = some k
  · simp [h]; omega
  · simp [h]
/-- A measure that goes up by one at each line of a kind. -/
theorem cnt_run (k : Wd) (m : Scn → Nat) (hm : ∀ sc ws sc', Adds sc ws sc' → m sc' = m sc + if ws.head? = some k then 1 else 0) : ∀ (l : List (Nat × List Wd)) (sc sc' : Scn), runS sc l = .ok sc' → m sc' = m sc + cnt k l
  | [], sc, sc', h => by unfold runS at h; injection h with h; subst h; rfl
  | q :: l, sc, sc', h => by
    unfold runS at h
    cases e : lineF sc q.2 with
    | error n => rw [e] at h; cases h
    | ok s2 =>
      rw [e] at h
      have h1 := hm _ _ _ (lineF_adds e)
      have h2 := cnt_run k m hm l s2 sc' h
      rw [cnt_cons]
      omega
theorem cnt_camera (l : List (Nat × List Wd)) (sc sc' : Scn) (h : runS sc l = .ok sc') : (if sc'.cam.isSome then 1 else 0) = (if sc.cam.isSome then 1 else 0) + cnt kCamera l := by
  refine cnt_run kCamera (fun sc => if sc.cam.isSome then 1 else 0) (fun sc ws sc' a => ?_) l sc sc' h
  cases a <;> simp_all [kCamera, kSky, kLight, kTexture, kMaterial, kCage, kV, kF, kCrease]
theorem cnt_light (l : List (Nat × List Wd)) (sc sc' : Scn) (h : runS sc l = .ok sc') : sc'.lights.length = sc.lights.length + cnt kLight l := by
  refine cnt_run kLight (fun sc => sc.lights.length) (fun sc ws sc' a => ?_) l sc sc' h
  cases a <;> simp [kCamera, kSky, kLight, kTexture, kMaterial, kCage, kV, kF, kCrease]
theorem cnt_texture (l : List (Nat × List Wd)) (sc sc' : Scn) (h : runS sc l = .ok sc') : sc'.texs.length = sc.texs.length + cnt kTexture l := by
  refine cnt_run kTexture (fun sc => sc.texs.length) (fun sc ws sc' a => ?_) l sc sc' h
  cases a <;> simp [kCamera, kSky, kLight, kTexture, kMaterial, kCage, kV, kF, kCrease]
theorem cnt_material (l : List (Nat × List Wd)) (sc sc' : Scn) (h : runS sc l = .ok sc') : sc'.mats.length = sc.mats.length + cnt kMaterial l := by
  refine cnt_run kMaterial (fun sc => sc.mats.length) (fun sc ws sc' a => ?_) l sc sc' h
  cases a <;> simp [kCamera, kSky, kLight, kTexture, kMaterial, kCage, kV, kF, kCrease]
theorem onLast_len (f : CageM → CageM) (l : List CageM) (c : CageM) (h : l.getLast? = some c) : (onLast f l).length = l.length := by
  obtain ⟨ys, e1, e2⟩ := onLast_at (f := f) h
  rw [e2, e1]; simp
theorem cnt_cage (l : List (Nat × List Wd)) (sc sc' : Scn) (h : runS sc l = .ok sc') : sc'.cages.length = sc.cages.length + cnt kCage l := by
  refine cnt_run kCage (fun sc => sc.cages.length) (fun sc ws sc' a => ?_) l sc sc' h
  cases a with
  | vert ws n c h1 h2 h3 h4 h5 => simp only; rw [onLast_len _ _ c h3]; simp [kCage, kV]
  | face ws n c h1 h2 h2' h3 h4 h5 => simp only; rw [onLast_len _ _ c h3]; simp [kCage, kF]
  | crease ws n c h1 h2 h3 h4 h5 => simp only; rw [onLast_len _ _ c h3]; simp [kCage, kCrease]
  | _ => simp [kCamera, kSky, kLight, kTexture, kMaterial, kCage, kV, kF, kCrease]
theorem onLast_sum (g : CageM → Nat) (f : CageM → CageM) (d : Nat) (l : List CageM) (c : CageM) (h : l.getLast? = some c) (hf : g (f c) = g c + d) : sumOf g (onLast f l) = sumOf g l + d := by
  obtain ⟨ys, e1, e2⟩ := onLast_at (f := f) h
  rw [e2, e1, sumOf_app, sumOf_app]
  unfold sumOf
  simp [hf]
  omega
theorem cnt_parts (k : Wd) (g : CageM → Nat) (h0 : g ⟨[], [], []⟩ = 0) (hk : k = kV ∨ k = kF ∨ k = kCrease)
    (hv : ∀ c n, g { c with verts := c.verts ++ [n] } = g c + if k = kV then 1 else 0) (hf : ∀ c n, g { c with faces := c.faces ++ [n] } = g c + if k = kF then 1 else 0) (hc : ∀ c n, g { c with creases := c.creases ++ [n] } = g c + if k = kCrease then 1 else 0)
    (l : List (Nat × List Wd)) (sc sc' : Scn) (h : runS sc l = .ok sc') : sumOf g sc'.cages = sumOf g sc.cages + cnt k l := by
  refine cnt_run k (fun sc => sumOf g sc.cages) (fun sc ws sc' a => ?_) l sc sc' h
  cases a with
  | vert ws n c h1 h2 h3 h4 h5 =>
    simp only
    rw [onLast_sum g _ _ _ c h3 (hv c n)]
    simp only [List.head?_cons, Option.some.injEq]
    congr 1
    by_cases q : k = kV
    · rw [if_pos q, if_pos q.symm]
    · rw [if_neg q, if_neg (fun e => q e.symm)]
  | face ws n c h1 h2 h2' h3 h4 h5 =>
    simp only
    rw [onLast_sum g _ _ _ c h3 (hf c n)]
    simp only [List.head?_cons, Option.some.injEq]
    congr 1
    by_cases q : k = kF
    · rw [if_pos q, if_pos q.symm]
    · rw [if_neg q, if_neg (fun e => q e.symm)]
  | crease ws n c h1 h2 h3 h4 h5 =>
    simp only
    rw [onLast_sum g _ _ _ c h3 (hc c n)]
    simp only [List.head?_cons, Option.some.injEq]
    congr 1
    by_cases q : k = kCrease
    · rw [if_pos q, if_pos q.symm]
    · rw [if_neg q, if_neg (fun e => q e.symm)]
  | cage name mat w3 w4 tex w6 n i h1 h2 h3 h4 h5 h6 h7 h8 h9 =>
    simp only
    rw [sumOf_app]
    have : sumOf g [⟨[], [], []⟩] = 0 := by unfold sumOf; simp [h0]
    rw [this]
    rcases hk with rfl | rfl | rfl <;> simp [kCage, kV, kF, kCrease]
  | _ => rcases hk with rfl | rfl | rfl <;> simp [kCamera, kSky, kLight, kTexture, kMaterial, kCage, kV, kF, kCrease]
/-! lights and the sky may stand anywhere -/
def setLS (sc : Scn) (L : List (List Int)) (S : Option (List Int)) : Scn := { sc with lights := L, sky := S }
def isLS (q : Nat × List Wd) : Bool := headIs kLight q || headIs kSky q
theorem ls_line {sc sc' : Scn} {ws : List Wd} (h : lineF sc ws = .ok sc') (hl : ws.head? = some kLight ∨ ws.head? = some kSky) (t : Scn) : lineF (setLS t sc.lights sc.sky) ws = .ok (setLS t sc'.lights sc'.sky) ∧ ∀ L S, setLS sc' L S = setLS sc L S := by
  have a := lineF_adds h
  cases a with
  | sky ws n h1 h2 h3 h4 =>
    refine ⟨?_, fun L S => rfl⟩
    rw [lineF_cons, if_neg (by decide), if_pos rfl]
    unfold skyF
    rw [h1]
    simp only [setLS, h2, h3, h4, ne_eq, not_true, if_false, Option.isSome_none, Bool.false_eq_true, if_true]
  | light ws n h1 h2 h3 h4 =>
    refine ⟨?_, fun L S => rfl⟩
    rw [lineF_cons, if_neg (by decide), if_neg (by decide), if_pos rfl]
    unfold lightF
    rw [h1]
    simp only [setLS, h2, h4, ne_eq, not_true, if_false, if_true]
    rw [if_neg (by omega)]
  | _ => simp [kCamera, kSky, kLight, kTexture, kMaterial, kCage, kV, kF, kCrease] at hl
def mapLS (L : List (List Int)) (S : Option (List Int)) : Except Nat Scn → Except Nat Scn
  | .error e => .error e
  | .ok t => .ok (setLS t L S)
theorem mapLS_ite (L : List (List Int)) (S : Option (List Int)) (c : Prop) [Decidable c] (a b : Except Nat Scn) : mapLS L S (if c then a else b) = if c then mapLS L S a else mapLS L S b := by split <;> rfl
theorem camF_ls (sc : Scn) (ws : List Wd) (L : List (List Int)) (S : Option (List Int)) : camF (setLS sc L S) ws = mapLS L S (camF sc ws) := by
  unfold camF
  cases numsF ws with
  | none => rfl
  | some n => simp only [mapLS_ite]; rfl
theorem texF_ls (sc : Scn) (ws : List Wd) (L : List (List Int)) (S : Option (List Int)) : texF (setLS sc L S) ws = mapLS L S (texF sc ws) := by
  cases ws with
  | nil => rfl
  | cons name ws =>
    rw [texF_cons, texF_cons]
    cases numsF ws with
    | none => simp only [mapLS_ite]; rfl
    | some n => simp only [mapLS_ite]; rfl
theorem matF_ls (sc : Scn) (ws : List Wd) (L : List (List Int)) (S : Option (List Int)) : matF (setLS sc L S) ws = mapLS L S (matF sc ws) := by
  cases ws with
  | nil => rfl
  | cons name ws =>
    rw [matF_cons, matF_cons]
    cases numsF ws with
    | none => simp only [mapLS_ite]; rfl
    | some n => simp only [mapLS_ite]; rfl
theorem skinF_ls (sc : Scn) (ws : List Wd) (L : List (List Int)) (S : Option (List Int)) : skinF (setLS sc L S) ws = mapLS L S (skinF sc ws) := by
  unfold skinF
  split
  · rename_i name mat w3 w4 tex w6
    cases numsF [w3, w4, w6] with
    | none => simp only [mapLS_ite]; rfl
    | some n => simp only [mapLS_ite]; rfl
  · rfl
theorem partF_ls (sc : Scn) (k : Wd) (ws : List Wd) (L : List (List Int)) (S : Option (List Int)) : partF (setLS sc L S) k ws = mapLS L S (partF sc k ws) := by
  unfold partF
  cases numsF ws with
  | none => rfl
  | some n =>
    have e : (setLS sc L S).cages = sc.cages := rfl
    simp only [mapLS_ite, e]
    cases sc.cages.getLast? with
    | none => rfl
    | some c => simp only [mapLS_ite]; rfl
theorem other_ls (sc : Scn) (ws : List Wd) (L : List (List Int)) (S : Option (List Int)) (hl : ¬ (ws.head? = some kLight ∨ ws.head? = some kSky)) : lineF (setLS sc L S) ws = mapLS L S (lineF sc ws) := by
  cases ws with
  | nil => rfl
  | cons k ws =>
    simp only [List.head?_cons, Option.some.injEq, not_or] at hl
    rw [lineF_cons, lineF_cons, if_neg hl.2, if_neg hl.1, if_neg hl.2, if_neg hl.1]
    simp only [mapLS_ite, camF_ls, texF_ls, matF_ls, skinF_ls, partF_ls]
    rfl
theorem other_line {sc sc' : Scn} {ws : List Wd} (h : lineF sc ws = .ok sc') (hl : ¬ (ws.head? = some kLight ∨ ws.head? = some kSky)) (L : List (List Int)) (S : Option (List Int)) : lineF (setLS sc L S) ws = .ok (setLS sc' L S) ∧ sc'.lights = sc.lights ∧ sc'.sky = sc.sky := by
  refine ⟨by rw [other_ls sc ws L S hl, h]; rfl, ?_⟩
  have a := lineF_adds h
  cases a <;> simp_all
theorem isLS_iff (q : Nat × List Wd) : isLS q = true ↔ (q.2.head? = some kLight ∨ q.2.head? = some kSky) := by unfold isLS headIs; simp
/-- The same words, whatever the numbers. -/
def noNo (l : List (Nat × List Wd)) : List (List Wd) := l.map (·.2)
theorem run_words : ∀ (l m : List (Nat × List Wd)) (sc sc' : Scn), noNo l = noNo m → runS sc l = .ok sc' → runS sc m = .ok sc'
  | [], [], sc, sc', _, h => h
  | [], q :: m, sc, sc', h, _ => by cases h
  | q :: l, [], sc, sc', h, _ => by cases h
  | q :: l, p :: m, sc, sc', h, hr => by
    unfold noNo at h
    simp only [List.map_cons, List.cons.injEq] at h
    unfold runS at hr ⊢
    rw [← h.1]
    cases e : lineF sc q.2 with
    | error n => rw [e] at hr; cases hr
    | ok s2 => rw [e] at hr; exact run_words l m s2 sc' h.2 hr
theorem run_ls : ∀ (l : List (Nat × List Wd)) (sc sc' : Scn), runS sc l = .ok sc' →
    (∀ t, runS (setLS t sc.lights sc.sky) (l.filter isLS) = .ok (setLS t sc'.lights sc'.sky)) ∧ ∀ L S, runS (setLS sc L S) (l.filter fun q => !isLS q) = .ok (setLS sc' L S)
  | [], sc, sc', h => by unfold runS at h; injection h with h; subst h; exact ⟨fun t => rfl, fun L S => rfl⟩
  | q :: l, sc, sc', h => by
    unfold runS at h
    cases e : lineF sc q.2 with
    | error n => rw [e] at h; cases h
    | ok s2 =>
      rw [e] at h
      obtain ⟨i1, i2⟩ := run_ls l s2 sc' h
      by_cases q1 : isLS q = true
      · have hl := (isLS_iff q).1 q1
        refine ⟨fun t => ?_, fun L S => ?_⟩
        · rw [List.filter_cons, if_pos q1]
          unfold runS
          rw [(ls_line e hl t).1]
          exact i1 t
        · rw [List.filter_cons, if_neg (by simp [q1])]
          have k := (ls_line e hl sc).2 L S
          rw [← k]
          exact i2 L S
      · have hl : ¬ (q.2.head? = some kLight ∨ q.2.head? = some kSky) := fun k => q1 ((isLS_iff q).2 k)
        obtain ⟨_, k1, k2⟩ := other_line e hl sc.lights sc.sky
        refine ⟨fun t => ?_, fun L S => ?_⟩
        · rw [List.filter_cons, if_neg q1, ← k1, ← k2]
          exact i1 t
        · rw [List.filter_cons, if_pos (by simp [q1])]
          unfold runS
          rw [(other_line e hl L S).1]
          exact i2 L S
/-- Lines of lights and of the sky ahead of all others, or behind them. -/
theorem scene_order {l m1 m2 : List (Nat × List Wd)} {sc : Scn} (h : sceneF l = .ok sc) (h1 : noNo m1 = noNo (l.filter isLS ++ l.filter fun q => !isLS q)) (h2 : noNo m2 = noNo ((l.filter fun q => !isLS q) ++ l.filter isLS)) : sceneF m1 = .ok sc ∧ sceneF m2 = .ok sc := by
  unfold sceneF at h
  cases e : runS scn0 l with
  | error n => rw [e] at h; cases h
  | ok s2 =>
    rw [e] at h
    simp only at h
    split at h
    · rename_i hc
      injection h with h; subst h
      obtain ⟨i1, i2⟩ := run_ls l scn0 s2 e
      have a1 := i1 scn0
      have e0 : setLS scn0 scn0.lights scn0.sky = scn0 := rfl
      have e2 : setLS s2 s2.lights s2.sky = s2 := rfl
      rw [e0] at a1
      have r1 : runS scn0 (l.filter isLS ++ l.filter fun q => !isLS q) = .ok s2 := by
        rw [runS_app, a1]
        simp only
        rw [i2, e2]
      have r2 : runS scn0 ((l.filter fun q => !isLS q) ++ l.filter isLS) = .ok s2 := by
        have a2 := i2 scn0.lights scn0.sky
        rw [e0] at a2
        rw [runS_app, a2]
        simp only
        have a3 := i1 s2
        rw [a3, e2]
      unfold sceneF
      rw [run_words _ _ _ _ h1.symm r1, run_words _ _ _ _ h2.symm r2]
      simp only [hc, if_true]
      exact ⟨trivial, trivial⟩
    · cases h
end Go.Proofs.YtdkgbdecmgligaaGreatDoor
