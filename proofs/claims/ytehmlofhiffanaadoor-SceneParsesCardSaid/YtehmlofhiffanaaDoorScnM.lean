/- A scene out of lines of words, step by step (math). -/
import Derived.Test.YtehmlofhiffanaaDoorMLexA
import Derived.Test.YtehmlofhiffanaaDoorLexM2
namespace Go.Proofs.YtehmlofhiffanaaDoor
set_option linter.unusedVariables false
set_option linter.unusedSimpArgs false
abbrev Wd := List UInt8
def nW (w : Wd) : Int × Bool := numV ⟨w.toArray⟩
def isN (w : Wd) : Bool := nameB ⟨w.toArray⟩
/-- Words as numbers, if all are. -/
def numsF : List Wd → Option (List Int)
  | [] => some []
  | w :: ws => if (nW w).2 then (numsF ws).map ((nW w).1 :: ·) else none
/-- From one place on up to another all are within bounds. -/
def wi (n : List Int) (a b : Nat) (lo hi : Int) : Bool := ((n.take b).drop a).all fun x => decide (lo ≤ x) && decide (x ≤ hi)
structure SkinM where
  name : Wd
  mat : Nat
  levels : Int
  unit : Int
  tex : Int
  height : Int
structure CageM where
  verts : List (List Int)
  faces : List (List Int)
  creases : List (List Int)
structure Scn where
  cam : Option (List Int)
  sky : Option (List Int)
  lights : List (List Int)
  mats : List (Wd × List Int)
  texs : List (Wd × List Int)
  skins : List SkinM
  cages : List CageM
def scn0 : Scn := ⟨none, none, [], [], [], [], []⟩
def kCamera : Wd := [99, 97, 109, 101, 114, 97]
def kSky : Wd := [115, 107, 121]
def kLight : Wd := [108, 105, 103, 104, 116]
def kTexture : Wd := [116, 101, 120, 116, 117, 114, 101]
def kMaterial : Wd := [109, 97, 116, 101, 114, 105, 97, 108]
def kCage : Wd := [99, 97, 103, 101]
def kV : Wd := [118]
def kF : Wd := [102]
def kCrease : Wd := [99, 114, 101, 97, 115, 101]
def kNo : Wd := [45]
/-- The first place of a name. -/
def place (name : Wd) : List Wd → Option Nat
  | [] => none
  | x :: l => if x = name then some 0 else (place name l).map (· + 1)
def placeI (name : Wd) (l : List Wd) : Int := match place name l with | none => -1 | some i => i
def camF (sc : Scn) (ws : List Wd) : Except Nat Scn := match numsF ws with
  | none => .error 10
  | some n => if n.length ≠ 16 then .error 10 else if sc.cam.isSome then .error 12
    else if (wi n 0 6 (-16384) 16384 && wi n 6 12 (-32) 32 && wi n 12 14 1 64 && wi n 14 15 1 4 && wi n 15 16 0 8) then .ok { sc with cam := some n } else .error 11
def skyF (sc : Scn) (ws : List Wd) : Except Nat Scn := match numsF ws with
  | none => .error 10
  | some n => if n.length ≠ 3 then .error 10 else if sc.sky.isSome then .error 12
    else if wi n 0 3 0 255 then .ok { sc with sky := some n } else .error 11
def lightF (sc : Scn) (ws : List Wd) : Except Nat Scn := match numsF ws with
  | none => .error 10
  | some n => if n.length ≠ 6 then .error 10 else if 4 ≤ sc.lights.length then .error 13
    else if (wi n 0 3 (-16384) 16384 && wi n 3 6 0 255) then .ok { sc with lights := sc.lights ++ [n] } else .error 11
def texF (sc : Scn) : List Wd → Except Nat Scn
  | name :: ws => if ws.length < 2 ∨ isN name = false then .error 10 else match numsF ws with
    | none => .error 10
    | some n => if n.getD 0 0 * n.getD 1 0 ≠ (n.length : Int) - 2 then .error 10 else if 4 ≤ sc.texs.length then .error 13
      else if (place name (sc.texs.map (·.1))).isSome then .error 12
      else if (wi n 0 2 1 16 && wi n 2 n.length 0 255) then .ok { sc with texs := sc.texs ++ [(name, n)] } else .error 11
  | [] => .error 10
def matF (sc : Scn) : List Wd → Except Nat Scn
  | name :: ws => if ws.length ≠ 8 ∨ isN name = false then .error 10 else match numsF ws with
    | none => .error 10
    | some n => if 8 ≤ sc.mats.length then .error 13
      else if (place name (sc.mats.map (·.1))).isSome then .error 12
      else if (wi n 0 3 0 255 && wi n 3 4 0 256 && wi n 4 5 1 64 && wi n 5 7 0 256 && decide (n.getD 5 0 + n.getD 6 0 ≤ 256) && wi n 7 8 64 1024) then .ok { sc with mats := sc.mats ++ [(name, n)] } else .error 11
  | [] => .error 10
def skinF (sc : Scn) : List Wd → Except Nat Scn
  | [name, mat, w3, w4, tex, w6] =>
    if isN name = false ∨ isN mat = false ∨ (tex ≠ kNo ∧ isN tex = false) then .error 10 else match numsF [w3, w4, w6] with
    | none => .error 10
    | some n => if 8 ≤ sc.skins.length then .error 13
      else if (place name (sc.skins.map (·.name))).isSome ∨ place mat (sc.mats.map (·.1)) = none ∨ (tex ≠ kNo ∧ place tex (sc.texs.map (·.1)) = none) then .error 12
      else if (wi n 0 1 0 2 && wi n 1 2 1 65536 && wi n 2 3 0 255) then
        .ok { sc with skins := sc.skins ++ [⟨name, (place mat (sc.mats.map (·.1))).getD 0, n.getD 0 0, n.getD 1 0, placeI tex (sc.texs.map (·.1)), n.getD 2 0⟩], cages := sc.cages ++ [⟨[], [], []⟩] } else .error 11
  | _ => .error 10
/-- The last one of a list made anew. -/
def onLast (f : CageM → CageM) (l : List CageM) : List CageM := match l.getLast? with | none => l | some c => l.dropLast ++ [f c]
def partF (sc : Scn) (k : Wd) (ws : List Wd) : Except Nat Scn := match numsF ws with
  | none => .error 10
  | some n => if (k ≠ kF ∧ n.length ≠ 3) ∨ (k = kF ∧ (n.length < 3 ∨ 8 < n.length)) then .error 10
    else match sc.cages.getLast? with
    | none => .error 15
    | some c =>
      if k = kV then (if 64 ≤ c.verts.length then .error 13 else if wi n 0 3 (-16384) 16384 then .ok { sc with cages := onLast (fun c => { c with verts := c.verts ++ [n] }) sc.cages } else .error 11)
      else if k = kF then (if 64 ≤ c.faces.length then .error 13 else if wi n 0 n.length 0 ((c.verts.length : Int) - 1) then .ok { sc with cages := onLast (fun c => { c with faces := c.faces ++ [n] }) sc.cages } else .error 11)
      else (if 128 ≤ c.creases.length then .error 13 else if (wi n 0 2 0 ((c.verts.length : Int) - 1) && !decide (n.getD 0 0 = n.getD 1 0) && wi n 2 3 1 255) then .ok { sc with cages := onLast (fun c => { c with creases := c.creases ++ [n] }) sc.cages } else .error 11)
def lineF (sc : Scn) : List Wd → Except Nat Scn
  | [] => .error 10
  | k :: ws => if k = kCamera then camF sc ws else if k = kSky then skyF sc ws else if k = kLight then lightF sc ws
    else if k = kTexture then texF sc ws else if k = kMaterial then matF sc ws else if k = kCage then skinF sc ws
    else if k = kV ∨ k = kF ∨ k = kCrease then partF sc k ws else .error 10
theorem texF_cons (sc : Scn) (name : Wd) (ws : List Wd) : texF sc (name :: ws) = if ws.length < 2 ∨ isN name = false then .error 10 else match numsF ws with
    | none => .error 10
    | some n => if n.getD 0 0 * n.getD 1 0 ≠ (n.length : Int) - 2 then .error 10 else if 4 ≤ sc.texs.length then .error 13
      else if (place name (sc.texs.map (·.1))).isSome then .error 12
      else if (wi n 0 2 1 16 && wi n 2 n.length 0 255) then .ok { sc with texs := sc.texs ++ [(name, n)] } else .error 11 := rfl
theorem matF_cons (sc : Scn) (name : Wd) (ws : List Wd) : matF sc (name :: ws) = if ws.length ≠ 8 ∨ isN name = false then .error 10 else match numsF ws with
    | none => .error 10
    | some n => if 8 ≤ sc.mats.length then .error 13
      else if (place name (sc.mats.map (·.1))).isSome then .error 12
      else if (wi n 0 3 0 255 && wi n 3 4 0 256 && wi n 4 5 1 64 && wi n 5 7 0 256 && decide (n.getD 5 0 + n.getD 6 0 ≤ 256) && wi n 7 8 64 1024) then .ok { sc with mats := sc.mats ++ [(name, n)] } else .error 11 := rfl
theorem lineF_cons (sc : Scn) (k : Wd) (ws : List Wd) : lineF sc (k :: ws) = if k = kCamera then camF sc ws else if k = kSky then skyF sc ws else if k = kLight then lightF sc ws
    else if k = kTexture then texF sc ws else if k = kMaterial then matF sc ws else if k = kCage then skinF sc ws
    else if k = kV ∨ k = kF ∨ k = kCrease then partF sc k ws else .error 10 := rfl
/-- Line by line; an error with its line. -/
def runS (sc : Scn) : List (Nat × List Wd) → Except (Nat × Nat) Scn
  | [] => .ok sc
  | q :: l => match lineF sc q.2 with | .error e => .error (q.1, e) | .ok sc' => runS sc' l
theorem runS_app : ∀ (l m : List (Nat × List Wd)) (sc : Scn), runS sc (l ++ m) = (match runS sc l with | .error e => .error e | .ok sc' => runS sc' m)
  | [], m, sc => rfl
  | q :: l, m, sc => by
    simp only [List.cons_append, runS]
    cases lineF sc q.2 with
    | error e => rfl
    | ok sc' => exact runS_app l m sc'
/-- The scene of lines. -/
def sceneF (l : List (Nat × List Wd)) : Except (Nat × Nat) Scn := match runS scn0 l with
  | .error e => .error e
  | .ok sc => if sc.cam.isSome then .ok sc else .error (0, 15)
/-! what a line can do to a scene -/
theorem numsF_len : ∀ (ws : List Wd) (n : List Int), numsF ws = some n → n.length = ws.length
  | [], n, h => by unfold numsF at h; injection h with h; subst h; rfl
  | w :: ws, n, h => by
    unfold numsF at h
    split at h
    · cases e : numsF ws with
      | none => rw [e] at h; cases h
      | some m => rw [e] at h; injection h with h; subst h; simp [numsF_len ws m e]
    · cases h
/-- One line, told by what it adds. -/
inductive Adds (sc : Scn) : List Wd → Scn → Prop
  | camera (ws n) : numsF ws = some n → n.length = 16 → sc.cam = none → (wi n 0 6 (-16384) 16384 && wi n 6 12 (-32) 32 && wi n 12 14 1 64 && wi n 14 15 1 4 && wi n 15 16 0 8) = true → Adds sc (kCamera :: ws) { sc with cam := some n }
  | sky (ws n) : numsF ws = some n → n.length = 3 → sc.sky = none → wi n 0 3 0 255 = true → Adds sc (kSky :: ws) { sc with sky := some n }
  | light (ws n) : numsF ws = some n → n.length = 6 → sc.lights.length < 4 → (wi n 0 3 (-16384) 16384 && wi n 3 6 0 255) = true → Adds sc (kLight :: ws) { sc with lights := sc.lights ++ [n] }
  | texture (name ws n) : numsF ws = some n → isN name = true → 2 ≤ ws.length → n.getD 0 0 * n.getD 1 0 = (n.length : Int) - 2 → sc.texs.length < 4 → place name (sc.texs.map (·.1)) = none → (wi n 0 2 1 16 && wi n 2 n.length 0 255) = true → Adds sc (kTexture :: name :: ws) { sc with texs := sc.texs ++ [(name, n)] }
  | material (name ws n) : numsF ws = some n → isN name = true → ws.length = 8 → sc.mats.length < 8 → place name (sc.mats.map (·.1)) = none → (wi n 0 3 0 255 && wi n 3 4 0 256 && wi n 4 5 1 64 && wi n 5 7 0 256 && decide (n.getD 5 0 + n.getD 6 0 ≤ 256) && wi n 7 8 64 1024) = true → Adds sc (kMaterial :: name :: ws) { sc with mats := sc.mats ++ [(name, n)] }
  | cage (name mat w3 w4 tex w6 n i) : isN name = true → isN mat = true → (tex = kNo ∨ isN tex = true) → numsF [w3, w4, w6] = some n → sc.skins.length < 8 → place name (sc.skins.map (·.name)) = none → place mat (sc.mats.map (·.1)) = some i → (tex = kNo ∨ place tex (sc.texs.map (·.1)) ≠ none) → (wi n 0 1 0 2 && wi n 1 2 1 65536 && wi n 2 3 0 255) = true →
      Adds sc [kCage, name, mat, w3, w4, tex, w6] { sc with skins := sc.skins ++ [⟨name, i, n.getD 0 0, n.getD 1 0, placeI tex (sc.texs.map (·.1)), n.getD 2 0⟩], cages := sc.cages ++ [⟨[], [], []⟩] }
  | vert (ws n c) : numsF ws = some n → n.length = 3 → sc.cages.getLast? = some c → c.verts.length < 64 → wi n 0 3 (-16384) 16384 = true → Adds sc (kV :: ws) { sc with cages := onLast (fun c => { c with verts := c.verts ++ [n] }) sc.cages }
  | face (ws n c) : numsF ws = some n → 3 ≤ n.length → n.length ≤ 8 → sc.cages.getLast? = some c → c.faces.length < 64 → wi n 0 n.length 0 ((c.verts.length : Int) - 1) = true → Adds sc (kF :: ws) { sc with cages := onLast (fun c => { c with faces := c.faces ++ [n] }) sc.cages }
  | crease (ws n c) : numsF ws = some n → n.length = 3 → sc.cages.getLast? = some c → c.creases.length < 128 → (wi n 0 2 0 ((c.verts.length : Int) - 1) && !decide (n.getD 0 0 = n.getD 1 0) && wi n 2 3 1 255) = true → Adds sc (kCrease :: ws) { sc with cages := onLast (fun c => { c with creases := c.creases ++ [n] }) sc.cages }
theorem lineF_adds {sc sc' : Scn} {ws : List Wd} (h : lineF sc ws = .ok sc') : Adds sc ws sc' := by
  cases ws with
  | nil => unfold lineF at h; cases h
  | cons k ws =>
    rw [lineF_cons] at h
    by_cases c1 : k = kCamera
    · rw [if_pos c1] at h; subst c1
      unfold camF at h
      cases e : numsF ws with
      | none => rw [e] at h; cases h
      | some n =>
        rw [e] at h
        simp only at h
        split at h
        · cases h
        split at h
        · cases h
        split at h
        · rename_i a b c
          injection h with h; subst h
          exact .camera ws n e (by omega) (by simpa using b) c
        · cases h
    rw [if_neg c1] at h
    by_cases c2 : k = kSky
    · rw [if_pos c2] at h; subst c2
      unfold skyF at h
      cases e : numsF ws with
      | none => rw [e] at h; cases h
      | some n =>
        rw [e] at h
        simp only at h
        split at h
        · cases h
        split at h
        · cases h
        split at h
        · rename_i a b c
          injection h with h; subst h
          exact .sky ws n e (by omega) (by simpa using b) c
        · cases h
    rw [if_neg c2] at h
    by_cases c3 : k = kLight
    · rw [if_pos c3] at h; subst c3
      unfold lightF at h
      cases e : numsF ws with
      | none => rw [e] at h; cases h
      | some n =>
        rw [e] at h
        simp only at h
        split at h
        · cases h
        split at h
        · cases h
        split at h
        · rename_i a b c
          injection h with h; subst h
          exact .light ws n e (by omega) (by omega) c
        · cases h
    rw [if_neg c3] at h
    by_cases c4 : k = kTexture
    · rw [if_pos c4] at h; subst c4
      cases ws with
      | nil => unfold texF at h; cases h
      | cons name ws =>
        rw [texF_cons] at h
        split at h
        · cases h
        rename_i a
        cases e : numsF ws with
        | none => rw [e] at h; cases h
        | some n =>
          rw [e] at h
          simp only at h
          split at h
          · cases h
          split at h
          · cases h
          split at h
          · cases h
          split at h
          · rename_i b c d f
            injection h with h; subst h
            exact .texture name ws n e (by simp at a; exact a.2) (by simp at a; omega) (by simpa using b) (by omega) (by simpa using d) f
          · cases h
    rw [if_neg c4] at h
    by_cases c5 : k = kMaterial
    · rw [if_pos c5] at h; subst c5
      cases ws with
      | nil => unfold matF at h; cases h
      | cons name ws =>
        rw [matF_cons] at h
        split at h
        · cases h
        rename_i a
        cases e : numsF ws with
        | none => rw [e] at h; cases h
        | some n =>
          rw [e] at h
          simp only at h
          split at h
          · cases h
          split at h
          · cases h
          split at h
          · rename_i b c d
            injection h with h; subst h
            exact .material name ws n e (by simp at a; exact a.2) (by simp at a; omega) (by omega) (by simpa using c) d
          · cases h
    rw [if_neg c5] at h
    by_cases c6 : k = kCage
    · rw [if_pos c6] at h; subst c6
      unfold skinF at h
      split at h
      · rename_i name mat w3 w4 tex w6
        split at h
        · cases h
        rename_i a
        cases e : numsF [w3, w4, w6] with
        | none => rw [e] at h; cases h
        | some n =>
          rw [e] at h
          simp only at h
          split at h
          · cases h
          split at h
          · cases h
          split at h
          · rename_i b c d
            injection h with h; subst h
            simp only [not_or, not_and, Bool.not_eq_false] at a c
            obtain ⟨i, hi⟩ : ∃ i, place mat (sc.mats.map (·.1)) = some i := by
              cases q : place mat (sc.mats.map (·.1)) with
              | none => exact absurd q c.2.1
              | some i => exact ⟨i, rfl⟩
            rw [hi]
            refine .cage name mat w3 w4 tex w6 n i a.1 a.2.1 ?_ e (by omega) (by simpa using c.1) hi ?_ d
            · by_cases q : tex = kNo
              · exact .inl q
              · exact .inr (a.2.2 q)
            · by_cases q : tex = kNo
              · exact .inl q
              · exact .inr (c.2.2 q)
          · cases h
      · cases h
    rw [if_neg c6] at h
    split at h
    · rename_i hk
      unfold partF at h
      cases e : numsF ws with
      | none => rw [e] at h; cases h
      | some n =>
        rw [e] at h
        simp only at h
        split at h
        · cases h
        rename_i a
        cases g : sc.cages.getLast? with
        | none => rw [g] at h; cases h
        | some c =>
          rw [g] at h
          simp only at h
          have kvf : kV ≠ kF := by decide
          have kcf : kCrease ≠ kF := by decide
          have kcv : kCrease ≠ kV := by decide
          rcases hk with rfl | rfl | rfl
          · rw [if_pos rfl] at h
            split at h
            · cases h
            split at h
            · rename_i b d
              injection h with h; subst h
              exact .vert ws n c e (by simp [kvf] at a; exact a) g (by omega) d
            · cases h
          · rw [if_neg (fun q => kvf q.symm), if_pos rfl] at h
            split at h
            · cases h
            split at h
            · rename_i b d
              injection h with h; subst h
              exact .face ws n c e (by simp at a; omega) (by simp at a; omega) g (by omega) d
            · cases h
          · rw [if_neg kcv, if_neg kcf] at h
            split at h
            · cases h
            split at h
            · rename_i b d
              injection h with h; subst h
              exact .crease ws n c e (by simp [kcf] at a; exact a) g (by omega) d
            · cases h
    · cases h
end Go.Proofs.YtehmlofhiffanaaDoor
