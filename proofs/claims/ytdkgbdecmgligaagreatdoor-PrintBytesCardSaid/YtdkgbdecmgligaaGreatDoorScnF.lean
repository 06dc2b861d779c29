/- A scene's text without its last line (math). -/
import Derived.Test.YtdkgbdecmgligaaGreatDoorMScnMB
import Derived.Test.YtdkgbdecmgligaaGreatDoorLexT
namespace Go.Proofs.YtdkgbdecmgligaaGreatDoor
set_option linter.unusedVariables false
set_option linter.unusedSimpArgs false
def toW (o : List (Nat × List (List Nat))) : List (Nat × List Wd) := o.map fun q => (q.1, q.2.map fun w => w.map UInt8.ofNat)
theorem nb_back (w : Wd) : (nb w).map UInt8.ofNat = w := by unfold nb; simp [Function.comp_def]
/-- A row of lines, told in bytes. -/
def outW (ls : List Ln) : List (Nat × List Wd) := ls.map fun q => (q.no, q.words)
theorem outW_of {ls : List Ln} {o : List (Nat × List (List Nat))} (h : outOf ls = o) : outW ls = toW o := by
  subst h
  unfold outW toW outOf
  simp [Function.comp_def, nb_back]
/-- The scene of a text. -/
def sceneT (l : List UInt8) : Except (Nat × Nat) Scn := match linesP 1 [] (spl l) with
  | .error n => .error (n, 10)
  | .ok o => sceneF (toW o)
def E15 (x : Except Nat Scn) : Prop := ∀ e, x = .error e → 10 ≤ e ∧ e ≤ 15
theorem E15_ite (c : Prop) [Decidable c] (a b : Except Nat Scn) (ha : E15 a) (hb : E15 b) : E15 (if c then a else b) := by split <;> assumption
theorem E15_err (n : Nat) (h : 10 ≤ n ∧ n ≤ 15) : E15 (.error n) := fun e he => by injection he with he; omega
theorem E15_ok (sc : Scn) : E15 (.ok sc) := fun e he => by cases he
theorem E15_cam (sc : Scn) (ws : List Wd) : E15 (camF sc ws) := by
  unfold camF
  cases numsF ws <;> simp only <;> (repeat' first | apply E15_ite | exact E15_err _ (by omega) | exact E15_ok _)
theorem E15_sky (sc : Scn) (ws : List Wd) : E15 (skyF sc ws) := by
  unfold skyF
  cases numsF ws <;> simp only <;> (repeat' first | apply E15_ite | exact E15_err _ (by omega) | exact E15_ok _)
theorem E15_light (sc : Scn) (ws : List Wd) : E15 (lightF sc ws) := by
  unfold lightF
  cases numsF ws <;> simp only <;> (repeat' first | apply E15_ite | exact E15_err _ (by omega) | exact E15_ok _)
theorem E15_tex (sc : Scn) (ws : List Wd) : E15 (texF sc ws) := by
  cases ws with
  | nil => exact E15_err 10 (by omega)
  | cons name ws =>
    rw [texF_cons]
    cases numsF ws <;> simp only <;> (repeat' first | apply E15_ite | exact E15_err _ (by omega) | exact E15_ok _)
theorem E15_mat (sc : Scn) (ws : List Wd) : E15 (matF sc ws) := by
  cases ws with
  | nil => exact E15_err 10 (by omega)
  | cons name ws =>
    rw [matF_cons]
    cases numsF ws <;> simp only <;> (repeat' first | apply E15_ite | exact E15_err _ (by omega) | exact E15_ok _)
theorem E15_skin (sc : Scn) (ws : List Wd) : E15 (skinF sc ws) := by
  unfold skinF
  split
  · rename_i name mat w3 w4 tex w6
    cases numsF [w3, w4, w6] <;> simp only <;> (repeat' first | apply E15_ite | exact E15_err _ (by omega) | exact E15_ok _)
  · exact E15_err 10 (by omega)
theorem E15_part (sc : Scn) (k : Wd) (ws : List Wd) : E15 (partF sc k ws) := by
  unfold partF
  cases numsF ws with
  | none => exact E15_err 10 (by omega)
  | some n =>
    simp only
    apply E15_ite
    · exact E15_err 10 (by omega)
    · cases sc.cages.getLast? <;> simp only <;> (repeat' first | apply E15_ite | exact E15_err _ (by omega) | exact E15_ok _)
theorem line_err {sc : Scn} {ws : List Wd} {e : Nat} (h : lineF sc ws = .error e) : 10 ≤ e ∧ e ≤ 15 := by
  cases ws with
  | nil => unfold lineF at h; injection h with h; omega
  | cons k ws =>
    rw [lineF_cons] at h
    have k1 : E15 (if k = kCamera then camF sc ws else if k = kSky then skyF sc ws else if k = kLight then lightF sc ws else if k = kTexture then texF sc ws else if k = kMaterial then matF sc ws else if k = kCage then skinF sc ws else if k = kV ∨ k = kF ∨ k = kCrease then partF sc k ws else .error 10) :=
      E15_ite _ _ _ (E15_cam _ _) (E15_ite _ _ _ (E15_sky _ _) (E15_ite _ _ _ (E15_light _ _) (E15_ite _ _ _ (E15_tex _ _) (E15_ite _ _ _ (E15_mat _ _) (E15_ite _ _ _ (E15_skin _ _) (E15_ite _ _ _ (E15_part _ _ _) (E15_err 10 (by omega))))))))
    exact k1 e h
theorem run_err : ∀ (l : List (Nat × List Wd)) (sc : Scn) (n e : Nat), runS sc l = .error (n, e) → (10 ≤ e ∧ e ≤ 15) ∧ ∃ q ∈ l, q.1 = n
  | [], sc, n, e, h => by unfold runS at h; cases h
  | q :: l, sc, n, e, h => by
    unfold runS at h
    cases k : lineF sc q.2 with
    | error k2 =>
      rw [k] at h
      injection h with h
      injection h with h1 h2
      subst h1 h2
      exact ⟨line_err k, q, by simp, rfl⟩
    | ok s2 =>
      rw [k] at h
      obtain ⟨h1, p, hp, h2⟩ := run_err l s2 n e h
      exact ⟨h1, p, by simp [hp], h2⟩
theorem linesP_pos : ∀ (P : List (List UInt8)) (n : Nat) (O o : List (Nat × List (List Nat))), linesP n O P = .ok o → 1 ≤ n → (∀ q ∈ O, 1 ≤ q.1) → ∀ q ∈ o, 1 ≤ q.1
  | [], n, O, o, h, hn, hO => by unfold linesP at h; injection h with h; subst h; exact hO
  | p :: P, n, O, o, h, hn, hO => by
    rw [linesP_cons] at h
    split at h
    · refine linesP_pos P (n + 1) _ o h (by omega) fun q hq => ?_
      unfold lineO at hq
      split at hq
      · exact hO q hq
      · rcases List.mem_append.1 hq with hq | hq
        · exact hO q hq
        · rw [List.mem_singleton] at hq
          subst hq
          exact hn
    · cases h
theorem linesP_err1 : ∀ (P : List (List UInt8)) (n k : Nat) (O : List (Nat × List (List Nat))), linesP n O P = .error k → n ≤ k
  | [], n, k, O, h => by unfold linesP at h; cases h
  | p :: P, n, k, O, h => by
    rw [linesP_cons] at h
    split at h
    · have := linesP_err1 P _ _ _ h
      omega
    · injection h with h; omega
theorem cam_keeps {sc sc' : Scn} {ws : List Wd} (h : Adds sc ws sc') (hc : sc.cam.isSome = true) : sc'.cam.isSome = true := by
  cases h <;> simp_all
theorem cam_run : ∀ (l : List (Nat × List Wd)) (sc sc' : Scn), runS sc l = .ok sc' → sc.cam.isSome = true → sc'.cam.isSome = true
  | [], sc, sc', h, hc => by unfold runS at h; injection h with h; subst h; exact hc
  | q :: l, sc, sc', h, hc => by
    unfold runS at h
    cases e : lineF sc q.2 with
    | error n => rw [e] at h; cases h
    | ok s2 => rw [e] at h; exact cam_run l s2 sc' h (cam_keeps (lineF_adds e) hc)
theorem toW_app (a b : List (Nat × List (List Nat))) : toW (a ++ b) = toW a ++ toW b := by unfold toW; simp
theorem spl_one : ∀ (t : List UInt8), (∀ c ∈ t, c ≠ 10) → spl t = [t]
  | [], _ => rfl
  | c :: t, h => by
    unfold spl
    rw [if_neg (h c (by simp)), spl_one t fun x hx => h x (by simp [hx])]
/-- With one line more. -/
theorem fronts_run (s t : ByteArray) (ht : ∀ c ∈ t.data.toList, c ≠ 10) :
    (∃ n e, sceneT s.data.toList = .error (n, e) ∧ 1 ≤ n ∧ (10 ≤ e ∧ e ≤ 15) ∧ (sceneT (s ++ (⟨#[10]⟩ : ByteArray) ++ t).data.toList = .error (n, e) ∨ ∃ m, sceneT (s ++ (⟨#[10]⟩ : ByteArray) ++ t).data.toList = .error (m, 10))) ∨
    (sceneT s.data.toList = .error (0, 15) ∧ ((∃ e, (10 ≤ e ∧ e ≤ 15) ∧ sceneT (s ++ (⟨#[10]⟩ : ByteArray) ++ t).data.toList = .error (ends (nb s.data.toList) + 2, e)) ∨ sceneT (s ++ (⟨#[10]⟩ : ByteArray) ++ t).data.toList = .error (0, 15) ∨ ∃ sc, sceneT (s ++ (⟨#[10]⟩ : ByteArray) ++ t).data.toList = .ok sc)) ∨
    ∃ sc, sceneT s.data.toList = .ok sc ∧ ((∃ e, (10 ≤ e ∧ e ≤ 15) ∧ sceneT (s ++ (⟨#[10]⟩ : ByteArray) ++ t).data.toList = .error (ends (nb s.data.toList) + 2, e)) ∨ ∃ sc, sceneT (s ++ (⟨#[10]⟩ : ByteArray) ++ t).data.toList = .ok sc) := by
  have h1 := spl_one t.data.toList ht
  rcases behind_run s t with ⟨n, e1, e3, e2⟩ | ⟨a, e1, ⟨m, e2, e3⟩ | ⟨b, e2, e3⟩⟩
  · left
    refine ⟨n, 10, by unfold sceneT; rw [e1], linesP_err1 _ _ _ _ e1, by omega, .inl (by unfold sceneT; rw [e3])⟩
  · -- the new line has a byte that a text may not have
    have hm : m = 1 := by
      rw [h1] at e2
      rw [linesP_cons] at e2
      split at e2
      · unfold linesP at e2; cases e2
      · injection e2 with e2; exact e2.symm
    subst hm
    have f : sceneT (s ++ (⟨#[10]⟩ : ByteArray) ++ t).data.toList = .error (ends (nb s.data.toList) + 2, 10) := by
      unfold sceneT; rw [e3]; simp only; congr 2; omega
    have ea : sceneT s.data.toList = sceneF (toW a) := by unfold sceneT; rw [e1]
    rw [f, ea]
    unfold sceneF
    cases q : runS scn0 (toW a) with
    | error k =>
      obtain ⟨n, e⟩ := k
      obtain ⟨k1, p, hp, k2⟩ := run_err _ _ _ _ q
      left
      refine ⟨n, e, rfl, ?_, k1, .inr ⟨_, rfl⟩⟩
      unfold toW at hp
      obtain ⟨x, hx, rfl⟩ := List.mem_map.1 hp
      have := linesP_pos _ _ _ _ e1 (by omega) (fun q hq => by cases hq) x hx
      rw [← k2]; exact this
    | ok sc =>
      right
      by_cases hc : sc.cam.isSome = true
      · right
        exact ⟨sc, by simp only [hc, if_true], .inl ⟨10, by omega, rfl⟩⟩
      · left
        exact ⟨by simp only [hc]; rfl, .inl ⟨10, by omega, rfl⟩⟩
  · have ea : sceneT s.data.toList = sceneF (toW a) := by unfold sceneT; rw [e1]
    have ef : sceneT (s ++ (⟨#[10]⟩ : ByteArray) ++ t).data.toList = sceneF (toW a ++ toW (bumpO (ends (nb s.data.toList) + 1) b)) := by unfold sceneT; rw [e3]; simp only; rw [toW_app]
    have hb : ∀ q ∈ toW (bumpO (ends (nb s.data.toList) + 1) b), q.1 = ends (nb s.data.toList) + 2 := fun q hq => by
      unfold toW bumpO at hq
      obtain ⟨x, hx, rfl⟩ := List.mem_map.1 hq
      obtain ⟨y, hy, rfl⟩ := List.mem_map.1 hx
      have p1 := linesP_pos _ _ _ _ e2 (by omega) (fun q hq => by cases hq) y hy
      have p2 := linesP_no _ 1 1 [] b e2 (fun q hq => by cases hq) (by rw [h1]; simp) y hy
      simp only
      omega
    rw [ea, ef]
    unfold sceneF
    rw [runS_app]
    cases q : runS scn0 (toW a) with
    | error k =>
      obtain ⟨n, e⟩ := k
      obtain ⟨k1, p, hp, k2⟩ := run_err _ _ _ _ q
      left
      refine ⟨n, e, rfl, ?_, k1, .inl rfl⟩
      unfold toW at hp
      obtain ⟨x, hx, rfl⟩ := List.mem_map.1 hp
      have := linesP_pos _ _ _ _ e1 (by omega) (fun q hq => by cases hq) x hx
      rw [← k2]; exact this
    | ok sc =>
      right
      simp only
      cases q2 : runS sc (toW (bumpO (ends (nb s.data.toList) + 1) b)) with
      | error k =>
        obtain ⟨n, e⟩ := k
        obtain ⟨k1, p, hp, k2⟩ := run_err _ _ _ _ q2
        have hn := hb p hp
        rw [k2] at hn
        subst hn
        by_cases hc : sc.cam.isSome = true
        · right
          exact ⟨sc, by simp only [hc, if_true], .inl ⟨e, k1, rfl⟩⟩
        · left
          exact ⟨by simp only [hc]; rfl, .inl ⟨e, k1, rfl⟩⟩
      | ok sc' =>
        simp only
        by_cases hc : sc.cam.isSome = true
        · right
          have hc' := cam_run _ _ _ q2 hc
          exact ⟨sc, by simp only [hc, if_true], .inr ⟨sc', by simp only [hc', if_true]⟩⟩
        · left
          by_cases hc' : sc'.cam.isSome = true
          · exact ⟨by simp only [hc]; rfl, .inr (.inr ⟨sc', by simp only [hc', if_true]⟩)⟩
          · exact ⟨by simp only [hc]; rfl, .inr (.inl (by simp only [hc']; rfl))⟩
end Go.Proofs.YtdkgbdecmgligaaGreatDoor
