/- The program's own scene: a line by its first word. -/
import Derived.Test.YtdkgbdecmgligaaGreatDoorMScnQZ
import Derived.Test.YtdkgbdecmgligaaGreatDoorMScnQ5
import Derived.Test.YtdkgbdecmgligaaGreatDoorMScnQX
namespace Go.Proofs.YtdkgbdecmgligaaGreatDoor
open Go.RowKit
set_option linter.unusedVariables false
set_option linter.unusedSimpArgs false
set_option linter.unnecessarySimpa false

def InvT (sc : Scn) : Prop := InvS sc ∧ sc.mats.length ≤ 8 ∧ sc.texs.length ≤ 4
theorem invT0 : InvT scn0 := ⟨invS0, by decide, by decide⟩
theorem invT_adds {sc sc' : Scn} {ws : List Wd} (h : Adds sc ws sc') (hi : InvT sc) : InvT sc' := by
  refine ⟨inv_adds h hi.1, ?_, ?_⟩
  · have := hi.2.1
    cases h <;> simp_all <;> omega
  · have := hi.2.2
    cases h <;> simp_all <;> omega
theorem invT_line {sc sc' : Scn} {ws : List Wd} (h : lineF sc ws = .ok sc') (hi : InvT sc) : InvT sc' := invT_adds (lineF_adds h) hi
theorem e_of {g : Nat} {TR : TypeId} {W W' : World} {r : Except Nat Scn} {e : Ending} (h : lineP g TR W r e W') : (∃ k : Nat, e = Ending.panicked [{ v := Value.iface 37 (.int .i64 (k : Int)), recovered := false }]) ∨ e = .returned (.tuple #[]) := by
  obtain ⟨_, h⟩ := h
  cases r with
  | error k => exact .inl ⟨k, h.1⟩
  | ok sc' => exact .inr h.1
theorem pcage (W : World) (g n c : Nat) (A : Option Addr) (TR : TypeId) (sc : Scn) (val : Key → Value) (wl : List Wd) (hn : wl.length = n) (hA : SFW W A wl) (hR : RepV g W g TR sc val) (hT : InvT sc) :
    Calls Tryz.prog 84 #[.pointer (some ⟨g, 0, none⟩), .slice A n c] W fun e W' => lineP g TR W (skinF sc wl) e W' := by
  by_cases q : n = 6
  · subst q
    match wl, hn, hA with
    | [name, mat, w3, w4, tex, w6], hn, hA =>
      obtain ⟨b, off, rfl, _, _⟩ := hA (by simp)
      by_cases h1 : isN name = true
      · by_cases h2 : isN mat = true
        · by_cases h3 : tex = kNo ∨ isN tex = true
          · exact pcage_long W g c b off TR sc val name mat w3 w4 tex w6 hA hR h1 h2 h3 (Lib.hid (by have := hT.2.1; omega)) (Lib.hid (by have := hT.2.2; omega)) (Lib.hid hT.1.skins.2)
          · exact pcage_names W g c b off TR sc val name mat w3 w4 tex w6 hA hR (.inr (.inr (by simpa using h3)))
        · exact pcage_names W g c b off TR sc val name mat w3 w4 tex w6 hA hR (.inr (.inl (by simpa using h2)))
      · exact pcage_names W g c b off TR sc val name mat w3 w4 tex w6 hA hR (.inl (by simpa using h1))
  · exact pcage_short W g n c A TR sc val wl hn (by omega) (by simp; omega) hR
theorem eqk0 (a : Wd) : (a == [99, 97, 109, 101, 114, 97]) = decide (a = kCamera) := by
  rw [Bool.eq_iff_iff, beq_iff_eq, decide_eq_true_eq]; rfl
theorem eqt0 (a : Wd) : ((⟨a.toArray⟩ : ByteArray).toList == [99, 97, 109, 101, 114, 97]) = decide (a = kCamera) := by
  rw [ByteArray.toList_eq]; exact eqk0 a
theorem eqk1 (a : Wd) : (a == [115, 107, 121]) = decide (a = kSky) := by
  rw [Bool.eq_iff_iff, beq_iff_eq, decide_eq_true_eq]; rfl
theorem eqt1 (a : Wd) : ((⟨a.toArray⟩ : ByteArray).toList == [115, 107, 121]) = decide (a = kSky) := by
  rw [ByteArray.toList_eq]; exact eqk1 a
theorem eqk2 (a : Wd) : (a == [108, 105, 103, 104, 116]) = decide (a = kLight) := by
  rw [Bool.eq_iff_iff, beq_iff_eq, decide_eq_true_eq]; rfl
theorem eqt2 (a : Wd) : ((⟨a.toArray⟩ : ByteArray).toList == [108, 105, 103, 104, 116]) = decide (a = kLight) := by
  rw [ByteArray.toList_eq]; exact eqk2 a
theorem eqk3 (a : Wd) : (a == [116, 101, 120, 116, 117, 114, 101]) = decide (a = kTexture) := by
  rw [Bool.eq_iff_iff, beq_iff_eq, decide_eq_true_eq]; rfl
theorem eqt3 (a : Wd) : ((⟨a.toArray⟩ : ByteArray).toList == [116, 101, 120, 116, 117, 114, 101]) = decide (a = kTexture) := by
  rw [ByteArray.toList_eq]; exact eqk3 a
theorem eqk4 (a : Wd) : (a == [109, 97, 116, 101, 114, 105, 97, 108]) = decide (a = kMaterial) := by
  rw [Bool.eq_iff_iff, beq_iff_eq, decide_eq_true_eq]; rfl
theorem eqt4 (a : Wd) : ((⟨a.toArray⟩ : ByteArray).toList == [109, 97, 116, 101, 114, 105, 97, 108]) = decide (a = kMaterial) := by
  rw [ByteArray.toList_eq]; exact eqk4 a
theorem eqk5 (a : Wd) : (a == [99, 97, 103, 101]) = decide (a = kCage) := by
  rw [Bool.eq_iff_iff, beq_iff_eq, decide_eq_true_eq]; rfl
theorem eqt5 (a : Wd) : ((⟨a.toArray⟩ : ByteArray).toList == [99, 97, 103, 101]) = decide (a = kCage) := by
  rw [ByteArray.toList_eq]; exact eqk5 a
theorem eqk6 (a : Wd) : (a == [118]) = decide (a = kV) := by
  rw [Bool.eq_iff_iff, beq_iff_eq, decide_eq_true_eq]; rfl
theorem eqt6 (a : Wd) : ((⟨a.toArray⟩ : ByteArray).toList == [118]) = decide (a = kV) := by
  rw [ByteArray.toList_eq]; exact eqk6 a
theorem eqk7 (a : Wd) : (a == [102]) = decide (a = kF) := by
  rw [Bool.eq_iff_iff, beq_iff_eq, decide_eq_true_eq]; rfl
theorem eqt7 (a : Wd) : ((⟨a.toArray⟩ : ByteArray).toList == [102]) = decide (a = kF) := by
  rw [ByteArray.toList_eq]; exact eqk7 a
theorem eqk8 (a : Wd) : (a == [99, 114, 101, 97, 115, 101]) = decide (a = kCrease) := by
  rw [Bool.eq_iff_iff, beq_iff_eq, decide_eq_true_eq]; rfl
theorem eqt8 (a : Wd) : ((⟨a.toArray⟩ : ByteArray).toList == [99, 114, 101, 97, 115, 101]) = decide (a = kCrease) := by
  rw [ByteArray.toList_eq]; exact eqk8 a
end Go.Proofs.YtdkgbdecmgligaaGreatDoor

/- The program's own scene: a line by its first word. -/
namespace Go.Proofs.YtdkgbdecmgligaaGreatDoor
open Go.RowKit
set_option linter.unusedVariables false
set_option linter.unusedSimpArgs false
set_option linter.unnecessarySimpa false

set_option maxRecDepth 100000 in
set_option maxHeartbeats 2000000 in
theorem ptake0 (W : World) (g n c : Nat) (A : Option Addr) (TR : TypeId) (sc : Scn) (val : Key → Value) (ws : List Wd) (hn : ws.length = n) (hl : n ≤ 65537) (hc : n ≤ c) (hA : SFW W A ws) (hR : RepV g W g TR sc val) (hT : InvT sc) : Calls Tryz.prog 56 #[.pointer (some ⟨g, 0, none⟩), .string ⟨(kCamera).toArray⟩, .slice A n c] W fun e W' => lineP g TR W (lineF sc (kCamera :: ws)) e W' := by
  have E0 := eqk0 kCamera
  have T0 := eqt0 kCamera
  rw [show decide (kCamera = kCamera) = true from by decide] at E0 T0
  have CT := Lib.hid (pcamera W g n c A TR sc val ws hn hl hA hR)
  have HL := Lib.hid (show lineF sc (kCamera :: ws) = camF sc ws from rfl)
  clear hA hR hT
  generalize hk : kCamera = k at *
  go_enter Tryz.func56, Tryz.ntmps56
  go_wp2_with (go_at_call 79; (refine CT.out.mono ?_); rintro e W' hp; rcases e_of hp with ⟨kk, rfl⟩ | rfl)
  · refine ⟨rfl, ?_⟩
    rw [HL.out]; exact hp
  · go_end0
    rw [HL.out]; exact hp

set_option maxRecDepth 100000 in
set_option maxHeartbeats 2000000 in
theorem ptake1 (W : World) (g n c : Nat) (A : Option Addr) (TR : TypeId) (sc : Scn) (val : Key → Value) (ws : List Wd) (hn : ws.length = n) (hl : n ≤ 65537) (hc : n ≤ c) (hA : SFW W A ws) (hR : RepV g W g TR sc val) (hT : InvT sc) : Calls Tryz.prog 56 #[.pointer (some ⟨g, 0, none⟩), .string ⟨(kSky).toArray⟩, .slice A n c] W fun e W' => lineP g TR W (lineF sc (kSky :: ws)) e W' := by
  have E0 := eqk0 kSky
  have T0 := eqt0 kSky
  rw [show decide (kSky = kCamera) = false from by decide] at E0 T0
  have E1 := eqk1 kSky
  have T1 := eqt1 kSky
  rw [show decide (kSky = kSky) = true from by decide] at E1 T1
  have CT := Lib.hid (psky W g n c A TR sc val ws hn hl hA hR)
  have HL := Lib.hid (show lineF sc (kSky :: ws) = skyF sc ws from rfl)
  clear hA hR hT
  generalize hk : kSky = k at *
  go_enter Tryz.func56, Tryz.ntmps56
  go_wp2_with (go_at_call 80; (refine CT.out.mono ?_); rintro e W' hp; rcases e_of hp with ⟨kk, rfl⟩ | rfl)
  · refine ⟨rfl, ?_⟩
    rw [HL.out]; exact hp
  · go_end0
    rw [HL.out]; exact hp

set_option maxRecDepth 100000 in
set_option maxHeartbeats 2000000 in
theorem ptake2 (W : World) (g n c : Nat) (A : Option Addr) (TR : TypeId) (sc : Scn) (val : Key → Value) (ws : List Wd) (hn : ws.length = n) (hl : n ≤ 65537) (hc : n ≤ c) (hA : SFW W A ws) (hR : RepV g W g TR sc val) (hT : InvT sc) : Calls Tryz.prog 56 #[.pointer (some ⟨g, 0, none⟩), .string ⟨(kLight).toArray⟩, .slice A n c] W fun e W' => lineP g TR W (lineF sc (kLight :: ws)) e W' := by
  have E0 := eqk0 kLight
  have T0 := eqt0 kLight
  rw [show decide (kLight = kCamera) = false from by decide] at E0 T0
  have E1 := eqk1 kLight
  have T1 := eqt1 kLight
  rw [show decide (kLight = kSky) = false from by decide] at E1 T1
  have E2 := eqk2 kLight
  have T2 := eqt2 kLight
  rw [show decide (kLight = kLight) = true from by decide] at E2 T2
  have CT := Lib.hid (plight W g n c A TR sc val ws hn hl hA hR)
  have HL := Lib.hid (show lineF sc (kLight :: ws) = lightF sc ws from rfl)
  clear hA hR hT
  generalize hk : kLight = k at *
  go_enter Tryz.func56, Tryz.ntmps56
  go_wp2_with (go_at_call 81; (refine CT.out.mono ?_); rintro e W' hp; rcases e_of hp with ⟨kk, rfl⟩ | rfl)
  · refine ⟨rfl, ?_⟩
    rw [HL.out]; exact hp
  · go_end0
    rw [HL.out]; exact hp

set_option maxRecDepth 100000 in
set_option maxHeartbeats 2000000 in
theorem ptake3 (W : World) (g n c : Nat) (A : Option Addr) (TR : TypeId) (sc : Scn) (val : Key → Value) (ws : List Wd) (hn : ws.length = n) (hl : n ≤ 65537) (hc : n ≤ c) (hA : SFW W A ws) (hR : RepV g W g TR sc val) (hT : InvT sc) : Calls Tryz.prog 56 #[.pointer (some ⟨g, 0, none⟩), .string ⟨(kTexture).toArray⟩, .slice A n c] W fun e W' => lineP g TR W (lineF sc (kTexture :: ws)) e W' := by
  have E0 := eqk0 kTexture
  have T0 := eqt0 kTexture
  rw [show decide (kTexture = kCamera) = false from by decide] at E0 T0
  have E1 := eqk1 kTexture
  have T1 := eqt1 kTexture
  rw [show decide (kTexture = kSky) = false from by decide] at E1 T1
  have E2 := eqk2 kTexture
  have T2 := eqt2 kTexture
  rw [show decide (kTexture = kLight) = false from by decide] at E2 T2
  have E3 := eqk3 kTexture
  have T3 := eqt3 kTexture
  rw [show decide (kTexture = kTexture) = true from by decide] at E3 T3
  have CT := Lib.hid (ptexture W g n c A TR sc val ws hn hl hc hA hR)
  have HL := Lib.hid (show lineF sc (kTexture :: ws) = texF sc ws from rfl)
  clear hA hR hT
  generalize hk : kTexture = k at *
  go_enter Tryz.func56, Tryz.ntmps56
  go_wp2_with (go_at_call 82; (refine CT.out.mono ?_); rintro e W' hp; rcases e_of hp with ⟨kk, rfl⟩ | rfl)
  · refine ⟨rfl, ?_⟩
    rw [HL.out]; exact hp
  · go_end0
    rw [HL.out]; exact hp

set_option maxRecDepth 100000 in
set_option maxHeartbeats 2000000 in
theorem ptake4 (W : World) (g n c : Nat) (A : Option Addr) (TR : TypeId) (sc : Scn) (val : Key → Value) (ws : List Wd) (hn : ws.length = n) (hl : n ≤ 65537) (hc : n ≤ c) (hA : SFW W A ws) (hR : RepV g W g TR sc val) (hT : InvT sc) : Calls Tryz.prog 56 #[.pointer (some ⟨g, 0, none⟩), .string ⟨(kMaterial).toArray⟩, .slice A n c] W fun e W' => lineP g TR W (lineF sc (kMaterial :: ws)) e W' := by
  have E0 := eqk0 kMaterial
  have T0 := eqt0 kMaterial
  rw [show decide (kMaterial = kCamera) = false from by decide] at E0 T0
  have E1 := eqk1 kMaterial
  have T1 := eqt1 kMaterial
  rw [show decide (kMaterial = kSky) = false from by decide] at E1 T1
  have E2 := eqk2 kMaterial
  have T2 := eqt2 kMaterial
  rw [show decide (kMaterial = kLight) = false from by decide] at E2 T2
  have E3 := eqk3 kMaterial
  have T3 := eqt3 kMaterial
  rw [show decide (kMaterial = kTexture) = false from by decide] at E3 T3
  have E4 := eqk4 kMaterial
  have T4 := eqt4 kMaterial
  rw [show decide (kMaterial = kMaterial) = true from by decide] at E4 T4
  have CT := Lib.hid (pmaterial W g n c A TR sc val ws hn hc hA hR)
  have HL := Lib.hid (show lineF sc (kMaterial :: ws) = matF sc ws from rfl)
  clear hA hR hT
  generalize hk : kMaterial = k at *
  go_enter Tryz.func56, Tryz.ntmps56
  go_wp2_with (go_at_call 83; (refine CT.out.mono ?_); rintro e W' hp; rcases e_of hp with ⟨kk, rfl⟩ | rfl)
  · refine ⟨rfl, ?_⟩
    rw [HL.out]; exact hp
  · go_end0
    rw [HL.out]; exact hp

set_option maxRecDepth 100000 in
set_option maxHeartbeats 2000000 in
theorem ptake5 (W : World) (g n c : Nat) (A : Option Addr) (TR : TypeId) (sc : Scn) (val : Key → Value) (ws : List Wd) (hn : ws.length = n) (hl : n ≤ 65537) (hc : n ≤ c) (hA : SFW W A ws) (hR : RepV g W g TR sc val) (hT : InvT sc) : Calls Tryz.prog 56 #[.pointer (some ⟨g, 0, none⟩), .string ⟨(kCage).toArray⟩, .slice A n c] W fun e W' => lineP g TR W (lineF sc (kCage :: ws)) e W' := by
  have E0 := eqk0 kCage
  have T0 := eqt0 kCage
  rw [show decide (kCage = kCamera) = false from by decide] at E0 T0
  have E1 := eqk1 kCage
  have T1 := eqt1 kCage
  rw [show decide (kCage = kSky) = false from by decide] at E1 T1
  have E2 := eqk2 kCage
  have T2 := eqt2 kCage
  rw [show decide (kCage = kLight) = false from by decide] at E2 T2
  have E3 := eqk3 kCage
  have T3 := eqt3 kCage
  rw [show decide (kCage = kTexture) = false from by decide] at E3 T3
  have E4 := eqk4 kCage
  have T4 := eqt4 kCage
  rw [show decide (kCage = kMaterial) = false from by decide] at E4 T4
  have E5 := eqk5 kCage
  have T5 := eqt5 kCage
  rw [show decide (kCage = kCage) = true from by decide] at E5 T5
  have CT := Lib.hid (pcage W g n c A TR sc val ws hn hA hR hT)
  have HL := Lib.hid (show lineF sc (kCage :: ws) = skinF sc ws from rfl)
  clear hA hR hT
  generalize hk : kCage = k at *
  go_enter Tryz.func56, Tryz.ntmps56
  go_wp2_with (go_at_call 84; (refine CT.out.mono ?_); rintro e W' hp; rcases e_of hp with ⟨kk, rfl⟩ | rfl)
  · refine ⟨rfl, ?_⟩
    rw [HL.out]; exact hp
  · go_end0
    rw [HL.out]; exact hp

set_option maxRecDepth 100000 in
set_option maxHeartbeats 2000000 in
theorem ptake6 (W : World) (g n c : Nat) (A : Option Addr) (TR : TypeId) (sc : Scn) (val : Key → Value) (ws : List Wd) (hn : ws.length = n) (hl : n ≤ 65537) (hc : n ≤ c) (hA : SFW W A ws) (hR : RepV g W g TR sc val) (hT : InvT sc) : Calls Tryz.prog 56 #[.pointer (some ⟨g, 0, none⟩), .string ⟨(kV).toArray⟩, .slice A n c] W fun e W' => lineP g TR W (lineF sc (kV :: ws)) e W' := by
  have E0 := eqk0 kV
  have T0 := eqt0 kV
  rw [show decide (kV = kCamera) = false from by decide] at E0 T0
  have E1 := eqk1 kV
  have T1 := eqt1 kV
  rw [show decide (kV = kSky) = false from by decide] at E1 T1
  have E2 := eqk2 kV
  have T2 := eqt2 kV
  rw [show decide (kV = kLight) = false from by decide] at E2 T2
  have E3 := eqk3 kV
  have T3 := eqt3 kV
  rw [show decide (kV = kTexture) = false from by decide] at E3 T3
  have E4 := eqk4 kV
  have T4 := eqt4 kV
  rw [show decide (kV = kMaterial) = false from by decide] at E4 T4
  have E5 := eqk5 kV
  have T5 := eqt5 kV
  rw [show decide (kV = kCage) = false from by decide] at E5 T5
  have E6 := eqk6 kV
  have T6 := eqt6 kV
  rw [show decide (kV = kV) = true from by decide] at E6 T6
  have CT := Lib.hid (pvertex W g n c A TR sc val ws hn hl hA hR hT.1)
  have HL := Lib.hid (show lineF sc (kV :: ws) = partF sc kV ws from rfl)
  clear hA hR hT
  generalize hk : kV = k at *
  go_enter Tryz.func56, Tryz.ntmps56
  go_wp2_with (go_at_call 85; (refine CT.out.mono ?_); rintro e W' hp; rcases e_of hp with ⟨kk, rfl⟩ | rfl)
  · refine ⟨rfl, ?_⟩
    rw [HL.out]; exact hp
  · go_end0
    rw [HL.out]; exact hp

set_option maxRecDepth 100000 in
set_option maxHeartbeats 2000000 in
theorem ptake7 (W : World) (g n c : Nat) (A : Option Addr) (TR : TypeId) (sc : Scn) (val : Key → Value) (ws : List Wd) (hn : ws.length = n) (hl : n ≤ 65537) (hc : n ≤ c) (hA : SFW W A ws) (hR : RepV g W g TR sc val) (hT : InvT sc) : Calls Tryz.prog 56 #[.pointer (some ⟨g, 0, none⟩), .string ⟨(kF).toArray⟩, .slice A n c] W fun e W' => lineP g TR W (lineF sc (kF :: ws)) e W' := by
  have E0 := eqk0 kF
  have T0 := eqt0 kF
  rw [show decide (kF = kCamera) = false from by decide] at E0 T0
  have E1 := eqk1 kF
  have T1 := eqt1 kF
  rw [show decide (kF = kSky) = false from by decide] at E1 T1
  have E2 := eqk2 kF
  have T2 := eqt2 kF
  rw [show decide (kF = kLight) = false from by decide] at E2 T2
  have E3 := eqk3 kF
  have T3 := eqt3 kF
  rw [show decide (kF = kTexture) = false from by decide] at E3 T3
  have E4 := eqk4 kF
  have T4 := eqt4 kF
  rw [show decide (kF = kMaterial) = false from by decide] at E4 T4
  have E5 := eqk5 kF
  have T5 := eqt5 kF
  rw [show decide (kF = kCage) = false from by decide] at E5 T5
  have E6 := eqk6 kF
  have T6 := eqt6 kF
  rw [show decide (kF = kV) = false from by decide] at E6 T6
  have E7 := eqk7 kF
  have T7 := eqt7 kF
  rw [show decide (kF = kF) = true from by decide] at E7 T7
  have CT := Lib.hid (pface W g n c A TR sc val ws hn hl hA hR hT.1)
  have HL := Lib.hid (show lineF sc (kF :: ws) = partF sc kF ws from rfl)
  clear hA hR hT
  generalize hk : kF = k at *
  go_enter Tryz.func56, Tryz.ntmps56
  go_wp2_with (go_at_call 86; (refine CT.out.mono ?_); rintro e W' hp; rcases e_of hp with ⟨kk, rfl⟩ | rfl)
  · refine ⟨rfl, ?_⟩
    rw [HL.out]; exact hp
  · go_end0
    rw [HL.out]; exact hp

set_option maxRecDepth 100000 in
set_option maxHeartbeats 2000000 in
theorem ptake8 (W : World) (g n c : Nat) (A : Option Addr) (TR : TypeId) (sc : Scn) (val : Key → Value) (ws : List Wd) (hn : ws.length = n) (hl : n ≤ 65537) (hc : n ≤ c) (hA : SFW W A ws) (hR : RepV g W g TR sc val) (hT : InvT sc) : Calls Tryz.prog 56 #[.pointer (some ⟨g, 0, none⟩), .string ⟨(kCrease).toArray⟩, .slice A n c] W fun e W' => lineP g TR W (lineF sc (kCrease :: ws)) e W' := by
  have E0 := eqk0 kCrease
  have T0 := eqt0 kCrease
  rw [show decide (kCrease = kCamera) = false from by decide] at E0 T0
  have E1 := eqk1 kCrease
  have T1 := eqt1 kCrease
  rw [show decide (kCrease = kSky) = false from by decide] at E1 T1
  have E2 := eqk2 kCrease
  have T2 := eqt2 kCrease
  rw [show decide (kCrease = kLight) = false from by decide] at E2 T2
  have E3 := eqk3 kCrease
  have T3 := eqt3 kCrease
  rw [show decide (kCrease = kTexture) = false from by decide] at E3 T3
  have E4 := eqk4 kCrease
  have T4 := eqt4 kCrease
  rw [show decide (kCrease = kMaterial) = false from by decide] at E4 T4
  have E5 := eqk5 kCrease
  have T5 := eqt5 kCrease
  rw [show decide (kCrease = kCage) = false from by decide] at E5 T5
  have E6 := eqk6 kCrease
  have T6 := eqt6 kCrease
  rw [show decide (kCrease = kV) = false from by decide] at E6 T6
  have E7 := eqk7 kCrease
  have T7 := eqt7 kCrease
  rw [show decide (kCrease = kF) = false from by decide] at E7 T7
  have E8 := eqk8 kCrease
  have T8 := eqt8 kCrease
  rw [show decide (kCrease = kCrease) = true from by decide] at E8 T8
  have CT := Lib.hid (pcrease W g n c A TR sc val ws hn hl hA hR hT.1)
  have HL := Lib.hid (show lineF sc (kCrease :: ws) = partF sc kCrease ws from rfl)
  clear hA hR hT
  generalize hk : kCrease = k at *
  go_enter Tryz.func56, Tryz.ntmps56
  go_wp2_with (go_at_call 87; (refine CT.out.mono ?_); rintro e W' hp; rcases e_of hp with ⟨kk, rfl⟩ | rfl)
  · refine ⟨rfl, ?_⟩
    rw [HL.out]; exact hp
  · go_end0
    rw [HL.out]; exact hp

set_option maxRecDepth 100000 in
set_option maxHeartbeats 2000000 in
theorem ptake_no (W : World) (g n c : Nat) (A : Option Addr) (TR : TypeId) (sc : Scn) (val : Key → Value) (k : Wd) (ws : List Wd) (hn : ws.length = n) (hl : n ≤ 65537) (hc : n ≤ c) (hA : SFW W A ws) (hR : RepV g W g TR sc val) (hT : InvT sc) (q0 : ¬ k = kCamera) (q1 : ¬ k = kSky) (q2 : ¬ k = kLight) (q3 : ¬ k = kTexture) (q4 : ¬ k = kMaterial) (q5 : ¬ k = kCage) (q6 : ¬ k = kV) (q7 : ¬ k = kF) (q8 : ¬ k = kCrease) : Calls Tryz.prog 56 #[.pointer (some ⟨g, 0, none⟩), .string ⟨k.toArray⟩, .slice A n c] W fun e W' => lineP g TR W (lineF sc (k :: ws)) e W' := by
  have E0 := eqk0 k
  have T0 := eqt0 k
  rw [decide_eq_false q0] at E0 T0
  have E1 := eqk1 k
  have T1 := eqt1 k
  rw [decide_eq_false q1] at E1 T1
  have E2 := eqk2 k
  have T2 := eqt2 k
  rw [decide_eq_false q2] at E2 T2
  have E3 := eqk3 k
  have T3 := eqt3 k
  rw [decide_eq_false q3] at E3 T3
  have E4 := eqk4 k
  have T4 := eqt4 k
  rw [decide_eq_false q4] at E4 T4
  have E5 := eqk5 k
  have T5 := eqt5 k
  rw [decide_eq_false q5] at E5 T5
  have E6 := eqk6 k
  have T6 := eqt6 k
  rw [decide_eq_false q6] at E6 T6
  have E7 := eqk7 k
  have T7 := eqt7 k
  rw [decide_eq_false q7] at E7 T7
  have E8 := eqk8 k
  have T8 := eqt8 k
  rw [decide_eq_false q8] at E8 T8
  have hgl := hR.lt
  have HL := Lib.hid (show lineF sc (k :: ws) = .error 10 from by
    rw [lineF_cons, if_neg q0, if_neg q1, if_neg q2, if_neg q3, if_neg q4, if_neg q5, if_neg (fun q => q.elim q6 (fun q => q.elim q7 q8))])
  clear hA hR hT q0 q1 q2 q3 q4 q5 q6 q7 q8
  go_enter Tryz.func56, Tryz.ntmps56
  go_wp2
  refine ⟨rfl, lineP_err 10 hgl (by repeat (first | with_reducible exact Below.refl _ _ | with_reducible refine bel_then ?_ _ | with_reducible refine bel_grow ?_ _ | with_reducible refine bel_alloc ?_ _ | with_reducible refine bel_drew ?_ | with_reducible refine bel_set ?_ (by simp) _ | with_reducible refine bel_setRow ?_ (by first | omega | (simp; done)) _)) ?_⟩
  exact HL.out
theorem ptake (W : World) (g n c : Nat) (A : Option Addr) (TR : TypeId) (sc : Scn) (val : Key → Value) (k : Wd) (ws : List Wd) (hn : ws.length = n) (hl : n ≤ 65537) (hc : n ≤ c) (hA : SFW W A ws) (hR : RepV g W g TR sc val) (hT : InvT sc) : Calls Tryz.prog 56 #[.pointer (some ⟨g, 0, none⟩), .string ⟨k.toArray⟩, .slice A n c] W fun e W' => lineP g TR W (lineF sc (k :: ws)) e W' := by
  by_cases q0 : k = kCamera
  · subst q0; exact ptake0 W g n c A TR sc val ws hn hl hc hA hR hT
  by_cases q1 : k = kSky
  · subst q1; exact ptake1 W g n c A TR sc val ws hn hl hc hA hR hT
  by_cases q2 : k = kLight
  · subst q2; exact ptake2 W g n c A TR sc val ws hn hl hc hA hR hT
  by_cases q3 : k = kTexture
  · subst q3; exact ptake3 W g n c A TR sc val ws hn hl hc hA hR hT
  by_cases q4 : k = kMaterial
  · subst q4; exact ptake4 W g n c A TR sc val ws hn hl hc hA hR hT
  by_cases q5 : k = kCage
  · subst q5; exact ptake5 W g n c A TR sc val ws hn hl hc hA hR hT
  by_cases q6 : k = kV
  · subst q6; exact ptake6 W g n c A TR sc val ws hn hl hc hA hR hT
  by_cases q7 : k = kF
  · subst q7; exact ptake7 W g n c A TR sc val ws hn hl hc hA hR hT
  by_cases q8 : k = kCrease
  · subst q8; exact ptake8 W g n c A TR sc val ws hn hl hc hA hR hT
  exact ptake_no W g n c A TR sc val k ws hn hl hc hA hR hT q0 q1 q2 q3 q4 q5 q6 q7 q8

end Go.Proofs.YtdkgbdecmgligaaGreatDoor
