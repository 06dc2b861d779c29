/- The document's own Reader: a line by its first word. -/
import Derived.Test.YtehmlofhiffanaaDoorMScnDB
import Derived.Test.YtehmlofhiffanaaDoorMScnDA
import Derived.Test.YtehmlofhiffanaaDoorScnQI
import Derived.Test.YtehmlofhiffanaaDoorLexR2
import Derived.Deep.RegionHeld3
import Derived.Great.BuildSlice
import Derived.Test.YtehmlofhiffanaaDoorLexA
import Derived.Test.YtehmlofhiffanaaDoorScnB
import Derived.Test.YtehmlofhiffanaaDoorScnF
import Derived.Test.YtehmlofhiffanaaDoorLexT
import Derived.Deep.MidRow
import Derived.Maps.OwnOps
import Derived.Maps.OwnSet
import Derived.Maps.RangeWalk
import Derived.Test.YtehmlofhiffanaaDoorLeaf
import Derived.Test.YtehmlofhiffanaaDoorProg
import Derived.ChangeMaps5
import Derived.Test.YtehmlofhiffanaaDoorBase
import Derived.ProofKit
import Derived.OpenShut
import Derived.Carry
namespace Go.Proofs.YtehmlofhiffanaaDoor
open Go.RowKit
set_option linter.unusedVariables false
set_option linter.unusedSimpArgs false
set_option linter.unnecessarySimpa false

theorem e_readP {g : Nat} {TR : TypeId} {W W' : World} {r : Except Nat Scn} {e : Ending} (h : readP g TR W r e W') : ∃ x : Int, e = .returned (.int .i64 x) := by
  obtain ⟨_, h⟩ := h
  cases r with
  | error k => exact ⟨_, h.1⟩
  | ok sc' => exact ⟨_, h.1⟩
theorem dtex (W : World) (g n c b off : Nat) (sc : Scn) (val : Key → Value) (k : Wd) (ws : List Wd) (hn : ws.length = n) (hl : n ≤ 65537) (hc : n + 1 ≤ c) (hbg : b < g) (hA : SFW W (some ⟨b, off, none⟩) (k :: ws)) (hR : RepV g W g 61 sc val) (hT : InvT sc) : Calls Tryd.prog 25 #[.pointer (some ⟨g, 0, none⟩), .slice (some ⟨b, off, none⟩) (n + 1) c] W fun e W' => readP g 61 W (texF sc ws) e W' := by
  by_cases h3 : n < 3
  · exact dtex_short W g n c b off sc val k ws hn hl hc h3 hR
  · cases ws with
    | nil => simp at hn; omega
    | cons name vs =>
      obtain ⟨m, rfl⟩ : ∃ m, n = m + 1 := ⟨n - 1, by omega⟩
      exact dtex_go W g m c b off sc val k name vs (by simpa using hn) (by omega) (by omega) (by omega) hA hR hT
theorem dmat (W : World) (g n c b off : Nat) (sc : Scn) (val : Key → Value) (k : Wd) (ws : List Wd) (hn : ws.length = n) (hl : n ≤ 65537) (hc : n + 1 ≤ c) (hbg : b < g) (hA : SFW W (some ⟨b, off, none⟩) (k :: ws)) (hR : RepV g W g 61 sc val) (hT : InvT sc) : Calls Tryd.prog 26 #[.pointer (some ⟨g, 0, none⟩), .slice (some ⟨b, off, none⟩) (n + 1) c] W fun e W' => readP g 61 W (matF sc ws) e W' := by
  by_cases h9 : n = 9
  · subst h9
    cases ws with
    | nil => simp at hn
    | cons name vs => exact dmat_go W g c b off sc val k name vs (by simpa using hn) (by omega) hA hR hT
  · exact dmat_len W g n c b off sc val k ws hn hl hc h9 hR
theorem dskin (W : World) (g n c b off : Nat) (sc : Scn) (val : Key → Value) (k : Wd) (ws : List Wd) (hn : ws.length = n) (hl : n ≤ 65537) (hc : n + 1 ≤ c) (hbg : b < g) (hA : SFW W (some ⟨b, off, none⟩) (k :: ws)) (hR : RepV g W g 61 sc val) (hT : InvT sc) : Calls Tryd.prog 27 #[.pointer (some ⟨g, 0, none⟩), .slice (some ⟨b, off, none⟩) (n + 1) c] W fun e W' => readP g 61 W (skinF sc ws) e W' := by
  by_cases h6 : n = 6
  · subst h6
    match ws, hn, hA with
    | [name, mat, w3, w4, tex, w6], hn, hA =>
      by_cases h1 : isN name = true
      · by_cases h2 : isN mat = true
        · by_cases h3 : tex = kNo ∨ isN tex = true
          · exact dskin_go W g c b off sc val k name mat w3 w4 tex w6 (by omega) hA hR hT h1 h2 h3
          · exact dskin_names W g c b off sc val k name mat w3 w4 tex w6 (by omega) hA hR (.inr (.inr (by simpa using h3)))
        · exact dskin_names W g c b off sc val k name mat w3 w4 tex w6 (by omega) hA hR (.inr (.inl (by simpa using h2)))
      · exact dskin_names W g c b off sc val k name mat w3 w4 tex w6 (by omega) hA hR (.inl (by simpa using h1))
  · exact dskin_len W g n c b off sc val ws hn hl hc h6 hR

set_option maxRecDepth 100000 in
set_option maxHeartbeats 2000000 in
theorem dline0 (W : World) (g n c b off : Nat) (sc : Scn) (val : Key → Value) (ws : List Wd) (hn : ws.length = n) (hl : n ≤ 65537) (hc : n + 1 ≤ c) (hbg : b < g) (hA : SFW W (some ⟨b, off, none⟩) (kCamera :: ws)) (hR : RepV g W g 61 sc val) (hT : InvT sc) : Calls Tryd.prog 14 #[.pointer (some ⟨g, 0, none⟩), .slice (some ⟨b, off, none⟩) (n + 1) c] W fun e W' => readP g 61 W (lineF sc (kCamera :: ws)) e W' := by
  obtain ⟨hS, hbl⟩ : W.cell? ⟨b, off, none⟩ = some (.string ⟨(kCamera).toArray⟩) ∧ b < W.heap.size := by
    obtain ⟨b2, off2, q, hb, hcc⟩ := hA (by simp)
    cases q
    exact ⟨by simpa using hcc 0 (by simp), hb⟩
  have E0 := eqk0 kCamera
  have T0 := eqt0 kCamera
  rw [show decide (kCamera = kCamera) = true from by decide] at E0 T0
  have CT := Lib.hid (dcamera W g n c b off sc val kCamera ws hn hl hc hA hR)
  have HL := Lib.hid (show lineF sc (kCamera :: ws) = camF sc ws from rfl)
  clear hA hR hT
  generalize hk : kCamera = k at *
  go_enter Tryd.func14, Tryd.ntmps14
  go_wp2_with (go_at_call 22; (refine CT.out.mono ?_); rintro e W' hp; obtain ⟨xx, rfl⟩ := e_readP hp)
  go_ret
  rw [HL.out]; exact hp

set_option maxRecDepth 100000 in
set_option maxHeartbeats 2000000 in
theorem dline1 (W : World) (g n c b off : Nat) (sc : Scn) (val : Key → Value) (ws : List Wd) (hn : ws.length = n) (hl : n ≤ 65537) (hc : n + 1 ≤ c) (hbg : b < g) (hA : SFW W (some ⟨b, off, none⟩) (kSky :: ws)) (hR : RepV g W g 61 sc val) (hT : InvT sc) : Calls Tryd.prog 14 #[.pointer (some ⟨g, 0, none⟩), .slice (some ⟨b, off, none⟩) (n + 1) c] W fun e W' => readP g 61 W (lineF sc (kSky :: ws)) e W' := by
  obtain ⟨hS, hbl⟩ : W.cell? ⟨b, off, none⟩ = some (.string ⟨(kSky).toArray⟩) ∧ b < W.heap.size := by
    obtain ⟨b2, off2, q, hb, hcc⟩ := hA (by simp)
    cases q
    exact ⟨by simpa using hcc 0 (by simp), hb⟩
  have E0 := eqk0 kSky
  have T0 := eqt0 kSky
  rw [show decide (kSky = kCamera) = false from by decide] at E0 T0
  have E1 := eqk1 kSky
  have T1 := eqt1 kSky
  rw [show decide (kSky = kSky) = true from by decide] at E1 T1
  have CT := Lib.hid (dsky W g n c b off sc val kSky ws hn hl hc hA hR)
  have HL := Lib.hid (show lineF sc (kSky :: ws) = skyF sc ws from rfl)
  clear hA hR hT
  generalize hk : kSky = k at *
  go_enter Tryd.func14, Tryd.ntmps14
  go_wp2_with (go_at_call 23; (refine CT.out.mono ?_); rintro e W' hp; obtain ⟨xx, rfl⟩ := e_readP hp)
  go_ret
  rw [HL.out]; exact hp

set_option maxRecDepth 100000 in
set_option maxHeartbeats 2000000 in
theorem dline2 (W : World) (g n c b off : Nat) (sc : Scn) (val : Key → Value) (ws : List Wd) (hn : ws.length = n) (hl : n ≤ 65537) (hc : n + 1 ≤ c) (hbg : b < g) (hA : SFW W (some ⟨b, off, none⟩) (kLight :: ws)) (hR : RepV g W g 61 sc val) (hT : InvT sc) : Calls Tryd.prog 14 #[.pointer (some ⟨g, 0, none⟩), .slice (some ⟨b, off, none⟩) (n + 1) c] W fun e W' => readP g 61 W (lineF sc (kLight :: ws)) e W' := by
  obtain ⟨hS, hbl⟩ : W.cell? ⟨b, off, none⟩ = some (.string ⟨(kLight).toArray⟩) ∧ b < W.heap.size := by
    obtain ⟨b2, off2, q, hb, hcc⟩ := hA (by simp)
    cases q
    exact ⟨by simpa using hcc 0 (by simp), hb⟩
  have E0 := eqk0 kLight
  have T0 := eqt0 kLight
  rw [show decide (kLight = kCamera) = false from by decide] at E0 T0
  have E1 := eqk1 kLight
  have T1 := eqt1 kLight
  rw [show decide (kLight = kSky) = false from by decide] at E1 T1
  have E2 := eqk2 kLight
  have T2 := eqt2 kLight
  rw [show decide (kLight = kLight) = true from by decide] at E2 T2
  have CT := Lib.hid (dlight W g n c b off sc val kLight ws hn hl hc hA hR)
  have HL := Lib.hid (show lineF sc (kLight :: ws) = lightF sc ws from rfl)
  clear hA hR hT
  generalize hk : kLight = k at *
  go_enter Tryd.func14, Tryd.ntmps14
  go_wp2_with (go_at_call 24; (refine CT.out.mono ?_); rintro e W' hp; obtain ⟨xx, rfl⟩ := e_readP hp)
  go_ret
  rw [HL.out]; exact hp

set_option maxRecDepth 100000 in
set_option maxHeartbeats 2000000 in
theorem dline3 (W : World) (g n c b off : Nat) (sc : Scn) (val : Key → Value) (ws : List Wd) (hn : ws.length = n) (hl : n ≤ 65537) (hc : n + 1 ≤ c) (hbg : b < g) (hA : SFW W (some ⟨b, off, none⟩) (kTexture :: ws)) (hR : RepV g W g 61 sc val) (hT : InvT sc) : Calls Tryd.prog 14 #[.pointer (some ⟨g, 0, none⟩), .slice (some ⟨b, off, none⟩) (n + 1) c] W fun e W' => readP g 61 W (lineF sc (kTexture :: ws)) e W' := by
  obtain ⟨hS, hbl⟩ : W.cell? ⟨b, off, none⟩ = some (.string ⟨(kTexture).toArray⟩) ∧ b < W.heap.size := by
    obtain ⟨b2, off2, q, hb, hcc⟩ := hA (by simp)
    cases q
    exact ⟨by simpa using hcc 0 (by simp), hb⟩
  have E0 := eqk0 kTexture
  have T0 := eqt0 kTexture
  rw [show decide (kTexture = kCamera) = false from by decide] at E0 T0
  have E1 := eqk1 kTexture
  have T1 := eqt1 kTexture
  rw [show decide (kTexture = kSky) = false from by decide] at E1 T1
  have E2 := eqk2 kTexture
  have T2 := eqt2 kTexture
  rw [show decide (kTexture = kLight) = false from by decide] at E2 T2
  have E3 := eqk3 kTexture
  have T3 := eqt3 kTexture
  rw [show decide (kTexture = kTexture) = true from by decide] at E3 T3
  have CT := Lib.hid (dtex W g n c b off sc val kTexture ws hn hl hc hbg hA hR hT)
  have HL := Lib.hid (show lineF sc (kTexture :: ws) = texF sc ws from rfl)
  clear hA hR hT
  generalize hk : kTexture = k at *
  go_enter Tryd.func14, Tryd.ntmps14
  go_wp2_with (go_at_call 25; (refine CT.out.mono ?_); rintro e W' hp; obtain ⟨xx, rfl⟩ := e_readP hp)
  go_ret
  rw [HL.out]; exact hp

set_option maxRecDepth 100000 in
set_option maxHeartbeats 2000000 in
theorem dline4 (W : World) (g n c b off : Nat) (sc : Scn) (val : Key → Value) (ws : List Wd) (hn : ws.length = n) (hl : n ≤ 65537) (hc : n + 1 ≤ c) (hbg : b < g) (hA : SFW W (some ⟨b, off, none⟩) (kMaterial :: ws)) (hR : RepV g W g 61 sc val) (hT : InvT sc) : Calls Tryd.prog 14 #[.pointer (some ⟨g, 0, none⟩), .slice (some ⟨b, off, none⟩) (n + 1) c] W fun e W' => readP g 61 W (lineF sc (kMaterial :: ws)) e W' := by
  obtain ⟨hS, hbl⟩ : W.cell? ⟨b, off, none⟩ = some (.string ⟨(kMaterial).toArray⟩) ∧ b < W.heap.size := by
    obtain ⟨b2, off2, q, hb, hcc⟩ := hA (by simp)
    cases q
    exact ⟨by simpa using hcc 0 (by simp), hb⟩
  have E0 := eqk0 kMaterial
  have T0 := eqt0 kMaterial
  rw [show decide (kMaterial = kCamera) = false from by decide] at E0 T0
  have E1 := eqk1 kMaterial
  have T1 := eqt1 kMaterial
  rw [show decide (kMaterial = kSky) = false from by decide] at E1 T1
  have E2 := eqk2 kMaterial
  have T2 := eqt2 kMaterial
  rw [show decide (kMaterial = kLight) = false from by decide] at E2 T2
  have E3 := eqk3 kMaterial
  have T3 := eqt3 kMaterial
  rw [show decide (kMaterial = kTexture) = false from by decide] at E3 T3
  have E4 := eqk4 kMaterial
  have T4 := eqt4 kMaterial
  rw [show decide (kMaterial = kMaterial) = true from by decide] at E4 T4
  have CT := Lib.hid (dmat W g n c b off sc val kMaterial ws hn hl hc hbg hA hR hT)
  have HL := Lib.hid (show lineF sc (kMaterial :: ws) = matF sc ws from rfl)
  clear hA hR hT
  generalize hk : kMaterial = k at *
  go_enter Tryd.func14, Tryd.ntmps14
  go_wp2_with (go_at_call 26; (refine CT.out.mono ?_); rintro e W' hp; obtain ⟨xx, rfl⟩ := e_readP hp)
  go_ret
  rw [HL.out]; exact hp

set_option maxRecDepth 100000 in
set_option maxHeartbeats 2000000 in
theorem dline5 (W : World) (g n c b off : Nat) (sc : Scn) (val : Key → Value) (ws : List Wd) (hn : ws.length = n) (hl : n ≤ 65537) (hc : n + 1 ≤ c) (hbg : b < g) (hA : SFW W (some ⟨b, off, none⟩) (kCage :: ws)) (hR : RepV g W g 61 sc val) (hT : InvT sc) : Calls Tryd.prog 14 #[.pointer (some ⟨g, 0, none⟩), .slice (some ⟨b, off, none⟩) (n + 1) c] W fun e W' => readP g 61 W (lineF sc (kCage :: ws)) e W' := by
  obtain ⟨hS, hbl⟩ : W.cell? ⟨b, off, none⟩ = some (.string ⟨(kCage).toArray⟩) ∧ b < W.heap.size := by
    obtain ⟨b2, off2, q, hb, hcc⟩ := hA (by simp)
    cases q
    exact ⟨by simpa using hcc 0 (by simp), hb⟩
  have E0 := eqk0 kCage
  have T0 := eqt0 kCage
  rw [show decide (kCage = kCamera) = false from by decide] at E0 T0
  have E1 := eqk1 kCage
  have T1 := eqt1 kCage
  rw [show decide (kCage = kSky) = false from by decide] at E1 T1
  have E2 := eqk2 kCage
  have T2 := eqt2 kCage
  rw [show decide (kCage = kLight) = false from by decide] at E2 T2
  have E3 := eqk3 kCage
  have T3 := eqt3 kCage
  rw [show decide (kCage = kTexture) = false from by decide] at E3 T3
  have E4 := eqk4 kCage
  have T4 := eqt4 kCage
  rw [show decide (kCage = kMaterial) = false from by decide] at E4 T4
  have E5 := eqk5 kCage
  have T5 := eqt5 kCage
  rw [show decide (kCage = kCage) = true from by decide] at E5 T5
  have CT := Lib.hid (dskin W g n c b off sc val kCage ws hn hl hc hbg hA hR hT)
  have HL := Lib.hid (show lineF sc (kCage :: ws) = skinF sc ws from rfl)
  clear hA hR hT
  generalize hk : kCage = k at *
  go_enter Tryd.func14, Tryd.ntmps14
  go_wp2_with (go_at_call 27; (refine CT.out.mono ?_); rintro e W' hp; obtain ⟨xx, rfl⟩ := e_readP hp)
  go_ret
  rw [HL.out]; exact hp

set_option maxRecDepth 100000 in
set_option maxHeartbeats 2000000 in
theorem dline6 (W : World) (g n c b off : Nat) (sc : Scn) (val : Key → Value) (ws : List Wd) (hn : ws.length = n) (hl : n ≤ 65537) (hc : n + 1 ≤ c) (hbg : b < g) (hA : SFW W (some ⟨b, off, none⟩) (kV :: ws)) (hR : RepV g W g 61 sc val) (hT : InvT sc) : Calls Tryd.prog 14 #[.pointer (some ⟨g, 0, none⟩), .slice (some ⟨b, off, none⟩) (n + 1) c] W fun e W' => readP g 61 W (lineF sc (kV :: ws)) e W' := by
  obtain ⟨hS, hbl⟩ : W.cell? ⟨b, off, none⟩ = some (.string ⟨(kV).toArray⟩) ∧ b < W.heap.size := by
    obtain ⟨b2, off2, q, hb, hcc⟩ := hA (by simp)
    cases q
    exact ⟨by simpa using hcc 0 (by simp), hb⟩
  have E0 := eqk0 kV
  have T0 := eqt0 kV
  rw [show decide (kV = kCamera) = false from by decide] at E0 T0
  have E1 := eqk1 kV
  have T1 := eqt1 kV
  rw [show decide (kV = kSky) = false from by decide] at E1 T1
  have E2 := eqk2 kV
  have T2 := eqt2 kV
  rw [show decide (kV = kLight) = false from by decide] at E2 T2
  have E3 := eqk3 kV
  have T3 := eqt3 kV
  rw [show decide (kV = kTexture) = false from by decide] at E3 T3
  have E4 := eqk4 kV
  have T4 := eqt4 kV
  rw [show decide (kV = kMaterial) = false from by decide] at E4 T4
  have E5 := eqk5 kV
  have T5 := eqt5 kV
  rw [show decide (kV = kCage) = false from by decide] at E5 T5
  have E6 := eqk6 kV
  have T6 := eqt6 kV
  rw [show decide (kV = kV) = true from by decide] at E6 T6
  have CT := Lib.hid (dpart_v W g n c b off sc val ws hn hl hc hbg hA hR hT)
  have HL := Lib.hid (show lineF sc (kV :: ws) = partF sc kV ws from rfl)
  clear hA hR hT
  generalize hk : kV = k at *
  go_enter Tryd.func14, Tryd.ntmps14
  go_wp2_with (go_at_call 28; (refine CT.out.mono ?_); rintro e W' hp; obtain ⟨xx, rfl⟩ := e_readP hp)
  go_ret
  rw [HL.out]; exact hp

set_option maxRecDepth 100000 in
set_option maxHeartbeats 2000000 in
theorem dline7 (W : World) (g n c b off : Nat) (sc : Scn) (val : Key → Value) (ws : List Wd) (hn : ws.length = n) (hl : n ≤ 65537) (hc : n + 1 ≤ c) (hbg : b < g) (hA : SFW W (some ⟨b, off, none⟩) (kF :: ws)) (hR : RepV g W g 61 sc val) (hT : InvT sc) : Calls Tryd.prog 14 #[.pointer (some ⟨g, 0, none⟩), .slice (some ⟨b, off, none⟩) (n + 1) c] W fun e W' => readP g 61 W (lineF sc (kF :: ws)) e W' := by
  obtain ⟨hS, hbl⟩ : W.cell? ⟨b, off, none⟩ = some (.string ⟨(kF).toArray⟩) ∧ b < W.heap.size := by
    obtain ⟨b2, off2, q, hb, hcc⟩ := hA (by simp)
    cases q
    exact ⟨by simpa using hcc 0 (by simp), hb⟩
  have E0 := eqk0 kF
  have T0 := eqt0 kF
  rw [show decide (kF = kCamera) = false from by decide] at E0 T0
  have E1 := eqk1 kF
  have T1 := eqt1 kF
  rw [show decide (kF = kSky) = false from by decide] at E1 T1
  have E2 := eqk2 kF
  have T2 := eqt2 kF
  rw [show decide (kF = kLight) = false from by decide] at E2 T2
  have E3 := eqk3 kF
  have T3 := eqt3 kF
  rw [show decide (kF = kTexture) = false from by decide] at E3 T3
  have E4 := eqk4 kF
  have T4 := eqt4 kF
  rw [show decide (kF = kMaterial) = false from by decide] at E4 T4
  have E5 := eqk5 kF
  have T5 := eqt5 kF
  rw [show decide (kF = kCage) = false from by decide] at E5 T5
  have E6 := eqk6 kF
  have T6 := eqt6 kF
  rw [show decide (kF = kV) = false from by decide] at E6 T6
  have E7 := eqk7 kF
  have T7 := eqt7 kF
  rw [show decide (kF = kF) = true from by decide] at E7 T7
  have CT := Lib.hid (dpart_f W g n c b off sc val ws hn hl hc hbg hA hR hT)
  have HL := Lib.hid (show lineF sc (kF :: ws) = partF sc kF ws from rfl)
  clear hA hR hT
  generalize hk : kF = k at *
  go_enter Tryd.func14, Tryd.ntmps14
  go_wp2_with (go_at_call 28; (refine CT.out.mono ?_); rintro e W' hp; obtain ⟨xx, rfl⟩ := e_readP hp)
  go_ret
  rw [HL.out]; exact hp

set_option maxRecDepth 100000 in
set_option maxHeartbeats 2000000 in
theorem dline8 (W : World) (g n c b off : Nat) (sc : Scn) (val : Key → Value) (ws : List Wd) (hn : ws.length = n) (hl : n ≤ 65537) (hc : n + 1 ≤ c) (hbg : b < g) (hA : SFW W (some ⟨b, off, none⟩) (kCrease :: ws)) (hR : RepV g W g 61 sc val) (hT : InvT sc) : Calls Tryd.prog 14 #[.pointer (some ⟨g, 0, none⟩), .slice (some ⟨b, off, none⟩) (n + 1) c] W fun e W' => readP g 61 W (lineF sc (kCrease :: ws)) e W' := by
  obtain ⟨hS, hbl⟩ : W.cell? ⟨b, off, none⟩ = some (.string ⟨(kCrease).toArray⟩) ∧ b < W.heap.size := by
    obtain ⟨b2, off2, q, hb, hcc⟩ := hA (by simp)
    cases q
    exact ⟨by simpa using hcc 0 (by simp), hb⟩
  have E0 := eqk0 kCrease
  have T0 := eqt0 kCrease
  rw [show decide (kCrease = kCamera) = false from by decide] at E0 T0
  have E1 := eqk1 kCrease
  have T1 := eqt1 kCrease
  rw [show decide (kCrease = kSky) = false from by decide] at E1 T1
  have E2 := eqk2 kCrease
  have T2 := eqt2 kCrease
  rw [show decide (kCrease = kLight) = false from by decide] at E2 T2
  have E3 := eqk3 kCrease
  have T3 := eqt3 kCrease
  rw [show decide (kCrease = kTexture) = false from by decide] at E3 T3
  have E4 := eqk4 kCrease
  have T4 := eqt4 kCrease
  rw [show decide (kCrease = kMaterial) = false from by decide] at E4 T4
  have E5 := eqk5 kCrease
  have T5 := eqt5 kCrease
  rw [show decide (kCrease = kCage) = false from by decide] at E5 T5
  have E6 := eqk6 kCrease
  have T6 := eqt6 kCrease
  rw [show decide (kCrease = kV) = false from by decide] at E6 T6
  have E7 := eqk7 kCrease
  have T7 := eqt7 kCrease
  rw [show decide (kCrease = kF) = false from by decide] at E7 T7
  have E8 := eqk8 kCrease
  have T8 := eqt8 kCrease
  rw [show decide (kCrease = kCrease) = true from by decide] at E8 T8
  have CT := Lib.hid (dpart_c W g n c b off sc val ws hn hl hc hbg hA hR hT)
  have HL := Lib.hid (show lineF sc (kCrease :: ws) = partF sc kCrease ws from rfl)
  clear hA hR hT
  generalize hk : kCrease = k at *
  go_enter Tryd.func14, Tryd.ntmps14
  go_wp2_with (go_at_call 28; (refine CT.out.mono ?_); rintro e W' hp; obtain ⟨xx, rfl⟩ := e_readP hp)
  go_ret
  rw [HL.out]; exact hp

set_option maxRecDepth 100000 in
set_option maxHeartbeats 2000000 in
theorem dline_no (W : World) (g n c b off : Nat) (sc : Scn) (val : Key → Value) (k : Wd) (ws : List Wd) (hn : ws.length = n) (hl : n ≤ 65537) (hc : n + 1 ≤ c) (hbg : b < g) (hA : SFW W (some ⟨b, off, none⟩) (k :: ws)) (hR : RepV g W g 61 sc val) (hT : InvT sc) (q0 : ¬ k = kCamera) (q1 : ¬ k = kSky) (q2 : ¬ k = kLight) (q3 : ¬ k = kTexture) (q4 : ¬ k = kMaterial) (q5 : ¬ k = kCage) (q6 : ¬ k = kV) (q7 : ¬ k = kF) (q8 : ¬ k = kCrease) : Calls Tryd.prog 14 #[.pointer (some ⟨g, 0, none⟩), .slice (some ⟨b, off, none⟩) (n + 1) c] W fun e W' => readP g 61 W (lineF sc (k :: ws)) e W' := by
  obtain ⟨hS, hbl⟩ : W.cell? ⟨b, off, none⟩ = some (.string ⟨(k).toArray⟩) ∧ b < W.heap.size := by
    obtain ⟨b2, off2, q, hb, hcc⟩ := hA (by simp)
    cases q
    exact ⟨by simpa using hcc 0 (by simp), hb⟩
  have E0 := eqk0 k
  have T0 := eqt0 k
  rw [decide_eq_false q0] at E0 T0
  have E1 := eqk1 k
  have T1 := eqt1 k
  rw [decide_eq_false q1] at E1 T1
  have E2 := eqk2 k
  have T2 := eqt2 k
  rw [decide_eq_false q2] at E2 T2
  have E3 := eqk3 k
  have T3 := eqt3 k
  rw [decide_eq_false q3] at E3 T3
  have E4 := eqk4 k
  have T4 := eqt4 k
  rw [decide_eq_false q4] at E4 T4
  have E5 := eqk5 k
  have T5 := eqt5 k
  rw [decide_eq_false q5] at E5 T5
  have E6 := eqk6 k
  have T6 := eqt6 k
  rw [decide_eq_false q6] at E6 T6
  have E7 := eqk7 k
  have T7 := eqt7 k
  rw [decide_eq_false q7] at E7 T7
  have E8 := eqk8 k
  have T8 := eqt8 k
  rw [decide_eq_false q8] at E8 T8
  have hgl := hR.lt
  have HL := Lib.hid (show lineF sc (k :: ws) = .error 10 from by
    rw [lineF_cons, if_neg q0, if_neg q1, if_neg q2, if_neg q3, if_neg q4, if_neg q5, if_neg (fun q => q.elim q6 (fun q => q.elim q7 q8))])
  clear hA hR hT q0 q1 q2 q3 q4 q5 q6 q7 q8
  go_enter Tryd.func14, Tryd.ntmps14
  go_wp2_with fail
  go_ret
  exact readP_err 10 hgl (by repeat (first | with_reducible exact Below.refl _ _ | with_reducible refine bel_then ?_ _ | with_reducible refine bel_grow ?_ _ | with_reducible refine bel_alloc ?_ _ | with_reducible refine bel_drew ?_ | with_reducible refine bel_set ?_ (by simp) _ | with_reducible refine bel_setRow ?_ (by first | omega | (simp; done)) _)) (by exact HL.out)
theorem dline (W : World) (g n c b off : Nat) (sc : Scn) (val : Key → Value) (k : Wd) (ws : List Wd) (hn : ws.length = n) (hl : n ≤ 65537) (hc : n + 1 ≤ c) (hbg : b < g) (hA : SFW W (some ⟨b, off, none⟩) (k :: ws)) (hR : RepV g W g 61 sc val) (hT : InvT sc) : Calls Tryd.prog 14 #[.pointer (some ⟨g, 0, none⟩), .slice (some ⟨b, off, none⟩) (n + 1) c] W fun e W' => readP g 61 W (lineF sc (k :: ws)) e W' := by
  by_cases q0 : k = kCamera
  · subst q0; exact dline0 W g n c b off sc val ws hn hl hc hbg hA hR hT
  by_cases q1 : k = kSky
  · subst q1; exact dline1 W g n c b off sc val ws hn hl hc hbg hA hR hT
  by_cases q2 : k = kLight
  · subst q2; exact dline2 W g n c b off sc val ws hn hl hc hbg hA hR hT
  by_cases q3 : k = kTexture
  · subst q3; exact dline3 W g n c b off sc val ws hn hl hc hbg hA hR hT
  by_cases q4 : k = kMaterial
  · subst q4; exact dline4 W g n c b off sc val ws hn hl hc hbg hA hR hT
  by_cases q5 : k = kCage
  · subst q5; exact dline5 W g n c b off sc val ws hn hl hc hbg hA hR hT
  by_cases q6 : k = kV
  · subst q6; exact dline6 W g n c b off sc val ws hn hl hc hbg hA hR hT
  by_cases q7 : k = kF
  · subst q7; exact dline7 W g n c b off sc val ws hn hl hc hbg hA hR hT
  by_cases q8 : k = kCrease
  · subst q8; exact dline8 W g n c b off sc val ws hn hl hc hbg hA hR hT
  exact dline_no W g n c b off sc val k ws hn hl hc hbg hA hR hT q0 q1 q2 q3 q4 q5 q6 q7 q8

end Go.Proofs.YtehmlofhiffanaaDoor

/- The document's own Reader: a text is read, the parts. -/
namespace Go.Proofs.YtehmlofhiffanaaDoor
open Go.RowKit
set_option linter.unusedVariables false
set_option linter.unusedSimpArgs false
set_option linter.unnecessarySimpa false

theorem repD_new (W : World) : RepV W.heap.size (W.alloc (.cells (rcells scn0 fun _ => vNil) 61)) W.heap.size 61 scn0 (fun _ => vNil) := by
  refine ⟨Blk.new _ _ _ _ rfl, ⟨fun k => ?_, fun j k h => .inl (by rw [rows0]; rfl), fun k => by rw [rows0]; simp [vNil, Value.ownBlock]⟩, fun _ _ => rfl, fun _ _ => rfl, fun _ _ => rfl, fun _ _ => rfl, fun _ _ _ => rfl, Nat.le_refl _⟩
  cases k <;> simp only [rowsOf, Rw.own_rw, Rw.own_ro] <;> (refine ⟨?_, .inl ⟨rfl, ?_⟩⟩ <;> simp [scn0, texSS, cageSS, texAt, cageAt, i64s, flat3])
theorem RepV.asideRowD {base g : Nat} {W : World} {sc : Scn} {val : Key → Value} (h : RepV base W g 61 sc val) {b : Nat} {cs cs' : Array Value} (hb : Blk W b 35 cs) : RepV base (W.setRow b cs') g 61 sc val := by
  have hty : ∀ (x : Option Nat) (T : TypeId), (∀ k, x = some k → ∃ cur, W.heap[k]? = some (.cells cur T (0, 0))) → T ≠ 35 → x ≠ some b := fun x T hx hT e => by
    obtain ⟨cur, q⟩ := hx b e
    have := q.symm.trans hb
    injection this with this
    injection this with _ q2
    exact hT q2
  have own := fun (_ : Nat) (T : TypeId) (sz n : Nat) (v : Value) (xs : List Value) (h : W.ownsRow base T sz v n xs) (hT : T ≠ 35) => hty v.ownBlock T (fun k hk => (own_typed h k hk).2) hT
  have ro := fun (T : TypeId) (n : Nat) (v : Value) (xs : List Value) (h : roRow W base T v n xs) (hT : T ≠ 35) => hty v.ownBlock T (fun k hk => by
    rcases h.2 with ⟨q, _⟩ | ⟨b, off, cap, cur, q, _, hg, _⟩
    · rw [q] at hk; cases hk
    · rw [q] at hk; cases hk; exact ⟨cur, hg⟩) hT
  have hk : ∀ k, (rowsOf sc val k).v.ownBlock ≠ some b := by
    intro k
    have hr := h.own.row k
    cases k with
    | tex i => exact ro _ _ _ _ hr (by simp [rowsOf])
    | frow i j => exact ro _ _ _ _ hr (by simp [rowsOf])
    | lights => exact own 0 _ _ _ _ _ hr (by simp [rowsOf])
    | mats => exact own 0 _ _ _ _ _ hr (by simp [rowsOf])
    | texs => exact own 0 _ _ _ _ _ hr (by simp [rowsOf])
    | skins => exact own 0 _ _ _ _ _ hr (by simp [rowsOf])
    | cages => exact own 0 _ _ _ _ _ hr (by simp [rowsOf])
    | vert i => exact own 0 _ _ _ _ _ hr (by simp [rowsOf])
    | face i => exact own 0 _ _ _ _ _ hr (by simp [rowsOf])
    | crease i => exact own 0 _ _ _ _ _ hr (by simp [rowsOf])
  have hne : b ≠ g := fun e => by
    subst e
    have := h.blk.symm.trans hb
    injection this with this
    injection this with _ q2
    revert q2; decide
  have hgr : W.grownBy (W.setRow b cs') (some b) := ⟨rfl, rfl, rfl, by simp, fun j _ hj => setRow_other W b j cs' (fun e => hj (by rw [e]))⟩
  exact ⟨h.blk.farRow cs' hne, ⟨fun k => (h.own.row k).kept hgr (.inr (hk k)), h.own.apart, h.own.off⟩, h.nilT, h.nilV, h.nilF, h.nilC, h.nilR, h.base_le⟩
theorem res_sceneD (W : World) (b : Nat) (cs : Array Value) (n k : Int) (tmps : Array Value) (h : Blk W b 35 cs) (hs : cs.size = 24) (h2 : tmps[2]? = some (.pointer (some ⟨b, 0, none⟩))) (h3 : tmps[3]? = some (.int .i64 n)) (h4 : tmps[4]? = some (.int .i64 k)) :
    (results Tryd.f9 tmps).run Tryd.prog W = .ok (.tuple #[.agg cs, .int .i64 n, .int .i64 k]) W := by
  have hl := run_loadVar_row (P := Tryd.prog) W b 35 35 cs (0, 0) _ h Tryd.underlying35 rfl (by rw [hs]; exact infoSc)
  have ha : Sem.run Tryd.prog (asAddr (Value.pointer (some ⟨b, 0, none⟩))) W = .ok ⟨b, 0, none⟩ W := rfl
  simp [results, Tryd.results9, h2, h3, h4, hl, ha]

def docPost (w : World) (l : List UInt8) (e : Ending) (w' : World) : Prop := Below w.heap.size w w' ∧ match sceneT l with
  | .error (n, k) => e = .returned (.tuple #[.agg scZ, .int .i64 (n : Int), .int .i64 (k : Int)])
  | .ok sc => ∃ g val, e = .returned (.tuple #[.agg (sceneV sc val), .int .i64 0, .int .i64 0]) ∧ w.heap.size ≤ g ∧ RepV g w' g 61 sc val
theorem build_ReaderD (a : Act) (o : Oper) (ho : o.op = .build 61 #[]) (w : World) : (execOp a.eval o).run Tryd.prog w = .ok (.value (.agg (rcells scn0 fun _ => vNil))) w := by
  unfold execOp
  rw [ho]
  kernel_rfl
theorem box_ReaderD (a : Act) (o : Oper) (x : Operand) (ho : o.op = .box 61 x) (hx : a.eval x = .agg (rcells scn0 fun _ => vNil)) (w : World) : (execOp a.eval o).run Tryd.prog w = .ok (.value (.pointer (some ⟨w.heap.size, 0, none⟩))) (w.alloc (.cells (rcells scn0 fun _ => vNil) 61)) := by
  unfold execOp
  rw [ho]
  simp only []
  rw [hx]
  kernel_rfl
theorem dlines_or {w : World} {l : List UInt8} {e : Ending} {w' : World} (h : runPost w (nb l ++ [10]) e w') : Below w.heap.size w w' ∧ ((∃ n : Nat, linesP 1 [] (spl l) = .error n ∧ e = .returned (.tuple #[.slice none 0 0, .int .i64 (n : Int), .int .i64 10])) ∨ (∃ A c ls, linesP 1 [] (spl l) = .ok (outOf ls) ∧ e = .returned (.tuple #[.slice A ls.length c, .int .i64 0, .int .i64 0]) ∧ LNS w' w.heap.size (.slice A ls.length c) ls)) := by
  refine ⟨h.1, ?_⟩
  obtain ⟨_, h⟩ := h
  rcases lines_run l with ⟨n, e1, e2⟩ | ⟨t, e1, e2⟩
  · rw [e2] at h; exact .inl ⟨n, e1, h⟩
  · rw [e2] at h
    obtain ⟨v, ls, h1, h2, h3⟩ := h
    obtain ⟨A, c, rfl⟩ := own_form h2.1
    exact .inr ⟨A, c, ls, by rw [h3, e1], h1, h2⟩

end Go.Proofs.YtehmlofhiffanaaDoor

/- The document's own Reader: a text is read, the walk. -/
namespace Go.Proofs.YtehmlofhiffanaaDoor
open Go.RowKit
set_option linter.unusedVariables false
set_option linter.unusedSimpArgs false
set_option linter.unnecessarySimpa false

set_option maxRecDepth 100000 in
set_option maxHeartbeats 1000000 in
theorem dparse_any (w : World) (s : ByteArray) (hs : s.size ≤ 65536) :
    Calls Tryd.prog 9 #[.string s] w fun e w' => docPost w s.data.toList e w' := by
  have HB1 : Below w.heap.size w (w.alloc (.cells scZ 35)) := bel_alloc (Below.refl _ _) _
  have KR : Blk (w.alloc (.cells scZ 35)) w.heap.size 35 scZ := Blk.new _ _ _ _ rfl
  have HT := Lib.hid (rLines_any (w.alloc (.cells scZ 35)) s hs)
  go_enter Tryd.func9, Tryd.ntmps9
  go_upto_region 2 with (first | (refine wpList_val rfl _ _ (alloc_Scene _ _ rfl _) ?_) | (go_at_call 13; (refine HT.out.mono ?_); rintro e W0 hp; obtain ⟨hB0, hp⟩ := dlines_or hp; rcases hp with ⟨no, hL, rfl⟩ | ⟨A, c, ls, hL, rfl, hLN⟩))
  · have BR := KR.below hB0
    have HBw : Below w.heap.size w W0 := bel_trans HB1 hB0
    replace HBw := Lib.hid HBw
    have HP := Lib.hid (show sceneT s.data.toList = .error (no, 10) by unfold sceneT; rw [hL])
    clear KR hL HB1 hB0 HT
    go_wp2_with (first | (refine wpList_val rfl _ _ (build_Scene _ _ rfl _) ?_) | (refine wpList_store_rowTo rfl 35 _ _ rfl rfl w.heap.size (scZ) rfl rfl 35 scZ BR infoSc rfl scZ_one ?_))
    refine bodyPost_ret (v := .tuple #[.agg scZ, .int .i64 (no : Int), .int .i64 10]) (res_sceneD _ _ scZ _ _ _ (BR.setRow scZ) rfl rfl rfl rfl) rfl ⟨bel_setRow HBw.out (Nat.le_refl _) _, ?_⟩
    rw [HP.out]
    rfl
  · have BR := KR.below hB0
    have HBw : Below w.heap.size w W0 := bel_trans HB1 hB0
    have hRl : w.heap.size < W0.heap.size := BR.lt
    have hlen := own_max hLN.1
    have HO := Lib.hid (show sceneT s.data.toList = match runS scn0 (outW ls) with | .error e => .error e | .ok sc => if sc.cam.isSome then .ok sc else .error (0, 15) by unfold sceneT; rw [hL, outW_of rfl]; rfl)
    have HR0 := repD_new W0
    have HW1 : Below W0.heap.size W0 (W0.alloc (.cells (rcells scn0 fun _ => vNil) 61)) := bel_alloc (Below.refl _ _) _
    clear KR hL HB1 hB0 HT hs hp
    replace HBw := Lib.hid HBw
    replace hLN := Lib.hid hLN
    replace BR := Lib.hid BR
    obtain ⟨g, hg⟩ : ∃ g, g = W0.heap.size := ⟨_, rfl⟩
    rw [← hg] at HR0 HW1 hRl
    go_upto_block 0 with (first | (refine wpList_val rfl _ _ (build_ReaderD _ _ rfl _) ?_) | (refine wpList_val rfl _ _ (box_ReaderD _ _ _ rfl rfl _) ?_))
    rw [← hg]
    generalize W0.alloc (.cells (rcells scn0 fun _ => vNil) 61) = W1 at *
    replace hg := Lib.hid hg
    go_wp2_with fail
    go_loopw [9] (fun i wr => ∃ (k : Nat) (sc : Scn) (val : Key → Value), i = .int .i64 (k : Int) ∧ k ≤ ls.length ∧ Hid (runS scn0 ((outW ls).take k) = .ok sc) ∧ Hid (InvT sc) ∧ Hid (RepV g wr g 61 sc val) ∧ Hid (Below g W0 wr)) (fun i _ => ls.length - (intOf i).toNat)
    case atStart => exact ⟨0, scn0, fun _ => vNil, rfl, by omega, Lib.hid rfl, Lib.hid invT0, Lib.hid HR0, Lib.hid HW1⟩
    case round =>
      obtain ⟨k, sc, val, rfl, hk, hrun, hinv, hR, hbw⟩ := hrel
      clear HR0 HW1
      by_cases hlt : k < ls.length
      · obtain ⟨cw, ws, hq⟩ : ∃ cw ws, (ls[k]).words = cw :: ws := by
          have h0 := (hLN.out.2 ls[k] (List.getElem_mem hlt)).1
          cases q : (ls[k]).words with
          | nil => rw [q] at h0; simp at h0
          | cons a b => exact ⟨a, b, rfl⟩
        obtain ⟨ws1, ws2, _, ws4⟩ := hLN.out.2 ls[k] (List.getElem_mem hlt)
        obtain ⟨b2, c2, hat, hc2, hb2⟩ := own_cap ws4 ws1
        obtain ⟨bl, hA, hbl⟩ : ∃ bl, A = some ⟨bl, 0, none⟩ ∧ bl < W0.heap.size := by
          rcases hLN.out.1.2 with ⟨_, q⟩ | ⟨b, cp, cur, q1, q2, q3, _⟩
          · omega
          · cases q1; exact ⟨b, rfl, (Array.getElem?_eq_some_iff.1 q3).1⟩
        subst hA
        have hbw' : Below W0.heap.size W0 wr := by rw [← hg.out]; exact hbw.out
        obtain ⟨l1, l2⟩ := lnC_get ls k hlt
        have d0 : wr.cell? ⟨bl, k * 2, none⟩ = some (.int .i64 ((ls[k]).no : Int)) := (hbw'.cell (p := ⟨bl, k * 2, none⟩) hbl).trans ((hLN.out.1.cellAt (k * 2) (by omega)).trans l1)
        have d1 : wr.cell? ⟨bl, k * 2 + 1, none⟩ = some (.slice (some ⟨b2, 0, none⟩) (ws.length + 1) c2) := (hbw'.cell (p := ⟨bl, k * 2 + 1, none⟩) hbl).trans ((hLN.out.1.cellAt (k * 2 + 1) (by omega)).trans (by rw [l2, hat, hq]; rfl))
        have hSF : SFW W0 (some ⟨b2, 0, none⟩) (cw :: ws) := by
          rw [hat, hq] at ws4
          exact SFW_of_own ws4 rfl
        have hRl2 := hR.out.lt
        have hblr : bl < wr.heap.size := Nat.lt_of_lt_of_le hbl hbw'.size
        have k0 : (0 : Int) ≤ (k : Int) := by omega
        have k1 : (k : Int) < (ls.length : Int) := by omega
        have CR := Lib.hid (fun (W : World) (hb : Below wr.heap.size wr W) => dline W g ws.length c2 b2 0 sc val cw ws rfl (by rw [hq] at ws2; simp at ws2; omega) (by rw [hq] at hc2; simpa using hc2) (by rw [hg.out]; exact hb2) (hSF.below (hbw'.trans (hb.mono hbw'.size))) (hR.out.below hb) hinv.out)
        have HL := Lib.hid (show (outW ls)[k]? = some ((ls[k]).no, cw :: ws) by unfold outW; simp [hlt, hq])
        have HN := Lib.hid (show ∀ kk, lineF sc (cw :: ws) = .error kk → runS scn0 (outW ls) = .error ((ls[k]).no, kk) from fun kk he => by
          have e := (List.take_append_drop k (outW ls)).symm
          have hl : k < (outW ls).length := by unfold outW; simpa using hlt
          rw [e, List.drop_eq_getElem_cons hl]
          have e2 : (outW ls)[k] = ((ls[k]).no, cw :: ws) := by
            have := HL.out; rw [List.getElem?_eq_getElem hl] at this; injection this
          rw [e2]
          exact runS_stop hrun.out he)
        have HS := Lib.hid (show ∀ sc', lineF sc (cw :: ws) = .ok sc' → runS scn0 ((outW ls).take (k + 1)) = .ok sc' from fun sc' he => by
          have hl : k < (outW ls).length := by unfold outW; simpa using hlt
          have e2 : (outW ls)[k] = ((ls[k]).no, cw :: ws) := by
            have := HL.out; rw [List.getElem?_eq_getElem hl] at this; injection this
          rw [List.take_succ_eq_append_getElem hl, e2, runS_snoc, hrun.out]
          simp only [he])
        generalize (ls[k]).no = lno at *
        clear hSF ws1 ws2 ws4 hc2 hb2 l1 l2 hat hq HL
        go_upto_region 9 with (go_at_call 14; (with_reducible refine Calls.mono (CR.out _ ?_) ?_); exact (by repeat (first | with_reducible exact Below.refl _ _ | with_reducible refine bel_then ?_ _ | with_reducible refine bel_grow ?_ _ | with_reducible refine bel_alloc ?_ _ | with_reducible refine bel_drew ?_ | with_reducible refine bel_set ?_ (by simp) _ | with_reducible refine bel_setRow ?_ (by first | omega | (simp; done)) _)); rintro e W2 hp; obtain ⟨hB2, hp⟩ := readP_or hp; rcases hp with ⟨kk, hr, rfl, hfb⟩ | ⟨sc', val', hr, rfl, hR'⟩)
        · have hkk := line_err hr
          have hkz : ((kk : Int) == 0) = false := by simp; omega
          have hkz2 : ¬ (kk : Int) = 0 := by omega
          have hE := Lib.hid (show sceneT s.data.toList = .error (lno, kk) by rw [HO.out, HN.out kk hr])
          have hb2g : Below g W0 W2 := hbw.out.trans hB2
          have hb20 : Below W0.heap.size W0 W2 := by rw [← hg.out]; exact hb2g
          have kl0 : W2.cell? ⟨bl, k * 2, none⟩ = some (.int .i64 (lno : Int)) := (hfb.cell (p := ⟨bl, k * 2, none⟩) hblr).trans d0
          have BR2 : Blk W2 w.heap.size 35 scZ := (hb2g.block _ hRl).trans BR.out
          have HB2 : Below w.heap.size w W2 := HBw.out.trans (hb2g.mono (Nat.le_of_lt hRl))
          replace HB2 := Lib.hid HB2
          have hrk : w.heap.size ≠ bl := fun e => by
            have h1 := (hLN.out.1.lt bl rfl).1
            simp at h1
            omega
          have kl3 : (W2.setRow w.heap.size scZ).cell? ⟨bl, k * 2, none⟩ = some (.int .i64 (lno : Int)) := by
            rw [cell_setRow_other _ _ _ _ (Ne.symm hrk)]; exact kl0
          replace kl3 := Lib.hid kl3
          clear hb2g hB2 hfb hbw hR hrun CR HN HS hkk
          go_wp2_with fail
          refine wp_region_held (S := fun w' => w'.cell? ⟨bl, k * 2, none⟩ = some (.int .i64 (lno : Int)) ∧ ∃ d : Nat, w' = { W2 with drawn := d } ∨ w' = { W2.setRow w.heap.size scZ with drawn := d }) (by kernel_rfl) ?_
          refine wpAnyH_take (i := 0) (v := .agg scZ) rfl (by kernel_rfl) (by kernel_rfl) (by kernel_rfl) (fun _ _ _ h => h) (.inl ⟨rfl, fun w _ => build_Scene _ _ rfl w⟩) ⟨kl0, _, .inl rfl⟩ ?_
          try simp only [Act.put, List.getElem_toArray, List.getElem_cons_zero, List.getElem_cons_succ, List.setIfInBounds_toArray, List.set_cons_succ, List.set_cons_zero]
          refine wpAnyH_take (i := 1) (v := .slice (some ⟨bl, 0, none⟩) ls.length c) rfl (by kernel_rfl) (by kernel_rfl) (by kernel_rfl) (fun _ _ _ h => h) (.inl ⟨rfl, fun w _ => by simp [execOp, go_sem, Act.put]⟩) ⟨kl0, _, .inl rfl⟩ ?_
          try simp only [Act.put, List.getElem_toArray, List.getElem_cons_zero, List.getElem_cons_succ, List.setIfInBounds_toArray, List.set_cons_succ, List.set_cons_zero]
          refine wpAnyH_take (i := 2) (v := .int .i64 (k : Int)) rfl (by kernel_rfl) (by kernel_rfl) (by kernel_rfl) (fun _ _ _ h => h) (.inl ⟨rfl, fun w _ => by simp [execOp, go_sem, Act.put]⟩) ⟨kl0, _, .inl rfl⟩ ?_
          try simp only [Act.put, List.getElem_toArray, List.getElem_cons_zero, List.getElem_cons_succ, List.setIfInBounds_toArray, List.set_cons_succ, List.set_cons_zero]
          refine wpAnyH_take (i := 3) (v := .pointer (some ⟨bl, k * 2, none⟩)) rfl (by kernel_rfl) (by kernel_rfl) (by kernel_rfl) (fun _ _ _ h => h) (.inl ⟨rfl, fun w _ => by simp [execOp, go_sem, Act.put, k0, k1]⟩) ⟨kl0, _, .inl rfl⟩ ?_
          try simp only [Act.put, List.getElem_toArray, List.getElem_cons_zero, List.getElem_cons_succ, List.setIfInBounds_toArray, List.set_cons_succ, List.set_cons_zero]
          refine wpAnyH_take (i := 4) (v := .pointer (some ⟨bl, k * 2, none⟩)) rfl (by kernel_rfl) (by kernel_rfl) (by kernel_rfl) (fun _ _ _ h => h) (.inl ⟨rfl, fun w _ => by simp [execOp, go_sem, Act.put]⟩) ⟨kl0, _, .inl rfl⟩ ?_
          try simp only [Act.put, List.getElem_toArray, List.getElem_cons_zero, List.getElem_cons_succ, List.setIfInBounds_toArray, List.set_cons_succ, List.set_cons_zero]
          refine wpAnyH_take (i := 5) (v := .int .i64 (lno : Int)) rfl (by kernel_rfl) (by kernel_rfl) (by kernel_rfl) (fun _ _ _ h => h) (.inl ⟨rfl, fun w hS => by simp [execOp, go_sem, Act.put, hS.1]⟩) ⟨kl0, _, .inl rfl⟩ ?_
          try simp only [Act.put, List.getElem_toArray, List.getElem_cons_zero, List.getElem_cons_succ, List.setIfInBounds_toArray, List.set_cons_succ, List.set_cons_zero]
          refine wpAnyH_take (i := 6) (v := .int .i64 (kk : Int)) rfl (by kernel_rfl) (by kernel_rfl) (by kernel_rfl) (fun _ _ _ h => h) (.inl ⟨rfl, fun w _ => by simp [execOp, go_sem, Act.put]⟩) ⟨kl0, _, .inl rfl⟩ ?_
          try simp only [Act.put, List.getElem_toArray, List.getElem_cons_zero, List.getElem_cons_succ, List.setIfInBounds_toArray, List.set_cons_succ, List.set_cons_zero]
          refine wpAnyH_store (i := 7) (by kernel_rfl) rfl rfl ((storeS_row (P := Tryd.prog) 35 scZ scZ (.tmp 2) (.tmp 39) rfl rfl rfl rfl rfl infoSc rfl scZ_one).2.2 _ BR2) ⟨kl3.out, _, .inr rfl⟩ ?_
          try simp only [Act.put, List.getElem_toArray, List.getElem_cons_zero, List.getElem_cons_succ, List.setIfInBounds_toArray, List.set_cons_succ, List.set_cons_zero]
          refine wpAnyH_take (i := 8) (v := .int .i64 (lno : Int)) rfl (by kernel_rfl) (by kernel_rfl) (by kernel_rfl) (fun _ _ _ h => h) (.inl ⟨rfl, fun w _ => by simp [execOp, go_sem, Act.put]⟩) ⟨kl3.out, _, .inr rfl⟩ ?_
          try simp only [Act.put, List.getElem_toArray, List.getElem_cons_zero, List.getElem_cons_succ, List.setIfInBounds_toArray, List.set_cons_succ, List.set_cons_zero]
          refine wpAnyH_take (i := 9) (v := .int .i64 (kk : Int)) rfl (by kernel_rfl) (by kernel_rfl) (by kernel_rfl) (fun _ _ _ h => h) (.inl ⟨rfl, fun w _ => by simp [execOp, go_sem, Act.put]⟩) ⟨kl3.out, _, .inr rfl⟩ ?_
          try simp only [Act.put, List.getElem_toArray, List.getElem_cons_zero, List.getElem_cons_succ, List.setIfInBounds_toArray, List.set_cons_succ, List.set_cons_zero]
          refine wpAnyH_done (by kernel_rfl) ?_ _
          try simp only [Act.put, List.getElem_toArray, List.getElem_cons_zero, List.getElem_cons_succ, List.setIfInBounds_toArray, List.set_cons_succ, List.set_cons_zero]
          go_wp2_with fail
          refine bodyPost_ret (v := .tuple #[.agg scZ, .int .i64 (lno : Int), .int .i64 (kk : Int)]) (res_sceneD _ _ scZ _ _ _ (BR2.setRow scZ) rfl rfl rfl rfl) rfl ⟨?_, by rw [hE.out]⟩
          have hb := bel_setRow HB2.out (Nat.le_refl w.heap.size) scZ
          exact ⟨hb.os, hb.tape, hb.output, hb.size, hb.block⟩
        · go_wp2_with fail
          go_roundw
          case rel => exact ⟨k + 1, sc', val', by go_num, by omega, Lib.hid (HS.out sc' hr), Lib.hid (invT_line hr hinv.out), Lib.hid hR', Lib.hid (hbw.out.trans hB2)⟩
          case measure => simp [intOf] <;> omega
      · obtain rfl : k = ls.length := by omega
        have hRb : Below g W0 wr := hbw.out
        have BRr : Blk wr w.heap.size 35 scZ := (hRb.block _ hRl).trans BR.out
        have HBr : Below w.heap.size w wr := HBw.out.trans (hRb.mono (Nat.le_of_lt hRl))
        have hrun2 : runS scn0 (outW ls) = .ok sc := by
          have e : (outW ls).take ls.length = outW ls := List.take_of_length_le (by unfold outW; simp)
          rw [← e]; exact hrun.out
        have HO2 := Lib.hid (show sceneT s.data.toList = if sc.cam.isSome then .ok sc else .error (0, 15) by rw [HO.out, hrun2])
        have c24 : wr.cell? ⟨g, 24, none⟩ = some (.bool sc.cam.isSome) := hR.out.blk.cell 24
        have hrg : wr.rangeAt g 0 (sceneV sc val).toList := hR.out.range
        have hone := hR.out.one
        have hgl := hR.out.lt
        have hRg : w.heap.size ≠ g := by omega
        replace HBr := Lib.hid HBr
        clear hRb hrun hrun2 hbw HO BR HBw
        cases hcam : sc.cam.isSome
        · rw [hcam] at c24
          go_wp2_with (first | (refine wpList_val rfl _ _ (build_Scene _ _ rfl _) ?_) | (refine wpList_store_rowTo rfl 35 _ _ rfl rfl w.heap.size (scZ) rfl rfl 35 scZ BRr infoSc rfl scZ_one ?_))
          refine bodyPost_ret (v := .tuple #[.agg scZ, .int .i64 0, .int .i64 15]) (res_sceneD _ _ scZ _ _ _ (BRr.setRow scZ) rfl rfl rfl rfl) rfl ⟨bel_setRow HBr.out (Nat.le_refl _) _, ?_⟩
          rw [HO2.out, hcam]
          rfl
        · rw [hcam] at c24
          have hstore : Blk wr w.heap.size 35 scZ := BRr
          go_wp2_with (first | (refine wpList_load_mid rfl 35 _ rfl g 0 rfl (sceneV sc val).toList _ hrg Tryd.underlying35 rfl infoSc ?_) | (refine wpList_store_rowTo rfl 35 _ _ rfl rfl w.heap.size ((sceneV sc val).toList.toArray) rfl rfl 35 scZ BRr infoSc rfl hone ?_))
          refine bodyPost_ret (v := .tuple #[.agg (sceneV sc val), .int .i64 0, .int .i64 0]) (res_sceneD _ _ (sceneV sc val) _ _ _ (BRr.setRow _) rfl rfl rfl rfl) rfl ⟨bel_setRow HBr.out (Nat.le_refl _) _, ?_⟩
          rw [HO2.out, hcam]
          exact ⟨g, val, rfl, Nat.le_of_lt hRl, hR.out.asideRowD BRr⟩

end Go.Proofs.YtehmlofhiffanaaDoor

/- The scenes that the document fixes for layer 6: alive answers true. -/
namespace Go.Proofs.YtehmlofhiffanaaDoor
open Go.RowKit
set_option linter.unusedVariables false
set_option linter.unusedSimpArgs false
set_option linter.unnecessarySimpa false

def sc1 : Scn := ⟨some [0, 0, -9, 0, 0, 8, 1, 0, 0, 0, 1, 0, 2, 2, 1, 0], none, [], [([109], [1, 2, 3, 0, 1, 0, 0, 256])], [], [⟨[99], 0, 1, 5, -1, 0⟩], [⟨[[1, 2, 3]], [], []⟩]⟩
def al1 : List UInt8 := "camera 0 0 -9 0 0 8 1 0 0 0 1 0 2 2 1 0\nmaterial m 1 2 3 0 1 0 0 256\ncage c m 1 5 - 0\nv 1 2 3\n".toUTF8.data.toList
def al2 : List UInt8 := "\nlight 1".toUTF8.data.toList
def al3 : List UInt8 := "sky 1 2 3".toUTF8.data.toList
theorem al1_sc : sceneT al1 = .ok sc1 := by kernel_rfl
theorem al2_sc : sceneT al2 = .error (2, 10) := by kernel_rfl
theorem al3_sc : sceneT al3 = .error (0, 15) := by kernel_rfl
theorem parse_al1 (w : World) (s : ByteArray) (e0 : s.data.toList = al1) (ht : Tabs w) : Calls Tryd.prog 8 #[.string s] w fun e w' => ∃ (L M T : Value) (bS cS bC cC bv cv : Nat), e = .returned (.tuple #[.agg #[.int .i64 0, .int .i64 0, .int .i64 (-9), .int .i64 0, .int .i64 0, .int .i64 8, .int .i64 1, .int .i64 0, .int .i64 0, .int .i64 0, .int .i64 1, .int .i64 0, .int .i64 2, .int .i64 2, .int .i64 1, .int .i64 0, .int .i64 0, .int .i64 0, .int .i64 0, L, M, T, .slice (some ⟨bS, 0, none⟩) 1 cS, .slice (some ⟨bC, 0, none⟩) 1 cC], .int .i64 0, .int .i64 0]) ∧ Below w.heap.size w w' ∧ bS < w'.heap.size ∧ bC < w'.heap.size ∧ w'.cell? ⟨bS, 4, none⟩ = some (.int .i64 (-1)) ∧ w'.cell? ⟨bC, 0, none⟩ = some (.slice (some ⟨bv, 0, none⟩) 1 cv) ∧ ((#[.int .i64 0, .int .i64 0, .int .i64 (-9), .int .i64 0, .int .i64 0, .int .i64 8, .int .i64 1, .int .i64 0, .int .i64 0, .int .i64 0, .int .i64 1, .int .i64 0, .int .i64 2, .int .i64 2, .int .i64 1, .int .i64 0, .int .i64 0, .int .i64 0, .int .i64 0, L, M, T, .slice (some ⟨bS, 0, none⟩) 1 cS, .slice (some ⟨bC, 0, none⟩) 1 cC] : Array Value)).all (·.oneCell') = true := by
  have hz : s.size ≤ 65536 := by
    have : s.size = al1.length := by rw [← e0]; rfl
    rw [this]
    exact of_decide_eq_true (by kernel_rfl)
  refine (parse_any w s hz ht).mono ?_
  rintro e w' ⟨hb, hp⟩
  rw [e0, al1_sc] at hp
  obtain ⟨g, val, rfl, hg, hR⟩ := hp
  have rS := show w'.ownsRow g 42 6 (val .skins) 1 _ from hR.own.row .skins
  have rC := show w'.ownsRow g 47 3 (val .cages) 1 _ from hR.own.row .cages
  have rv := show w'.ownsRow g 24 3 (val (.vert 0)) 1 _ from hR.own.row (.vert 0)
  obtain ⟨A1, c1, e1⟩ := own_form (show w'.ownsRow g 63 6 (val .lights) _ _ from hR.own.row .lights)
  obtain ⟨A2, c2, e2⟩ := own_form (show w'.ownsRow g 65 9 (val .mats) _ _ from hR.own.row .mats)
  obtain ⟨A3, c3, e3⟩ := own_form (show w'.ownsRow g 67 4 (val .texs) _ _ from hR.own.row .texs)
  obtain ⟨bS, cS, eS, _, hS⟩ := World.ownsRow.form rS (by simp)
  obtain ⟨bC, cC, eC, _, hC⟩ := World.ownsRow.form rC (by simp)
  obtain ⟨bv, cv, ev, _, _⟩ := World.ownsRow.form rv (by simp)
  rw [eS] at rS
  rw [eC] at rC
  refine ⟨val .lights, val .mats, val .texs, bS, cS, bC, cC, bv, cv, ?_, hb, hS, hC, ?_, ?_, ?_⟩
  · rw [← eS, ← eC]
    rfl
  · rw [rS.cellAt 4 (by simp [sc1])]
    rfl
  · rw [rC.cellAt 0 (by simp [sc1, cageSS, fC]), ← ev]
    rfl
  · rw [e1, e2, e3]
    simp [Value.oneCell']
theorem parse_al2 (w : World) (s : ByteArray) (e0 : s.data.toList = al2) (ht : Tabs w) : Calls Tryd.prog 8 #[.string s] w fun e w' => e = .returned (.tuple #[.agg scZ, .int .i64 2, .int .i64 10]) ∧ Below w.heap.size w w' := by
  have hz : s.size ≤ 65536 := by
    have : s.size = al2.length := by rw [← e0]; rfl
    rw [this]
    exact of_decide_eq_true (by kernel_rfl)
  refine (parse_any w s hz ht).mono ?_
  rintro e w' ⟨hb, hp⟩
  rw [e0, al2_sc] at hp
  exact ⟨hp, hb⟩
theorem parse_al3 (w : World) (s : ByteArray) (e0 : s.data.toList = al3) (ht : Tabs w) : Calls Tryd.prog 8 #[.string s] w fun e w' => e = .returned (.tuple #[.agg scZ, .int .i64 0, .int .i64 15]) ∧ Below w.heap.size w w' := by
  have hz : s.size ≤ 65536 := by
    have : s.size = al3.length := by rw [← e0]; rfl
    rw [this]
    exact of_decide_eq_true (by kernel_rfl)
  refine (parse_any w s hz ht).mono ?_
  rintro e w' ⟨hb, hp⟩
  rw [e0, al3_sc] at hp
  exact ⟨hp, hb⟩
end Go.Proofs.YtehmlofhiffanaaDoor

/- Layer 6: alive answers true. -/
namespace Go.Proofs.YtehmlofhiffanaaDoor
open Go.RowKit
set_option linter.unusedVariables false
set_option linter.unusedSimpArgs false
set_option linter.unnecessarySimpa false

/-- A scene's variable is made and stored into. -/
theorem scene_var (w W1 : World) (cs : Array Value) (hb : Below w.heap.size w W1) : Below w.heap.size w (W1.alloc (.cells cs 35)) := bel_alloc hb _
set_option maxRecDepth 100000 in
theorem alive6_any (w : World) (ht : Tabs w) : Calls Tryd.prog 7 #[] w fun e w' => e = .returned (.bool true) ∧ Below w.heap.size w w' := by
  go_enter Tryd.func7, Tryd.ntmps7
  go_upto_region 2 with (first | (go_at_call 8; (with_reducible refine Calls.mono (parse_al1 _ _ ?_ ht) ?_); exact (by kernel_rfl); rintro e W1 ⟨L, M, T, bS, cS, bC, cC, bv, cv, rfl, hb1, hS, hC, k4, k0, ho⟩) | (refine wpList_val rfl _ _ (alloc_Scene _ _ rfl _) ?_) | (refine wpList_store_rowTo rfl 35 _ _ rfl rfl W1.heap.size (#[.int .i64 0, .int .i64 0, .int .i64 (-9), .int .i64 0, .int .i64 0, .int .i64 8, .int .i64 1, .int .i64 0, .int .i64 0, .int .i64 0, .int .i64 1, .int .i64 0, .int .i64 2, .int .i64 2, .int .i64 1, .int .i64 0, .int .i64 0, .int .i64 0, .int .i64 0, L, M, T, .slice (some ⟨bS, 0, none⟩) 1 cS, .slice (some ⟨bC, 0, none⟩) 1 cC]) rfl rfl 35 scZ (Blk.new _ _ _ _ rfl) infoSc rfl ho ?_))
  obtain ⟨p, hp⟩ : ∃ p, p = W1.heap.size := ⟨_, rfl⟩
  have hW2 : Below W1.heap.size W1 (W1.alloc (.cells (#[.int .i64 0, .int .i64 0, .int .i64 (-9), .int .i64 0, .int .i64 0, .int .i64 8, .int .i64 1, .int .i64 0, .int .i64 0, .int .i64 0, .int .i64 1, .int .i64 0, .int .i64 2, .int .i64 2, .int .i64 1, .int .i64 0, .int .i64 0, .int .i64 0, .int .i64 0, L, M, T, .slice (some ⟨bS, 0, none⟩) 1 cS, .slice (some ⟨bC, 0, none⟩) 1 cC]) 35)) := scene_var W1 W1 (#[.int .i64 0, .int .i64 0, .int .i64 (-9), .int .i64 0, .int .i64 0, .int .i64 8, .int .i64 1, .int .i64 0, .int .i64 0, .int .i64 0, .int .i64 1, .int .i64 0, .int .i64 2, .int .i64 2, .int .i64 1, .int .i64 0, .int .i64 0, .int .i64 0, .int .i64 0, L, M, T, .slice (some ⟨bS, 0, none⟩) 1 cS, .slice (some ⟨bC, 0, none⟩) 1 cC]) (Below.refl _ _)
  have KB : Blk (W1.alloc (.cells (#[.int .i64 0, .int .i64 0, .int .i64 (-9), .int .i64 0, .int .i64 0, .int .i64 8, .int .i64 1, .int .i64 0, .int .i64 0, .int .i64 0, .int .i64 1, .int .i64 0, .int .i64 2, .int .i64 2, .int .i64 1, .int .i64 0, .int .i64 0, .int .i64 0, .int .i64 0, L, M, T, .slice (some ⟨bS, 0, none⟩) 1 cS, .slice (some ⟨bC, 0, none⟩) 1 cC]) 35)) W1.heap.size 35 (#[.int .i64 0, .int .i64 0, .int .i64 (-9), .int .i64 0, .int .i64 0, .int .i64 8, .int .i64 1, .int .i64 0, .int .i64 0, .int .i64 0, .int .i64 1, .int .i64 0, .int .i64 2, .int .i64 2, .int .i64 1, .int .i64 0, .int .i64 0, .int .i64 0, .int .i64 0, L, M, T, .slice (some ⟨bS, 0, none⟩) 1 cS, .slice (some ⟨bC, 0, none⟩) 1 cC]) := Blk.new _ _ _ _ rfl
  generalize W1.alloc (.cells (#[.int .i64 0, .int .i64 0, .int .i64 (-9), .int .i64 0, .int .i64 0, .int .i64 8, .int .i64 1, .int .i64 0, .int .i64 0, .int .i64 0, .int .i64 1, .int .i64 0, .int .i64 2, .int .i64 2, .int .i64 1, .int .i64 0, .int .i64 0, .int .i64 0, .int .i64 0, L, M, T, .slice (some ⟨bS, 0, none⟩) 1 cS, .slice (some ⟨bC, 0, none⟩) 1 cC]) 35) = W2 at *
  have ht2 := ht.below (hb1.trans (hW2.mono hb1.size))
  go_upto_region 3 with (first | (go_at_call 8; (with_reducible refine Calls.mono (parse_al2 _ _ ?_ ht2) ?_); exact (by kernel_rfl); rintro e W3 ⟨rfl, hb2⟩) | (refine wpList_val rfl _ _ (alloc_Scene _ _ rfl _) ?_) | (refine wpList_store_rowTo rfl 35 _ _ rfl rfl W3.heap.size (scZ) rfl rfl 35 scZ (Blk.new _ _ _ _ rfl) infoSc rfl scZ_one ?_))
  have hW4 : Below W3.heap.size W3 (W3.alloc (.cells scZ 35)) := scene_var W3 W3 scZ (Below.refl _ _)
  generalize W3.alloc (.cells scZ 35) = W4 at *
  have h24 : Below W2.heap.size W2 W4 := hb2.trans (hW4.mono hb2.size)
  have ht4 := ht2.below h24
  go_upto_region 4 with (first | (go_at_call 8; (with_reducible refine Calls.mono (parse_al3 _ _ ?_ ht4) ?_); exact (by kernel_rfl); rintro e W5 ⟨rfl, hb5⟩) | (refine wpList_val rfl _ _ (alloc_Scene _ _ rfl _) ?_) | (refine wpList_store_rowTo rfl 35 _ _ rfl rfl W5.heap.size (scZ) rfl rfl 35 scZ (Blk.new _ _ _ _ rfl) infoSc rfl scZ_one ?_))
  have hW6 : Below W5.heap.size W5 (W5.alloc (.cells scZ 35)) := scene_var W5 W5 scZ (Below.refl _ _)
  generalize W5.alloc (.cells scZ 35) = W6 at *
  have h26 : Below W2.heap.size W2 W6 := h24.trans ((hb5.trans (hW6.mono hb5.size)).mono h24.size)
  have h16 : Below W1.heap.size W1 W6 := hW2.trans (h26.mono hW2.size)
  have h06 : Below w.heap.size w W6 := hb1.trans (h16.mono hb1.size)
  have d2 : W6.cell? ⟨p, 2, none⟩ = some (.int .i64 (-9)) := by rw [hp]; exact (KB.below h26).cell 2
  have d22 : W6.cell? ⟨p, 22, none⟩ = some (.slice (some ⟨bS, 0, none⟩) 1 cS) := by rw [hp]; exact (KB.below h26).cell 22
  have d23 : W6.cell? ⟨p, 23, none⟩ = some (.slice (some ⟨bC, 0, none⟩) 1 cC) := by rw [hp]; exact (KB.below h26).cell 23
  have d4 : W6.cell? ⟨bS, 4, none⟩ = some (.int .i64 (-1)) := (h16.cell hS).trans k4
  have d0 : W6.cell? ⟨bC, 0, none⟩ = some (.slice (some ⟨bv, 0, none⟩) 1 cv) := (h16.cell hC).trans k0
  rw [← hp]
  replace h06 := Lib.hid h06
  clear h16 h26 hW6 hb5 ht4 h24 hW4 hb2 ht2 KB hW2 hp k0 k4 hS hC hb1 ht ho
  go_wp2_with fail
  go_ret
  exact ⟨rfl, h06.out⟩
end Go.Proofs.YtehmlofhiffanaaDoor

/- For the laws of layer 6: what Parse answers, told by its numbers. -/
namespace Go.Proofs.YtehmlofhiffanaaDoor
open Go.RowKit
set_option linter.unusedVariables false
set_option linter.unusedSimpArgs false
set_option linter.unnecessarySimpa false

theorem sceneT_inv {l : List UInt8} {sc : Scn} (h : sceneT l = .ok sc) : InvS sc ∧ sc.cam ≠ none := by
  unfold sceneT at h
  cases q : linesP 1 [] (spl l) with
  | error n => rw [q] at h; cases h
  | ok o => rw [q] at h; exact inv_scene h
/-- An answer: a scene's cells, a line, an error; the width, if there is a scene. -/
def resP (w : World) (n k : Int) (e : Ending) (w' : World) : Prop := ∃ (cs : Array Value) (x : Int), e = .returned (.tuple #[.agg cs, .int .i64 n, .int .i64 k]) ∧ Below w.heap.size w w' ∧ cs.size = 24 ∧ cs.all (·.oneCell') = true ∧ cs[12]? = some (.int .i64 x) ∧ (k = 0 → 0 < x)
theorem parse_err (s : ByteArray) (hs : s.size ≤ 65536) (n k : Nat) (hk : 10 ≤ k) (h : sceneT s.data.toList = .error (n, k)) (w : World) (ht : Tabs w) : Calls Tryd.prog 8 #[.string s] w fun e w' => resP w (n : Int) (k : Int) e w' := by
  refine (parse_any w s hs ht).mono ?_
  rintro e w' ⟨hb, hp⟩
  rw [h] at hp
  exact ⟨scZ, 0, hp, hb, rfl, scZ_one, rfl, fun h => by omega⟩
theorem parse_ok (s : ByteArray) (hs : s.size ≤ 65536) (sc : Scn) (h : sceneT s.data.toList = .ok sc) (w : World) (ht : Tabs w) : Calls Tryd.prog 8 #[.string s] w fun e w' => resP w 0 0 e w' := by
  refine (parse_any w s hs ht).mono ?_
  rintro e w' ⟨hb, hp⟩
  rw [h] at hp
  obtain ⟨g, val, rfl, hg, hR⟩ := hp
  obtain ⟨hi, hc⟩ := sceneT_inv h
  refine ⟨sceneV sc val, (camN sc).getD 12 0, rfl, hb, rfl, hR.one, rfl, fun _ => ?_⟩
  unfold camN
  cases q : sc.cam with
  | none => exact absurd q hc
  | some n => have := (hi.cam n q).2.1.1; simp only [Option.getD_some]; omega
/-- What two texts, one with a line more, may answer. -/
def frontsP (n k m f : Int) (no : Nat) : Prop :=
  (k ≠ 0 ∧ n ≠ 0 ∧ ((f = k ∧ m = n) ∨ f = 10)) ∨ (k = 15 ∧ n = 0 ∧ f ≠ 0 ∧ (m = (no : Int) ∨ (f = 15 ∧ m = 0))) ∨ (k = 15 ∧ n = 0 ∧ f = 0) ∨ (k = 0 ∧ n = 0 ∧ f ≠ 0 ∧ m = (no : Int)) ∨ (k = 0 ∧ n = 0 ∧ f = 0)
theorem fronts_calls (s t : ByteArray) (hs : s.size ≤ 5000) (htl : t.size ≤ 1000) (ht : ∀ c ∈ t.data.toList, c ≠ 10) :
    ∃ n k m f : Int, (∀ w : World, Tabs w → Calls Tryd.prog 8 #[.string s] w fun e w' => resP w n k e w') ∧ (∀ w : World, Tabs w → Calls Tryd.prog 8 #[.string (s ++ (⟨#[10]⟩ : ByteArray) ++ t)] w fun e w' => resP w m f e w') ∧ frontsP n k m f (ends (nb s.data.toList) + 2) := by
  have h1 : s.size ≤ 65536 := by omega
  have h2 : (s ++ (⟨#[10]⟩ : ByteArray) ++ t).size ≤ 65536 := by
    have : (s ++ (⟨#[10]⟩ : ByteArray) ++ t).size = s.size + 1 + t.size := by simp [ByteArray.size_append]; rfl
    omega
  rcases fronts_run s t ht with ⟨n, e, q1, q2, q3, q4 | ⟨m, q4⟩⟩ | ⟨q1, ⟨e, q3, q4⟩ | q4 | ⟨sc, q4⟩⟩ | ⟨sc, q1, ⟨e, q3, q4⟩ | ⟨sc2, q4⟩⟩
  · exact ⟨n, e, n, e, parse_err s h1 n e q3.1 q1, parse_err _ h2 n e q3.1 q4, .inl ⟨by omega, by omega, .inl ⟨rfl, rfl⟩⟩⟩
  · exact ⟨n, e, m, (10 : Nat), parse_err s h1 n e q3.1 q1, parse_err _ h2 m 10 (by omega) q4, .inl ⟨by omega, by omega, .inr rfl⟩⟩
  · exact ⟨(0 : Nat), (15 : Nat), _, e, parse_err s h1 0 15 (by omega) q1, parse_err _ h2 _ e q3.1 q4, .inr (.inl ⟨rfl, rfl, by omega, .inl rfl⟩)⟩
  · exact ⟨(0 : Nat), (15 : Nat), (0 : Nat), (15 : Nat), parse_err s h1 0 15 (by omega) q1, parse_err _ h2 0 15 (by omega) q4, .inr (.inl ⟨rfl, rfl, by omega, .inr ⟨rfl, rfl⟩⟩)⟩
  · exact ⟨(0 : Nat), (15 : Nat), 0, 0, parse_err s h1 0 15 (by omega) q1, parse_ok _ h2 sc q4, .inr (.inr (.inl ⟨rfl, rfl, rfl⟩))⟩
  · exact ⟨0, 0, _, e, parse_ok s h1 sc q1, parse_err _ h2 _ e q3.1 q4, .inr (.inr (.inr (.inl ⟨rfl, rfl, by omega, rfl⟩)))⟩
  · exact ⟨0, 0, 0, 0, parse_ok s h1 sc q1, parse_ok _ h2 sc2 q4, .inr (.inr (.inr (.inr ⟨rfl, rfl, rfl⟩)))⟩
end Go.Proofs.YtehmlofhiffanaaDoor

/- Out of a scene that Parse answers: the rows' cells, one thing at a time. -/
namespace Go.Proofs.YtehmlofhiffanaaDoor
open Go.RowKit
set_option linter.unusedVariables false
set_option linter.unusedSimpArgs false
set_option linter.unnecessarySimpa false

section
variable {g : Nat} {W : World} {TR : TypeId} {sc : Scn} {val : Key → Value}
theorem range_row {W : World} {base : Nat} {T : TypeId} {sz n b c : Nat} {α : Type} (f : α → List Value) (hf : ∀ a, (f a).length = sz) (l : List α) (hl : l.length = n) (h : W.ownsRow base T sz (.slice (some ⟨b, 0, none⟩) n c) n (l.flatMap f)) (i : Nat) (hi : i < l.length) : W.rangeAt b (i * sz) (f l[i]) := fun j v hj => by
  have hj2 : j < sz := by rw [← hf l[i]]; exact (List.getElem?_eq_some_iff.1 hj).1
  have hlt : i * sz + j < n * sz := by
    have : (i + 1) * sz ≤ n * sz := Nat.mul_le_mul_right _ (by omega)
    rw [Nat.succ_mul] at this
    omega
  rw [h.cellAt _ hlt, flat_get f sz hf l i hi j hj2]
  exact hj
theorem RepV.skin_at (h : RepV g W g TR sc val) (i : Nat) (hi : i < sc.skins.length) : ∃ b c, val .skins = .slice (some ⟨b, 0, none⟩) sc.skins.length c ∧ W.rangeAt b (i * 6) (fS sc.skins[i]) := by
  have r := show W.ownsRow g 42 6 (val .skins) sc.skins.length (sc.skins.flatMap fS) from h.own.row .skins
  obtain ⟨b, c, e, _, _⟩ := World.ownsRow.form r (by omega)
  rw [e] at r
  exact ⟨b, c, e, range_row fS (fun _ => rfl) sc.skins rfl r i hi⟩
theorem RepV.cage_at (h : RepV g W g TR sc val) (i : Nat) (hi : i < sc.cages.length) : ∃ b c, val .cages = .slice (some ⟨b, 0, none⟩) sc.cages.length c ∧ W.rangeAt b (i * 3) [val (.vert i), val (.face i), val (.crease i)] := by
  have r := show W.ownsRow g 47 3 (val .cages) sc.cages.length ((cageSS sc.cages.length val).flatMap fC) from h.own.row .cages
  obtain ⟨b, c, e, _, _⟩ := World.ownsRow.form r (by omega)
  rw [e] at r
  have hl : (cageSS sc.cages.length val).length = sc.cages.length := by unfold cageSS; simp
  have k := range_row fC (fun _ => rfl) (cageSS sc.cages.length val) hl r i (by omega)
  have e2 : (cageSS sc.cages.length val)[i]'(by omega) = (val (.vert i), val (.face i), val (.crease i)) := by unfold cageSS; simp
  rw [e2] at k
  exact ⟨b, c, e, k⟩
theorem RepV.vert_form (h : RepV g W g TR sc val) (i : Nat) : ∃ A c, val (.vert i) = .slice A (cageAt sc i).verts.length c :=
  own_form (show W.ownsRow g 24 3 (val (.vert i)) _ _ from h.own.row (.vert i))
theorem RepV.face_form (h : RepV g W g TR sc val) (i : Nat) : ∃ A c, val (.face i) = .slice A (cageAt sc i).faces.length c :=
  own_form (show W.ownsRow g 48 1 (val (.face i)) _ _ from h.own.row (.face i))
theorem RepV.face_at (h : RepV g W g TR sc val) (i f : Nat) (hf : f < (cageAt sc i).faces.length) : ∃ b c, val (.face i) = .slice (some ⟨b, 0, none⟩) (cageAt sc i).faces.length c ∧ W.cell? ⟨b, f, none⟩ = some (val (.frow i f)) ∧ b < W.heap.size := by
  have r := show W.ownsRow g 48 1 (val (.face i)) (cageAt sc i).faces.length ((List.range (cageAt sc i).faces.length).map fun j => val (.frow i j)) from h.own.row (.face i)
  obtain ⟨b, c, e, _, hb⟩ := World.ownsRow.form r (by omega)
  rw [e] at r
  refine ⟨b, c, e, ?_, hb⟩
  rw [r.cellAt f (by omega)]
  simp [hf]
theorem RepV.frow_form (h : RepV g W g TR sc val) (i f : Nat) : ∃ A c, val (.frow i f) = .slice A ((cageAt sc i).faces.getD f []).length c := by
  have r := show roRow W g 3 (val (.frow i f)) ((cageAt sc i).faces.getD f []).length (i64s ((cageAt sc i).faces.getD f [])) from h.own.row (.frow i f)
  rcases r.2 with ⟨e, e2⟩ | ⟨b, off, cap, cur, e, _⟩
  · exact ⟨none, 0, by rw [e, e2]⟩
  · exact ⟨_, _, e⟩
theorem RepV.frow_at (h : RepV g W g TR sc val) (i f j : Nat) (hj : j < ((cageAt sc i).faces.getD f []).length) : ∃ b off c, val (.frow i f) = .slice (some ⟨b, off, none⟩) ((cageAt sc i).faces.getD f []).length c ∧ W.cell? ⟨b, off + j, none⟩ = some (.int .i64 (((cageAt sc i).faces.getD f []).getD j 0)) := by
  have r := show roRow W g 3 (val (.frow i f)) ((cageAt sc i).faces.getD f []).length (i64s ((cageAt sc i).faces.getD f [])) from h.own.row (.frow i f)
  rcases r.2 with ⟨e, e2⟩ | ⟨b, off, cap, cur, e, _, hc, hx⟩
  · omega
  · refine ⟨b, off, cap, e, ?_⟩
    rw [cell_of_row _ _ _ _ _ _ hc, hx j hj, i64s_get _ _ hj]
/-- What the bounds say of cage i. -/
theorem inv_cage {sc : Scn} (h : InvS sc) (i : Nat) (hi : i < sc.cages.length) : (cageAt sc i).verts.length ≤ 64 ∧ (cageAt sc i).faces.length ≤ 64 ∧ ∀ f j, f < (cageAt sc i).faces.length → j < ((cageAt sc i).faces.getD f []).length → 0 ≤ ((cageAt sc i).faces.getD f []).getD j 0 ∧ ((cageAt sc i).faces.getD f []).getD j 0 < ((cageAt sc i).verts.length : Int) := by
  have e : cageAt sc i = sc.cages[i] := by unfold cageAt; simp [List.getD, hi]
  rw [e]
  obtain ⟨h1, h2, h3⟩ := h.cage sc.cages[i] (List.getElem_mem hi)
  refine ⟨h1, h2, fun f j hf hj => ?_⟩
  have ef : sc.cages[i].faces.getD f [] = sc.cages[i].faces[f] := by simp [List.getD, hf]
  rw [ef] at hj ⊢
  have ej : sc.cages[i].faces[f].getD j 0 = sc.cages[i].faces[f][j] := by simp [List.getD, hj]
  rw [ej]
  exact h3 _ (List.getElem_mem hf) _ (List.getElem_mem hj)
end
end Go.Proofs.YtehmlofhiffanaaDoor

/- What all scenes that are read have: enough to be told again (math). -/
namespace Go.Proofs.YtehmlofhiffanaaDoor
set_option linter.unusedVariables false
set_option linter.unusedSimpArgs false
set_option linter.unnecessarySimpa false
structure GoodC (c : CageM) : Prop where
  nv : c.verts.length ≤ 64
  verts : ∀ n ∈ c.verts, n.length = 3 ∧ wi n 0 3 (-16384) 16384 = true
  nf : c.faces.length ≤ 64
  faces : ∀ n ∈ c.faces, 3 ≤ n.length ∧ n.length ≤ 8 ∧ wi n 0 n.length 0 ((c.verts.length : Int) - 1) = true
  nc : c.creases.length ≤ 128
  creases : ∀ n ∈ c.creases, n.length = 3 ∧ wi n 0 2 0 ((c.verts.length : Int) - 1) = true ∧ n.getD 0 0 ≠ n.getD 1 0 ∧ wi n 2 3 1 255 = true
structure Good (sc : Scn) : Prop where
  cam : ∀ n, sc.cam = some n → n.length = 16 ∧ (wi n 0 6 (-16384) 16384 && wi n 6 12 (-32) 32 && wi n 12 14 1 64 && wi n 14 15 1 4 && wi n 15 16 0 8) = true
  sky : ∀ n, sc.sky = some n → n.length = 3 ∧ wi n 0 3 0 255 = true
  nl : sc.lights.length ≤ 4
  lights : ∀ n ∈ sc.lights, n.length = 6 ∧ (wi n 0 3 (-16384) 16384 && wi n 3 6 0 255) = true
  nt : sc.texs.length ≤ 4
  tn : (sc.texs.map (·.1)).Nodup
  texs : ∀ q ∈ sc.texs, isN q.1 = true ∧ 2 ≤ q.2.length ∧ q.2.getD 0 0 * q.2.getD 1 0 = (q.2.length : Int) - 2 ∧ (wi q.2 0 2 1 16 && wi q.2 2 q.2.length 0 255) = true
  nm : sc.mats.length ≤ 8
  mn : (sc.mats.map (·.1)).Nodup
  mats : ∀ q ∈ sc.mats, isN q.1 = true ∧ q.2.length = 8 ∧ (wi q.2 0 3 0 255 && wi q.2 3 4 0 256 && wi q.2 4 5 1 64 && wi q.2 5 7 0 256 && decide (q.2.getD 5 0 + q.2.getD 6 0 ≤ 256) && wi q.2 7 8 64 1024) = true
  ns : sc.skins.length = sc.cages.length ∧ sc.cages.length ≤ 8
  sn : (sc.skins.map (·.name)).Nodup
  skins : ∀ k ∈ sc.skins, isN k.name = true ∧ k.mat < sc.mats.length ∧ -1 ≤ k.tex ∧ k.tex < sc.texs.length ∧ (0 ≤ k.levels ∧ k.levels ≤ 2) ∧ (1 ≤ k.unit ∧ k.unit ≤ 65536) ∧ 0 ≤ k.height ∧ k.height ≤ 255
  cages : ∀ c ∈ sc.cages, GoodC c
theorem place_notin (name : Wd) : ∀ l : List Wd, place name l = none → name ∉ l
  | [], _, h => by cases h
  | x :: l, h, hm => by
    unfold place at h
    split at h
    · cases h
    · rename_i hx
      rcases List.mem_cons.1 hm with e | hm
      · exact hx e.symm
      · cases q : place name l with
        | none => exact place_notin name l q hm
        | some i => rw [q] at h; cases h
theorem nodup_snoc {l : List Wd} {x : Wd} (h : l.Nodup) (hx : x ∉ l) : (l ++ [x]).Nodup := by
  rw [List.nodup_append]
  refine ⟨h, by simp, fun a ha b hb e => ?_⟩
  rw [List.mem_singleton] at hb
  subst hb
  subst e
  exact hx ha
theorem wi_mono {n : List Int} {a b : Nat} {lo hi hi' : Int} (h : wi n a b lo hi = true) (hh : hi ≤ hi') : wi n a b lo hi' = true := by
  unfold wi at *
  rw [List.all_eq_true] at *
  intro x hx
  have := h x hx
  simp only [Bool.and_eq_true, decide_eq_true_eq] at *
  omega
theorem good0 : Good scn0 :=
  ⟨(fun n h => by cases h), (fun n h => by cases h), by decide, (fun n h => by cases h), by decide, by decide, (fun n h => by cases h), by decide, by decide, (fun n h => by cases h), ⟨rfl, by decide⟩, by decide, (fun n h => by cases h), (fun n h => by cases h)⟩
theorem goodC0 : GoodC ⟨[], [], []⟩ := ⟨by decide, (fun n h => by cases h), by decide, (fun n h => by cases h), by decide, (fun n h => by cases h)⟩
theorem all_snoc {α : Type} {P : α → Prop} {l : List α} {x : α} (h : ∀ a ∈ l, P a) (hx : P x) : ∀ a ∈ l ++ [x], P a := fun a ha => by
  rcases List.mem_append.1 ha with ha | ha
  · exact h a ha
  · rw [List.mem_singleton] at ha; subst ha; exact hx
theorem good_last {sc : Scn} (h : Good sc) {c : CageM} (hc : sc.cages.getLast? = some c) (f : CageM → CageM) (hf : GoodC (f c)) : Good { sc with cages := onLast f sc.cages } := by
  obtain ⟨ys, e1, e2⟩ := onLast_at (f := f) hc
  have hl : (onLast f sc.cages).length = sc.cages.length := onLast_len f _ c hc
  refine ⟨h.cam, h.sky, h.nl, h.lights, h.nt, h.tn, h.texs, h.nm, h.mn, h.mats, ⟨h.ns.1.trans hl.symm, by show (onLast f sc.cages).length ≤ 8; rw [hl]; exact h.ns.2⟩, h.sn, h.skins, ?_⟩
  show ∀ c ∈ onLast f sc.cages, GoodC c
  rw [e2]
  exact all_snoc (fun a ha => h.cages a (by rw [e1]; simp [ha])) hf
theorem last_mem {l : List CageM} {c : CageM} (h : l.getLast? = some c) : c ∈ l := by
  obtain ⟨ys, rfl⟩ := List.getLast?_eq_some_iff.1 h
  simp
theorem good_adds {sc sc' : Scn} {ws : List Wd} (a : Adds sc ws sc') (h : Good sc) : Good sc' := by
  cases a with
  | camera ws n h1 h2 h3 h4 =>
    exact { h with cam := fun m hm => by simp only [Option.some.injEq] at hm; subst hm; exact ⟨h2, h4⟩ }
  | sky ws n h1 h2 h3 h4 =>
    exact { h with sky := fun m hm => by simp only [Option.some.injEq] at hm; subst hm; exact ⟨h2, h4⟩ }
  | light ws n h1 h2 h3 h4 =>
    exact { h with nl := by simp; omega, lights := all_snoc h.lights ⟨h2, h4⟩ }
  | texture name ws n h1 h2 h3 h4 h5 h6 h7 =>
    have hl := numsF_len _ _ h1
    exact { h with
      nt := by simp; omega
      tn := by simp only [List.map_append, List.map_cons, List.map_nil]; exact nodup_snoc h.tn (place_notin _ _ h6)
      texs := all_snoc h.texs ⟨h2, by show 2 ≤ n.length; omega, h4, h7⟩
      skins := fun k hk => by
        obtain ⟨a1, a2, a3, a4, a5⟩ := h.skins k hk
        exact ⟨a1, a2, a3, by simp; omega, a5⟩ }
  | material name ws n h1 h2 h3 h4 h5 h6 =>
    have hl := numsF_len _ _ h1
    exact { h with
      nm := by simp; omega
      mn := by simp only [List.map_append, List.map_cons, List.map_nil]; exact nodup_snoc h.mn (place_notin _ _ h5)
      mats := all_snoc h.mats ⟨h2, by show n.length = 8; omega, h6⟩
      skins := fun k hk => by
        obtain ⟨a1, a2, a5⟩ := h.skins k hk
        exact ⟨a1, by simp; omega, a5⟩ }
  | cage name mat w3 w4 tex w6 n i h1 h2 h3 h4 h5 h6 h7 h8 h9 =>
    have hl := numsF_len _ _ h4
    simp only [List.length_cons, List.length_nil] at hl
    simp only [Bool.and_eq_true] at h9
    obtain ⟨⟨w1, w2⟩, w3'⟩ := h9
    have b1 := wi_at w1 0 (by omega) (by omega) (by omega)
    have b2 := wi_at w2 1 (by omega) (by omega) (by omega)
    have b3 := wi_at w3' 2 (by omega) (by omega) (by omega)
    have hp := place_lt mat _ i h7
    have ht := placeI_lt tex (sc.texs.map (·.1))
    simp only [List.length_map] at hp ht
    exact { h with
      ns := ⟨by have := h.ns; simp; omega, by have := h.ns; simp; omega⟩
      sn := by simp only [List.map_append, List.map_cons, List.map_nil]; exact nodup_snoc h.sn (place_notin _ _ h6)
      skins := all_snoc h.skins ⟨h1, hp, ht.1, ht.2, b1, b2, b3⟩
      cages := all_snoc h.cages goodC0 }
  | vert ws n c h1 h2 h3 h4 h5 =>
    have g := h.cages c (last_mem h3)
    refine good_last h h3 (fun c => { c with verts := c.verts ++ [n] }) ⟨by simp; omega, all_snoc g.verts ⟨h2, h5⟩, g.nf, fun m hm => ?_, g.nc, fun m hm => ?_⟩
    · obtain ⟨a1, a2, a3⟩ := g.faces m hm
      exact ⟨a1, a2, wi_mono a3 (by simp; omega)⟩
    · obtain ⟨a1, a2, a3⟩ := g.creases m hm
      exact ⟨a1, wi_mono a2 (by simp; omega), a3⟩
  | face ws n c h1 h2 h2' h3 h4 h5 =>
    have g := h.cages c (last_mem h3)
    exact good_last h h3 (fun c => { c with faces := c.faces ++ [n] }) ⟨g.nv, g.verts, by simp; omega, all_snoc g.faces ⟨h2, h2', h5⟩, g.nc, g.creases⟩
  | crease ws n c h1 h2 h3 h4 h5 =>
    have g := h.cages c (last_mem h3)
    simp only [Bool.and_eq_true, Bool.not_eq_true', decide_eq_false_iff_not] at h5
    exact good_last h h3 (fun c => { c with creases := c.creases ++ [n] }) ⟨g.nv, g.verts, g.nf, g.faces, by simp; omega, all_snoc g.creases ⟨h2, h5.1.1, h5.1.2, h5.2⟩⟩
theorem good_run : ∀ (l : List (Nat × List Wd)) (sc sc' : Scn), runS sc l = .ok sc' → Good sc → Good sc'
  | [], sc, sc', h, hi => by unfold runS at h; injection h with h; subst h; exact hi
  | q :: l, sc, sc', h, hi => by
    unfold runS at h
    cases e : lineF sc q.2 with
    | error n => rw [e] at h; cases h
    | ok s2 => rw [e] at h; exact good_run l s2 sc' h (good_adds (lineF_adds e) hi)
theorem good_scene {l : List (Nat × List Wd)} {sc : Scn} (h : sceneF l = .ok sc) : Good sc ∧ sc.cam ≠ none := by
  unfold sceneF at h
  cases e : runS scn0 l with
  | error n => rw [e] at h; cases h
  | ok s2 =>
    rw [e] at h
    simp only at h
    split at h
    · rename_i hc
      injection h with h; subst h
      exact ⟨good_run l scn0 s2 e good0, fun k => by rw [k] at hc; cases hc⟩
    · cases h
theorem good_tex_len {sc : Scn} (h : Good sc) : ∀ q ∈ sc.texs, q.2.length ≤ 258 := fun q hq => by
  obtain ⟨_, h1, h2, h3⟩ := h.texs q hq
  simp only [Bool.and_eq_true] at h3
  have b0 := wi_at h3.1 0 (by omega) (by omega) (by omega)
  have b1 := wi_at h3.1 1 (by omega) (by omega) (by omega)
  have : q.2.getD 0 0 * q.2.getD 1 0 ≤ 16 * 16 := Int.mul_le_mul b0.2 b1.2 (by omega) (by omega)
  omega
end Go.Proofs.YtehmlofhiffanaaDoor

/- What Parse answers, as the document's Same reads it. -/
namespace Go.Proofs.YtehmlofhiffanaaDoor
open Go.RowKit
set_option linter.unusedVariables false
set_option linter.unusedSimpArgs false
set_option linter.unnecessarySimpa false
theorem CF_of_own {W : World} {base : Nat} {T : TypeId} {sz n c : Nat} {A : Option Addr} {xs : List Value} (h : W.ownsRow base T sz (.slice A n c) n xs) (hx : xs.length = n * sz) : CF W A xs := fun h0 => by
  rcases h.2 with ⟨h1, h2⟩ | ⟨g, cap, cur, h1, _, hg, _⟩
  · subst h2; rw [Nat.zero_mul] at hx; omega
  · injection h1 with hA _ hc
    subst hA hc
    refine ⟨g, 0, rfl, (h.lt g rfl).2, fun i hi => ?_⟩
    rw [Nat.zero_add, h.cellAt i (by omega)]
theorem IF_of_ro {W : World} {base : Nat} {T : TypeId} {A : Option Addr} {n c : Nat} {ns : List Int} (h : roRow W base T (.slice A n c) n (i64s ns)) (hn : ns.length = n) : IF W A ns := fun h0 => by
  rcases h.2 with ⟨e, e2⟩ | ⟨b, off, cap, cur, e, _, hc, hx⟩
  · omega
  · injection e with e1 _ e3
    subst e1 e3
    refine ⟨b, off, rfl, (Array.getElem?_eq_some_iff.1 hc).1, fun i hi => ?_⟩
    rw [cell_of_row _ _ _ _ _ _ hc, hx i (by omega), i64s_get _ _ hi]
theorem flat_length {α : Type} (f : α → List Value) (sz : Nat) (hf : ∀ a, (f a).length = sz) : ∀ l : List α, (l.flatMap f).length = l.length * sz
  | [] => by simp
  | a :: l => by rw [List.flatMap_cons, List.length_append, hf, flat_length f sz hf l, List.length_cons, Nat.succ_mul]; omega
theorem good_face {c : CageM} (h : GoodC c) (i : Nat) : (c.faces.getD i []).length ≤ 8 := by
  by_cases hi : i < c.faces.length
  · have e : c.faces.getD i [] = c.faces[i] := by simp [List.getD, hi]
    rw [e]
    exact (h.faces _ (List.getElem_mem hi)).2.1
  · have e : c.faces.getD i [] = [] := by simp [List.getD, Nat.le_of_not_lt hi]
    rw [e]; simp
theorem cageSS_get (n : Nat) (val : Key → Value) (i : Nat) (h : i < (cageSS n val).length) : (cageSS n val)[i] = (val (.vert i), val (.face i), val (.crease i)) := by
  simp [cageSS]
theorem RepV.sceneR {g b : Nat} {W : World} {TR : TypeId} {sc : Scn} {val : Key → Value} (h : RepV g W b TR sc val) (hg : Good sc) : SceneR W (val .lights) (val .mats) (val .texs) (val .skins) (val .cages) sc := by
  refine ⟨?_, ?_, ?_, ?_, ?_⟩
  · have r := show W.ownsRow g 63 6 (val .lights) sc.lights.length (sc.lights.flatMap fL) from h.own.row .lights
    obtain ⟨A, k, e⟩ := own_form r
    rw [e] at r
    exact ⟨A, k, e, CF_of_own r (flat_length fL 6 (fun _ => rfl) _), by have := hg.nl; omega⟩
  · have r := show W.ownsRow g 65 9 (val .mats) sc.mats.length (sc.mats.flatMap fM) from h.own.row .mats
    obtain ⟨A, k, e⟩ := own_form r
    rw [e] at r
    exact ⟨A, k, e, CF_of_own r (flat_length fM 9 (fun _ => rfl) _), by have := hg.nm; omega⟩
  · have r := show W.ownsRow g 67 4 (val .texs) sc.texs.length ((texSS sc val).flatMap fT) from h.own.row .texs
    obtain ⟨A, k, e⟩ := own_form r
    rw [e] at r
    have hl : (texSS sc val).length = sc.texs.length := by unfold texSS; simp
    refine ⟨A, k, texSS sc val, e, CF_of_own r (by rw [flat_length fT 4 (fun _ => rfl), hl]), ?_, by have := hg.nt; omega, fun q hq => ?_⟩
    · apply List.ext_getElem (by simp [hl])
      intro i h1 h2
      unfold texSS
      simp [texAt, List.getD, h2]
    · unfold texSS at hq
      obtain ⟨i, hi, rfl⟩ := List.mem_map.1 hq
      rw [List.mem_range] at hi
      have rt := show roRow W g 3 (val (.tex i)) ((texAt sc i).2.drop 2).length (i64s ((texAt sc i).2.drop 2)) from h.own.row (.tex i)
      have hm : texAt sc i ∈ sc.texs := by
        have : texAt sc i = sc.texs[i] := by unfold texAt; simp [List.getD, hi]
        rw [this]; exact List.getElem_mem hi
      have hl2 := good_tex_len hg _ hm
      obtain ⟨B, m, e3⟩ : ∃ B m, val (.tex i) = .slice B ((texAt sc i).2.drop 2).length m := by
        rcases rt.2 with ⟨e, e2⟩ | ⟨b, off, cap, cur, e, _⟩
        · exact ⟨none, 0, by rw [e, e2]⟩
        · exact ⟨_, _, e⟩
      rw [e3] at rt
      exact ⟨B, m, e3, IF_of_ro rt rfl, by show ((texAt sc i).2.drop 2).length ≤ 65536; simp; omega⟩
  · have r := show W.ownsRow g 42 6 (val .skins) sc.skins.length (sc.skins.flatMap fS) from h.own.row .skins
    obtain ⟨A, k, e⟩ := own_form r
    rw [e] at r
    exact ⟨A, k, e, CF_of_own r (flat_length fS 6 (fun _ => rfl) _), by have := hg.ns; omega⟩
  · have r := show W.ownsRow g 47 3 (val .cages) sc.cages.length ((cageSS sc.cages.length val).flatMap fC) from h.own.row .cages
    obtain ⟨A, k, e⟩ := own_form r
    rw [e] at r
    have hl : (cageSS sc.cages.length val).length = sc.cages.length := by unfold cageSS; simp
    refine ⟨A, k, cageSS sc.cages.length val, e, CF_of_own r (by rw [flat_length fC 3 (fun _ => rfl), hl]), hl, by have := hg.ns; omega, fun i hi hi2 => ?_⟩
    have e2 : (cageSS sc.cages.length val)[i] = (val (.vert i), val (.face i), val (.crease i)) := cageSS_get _ _ _ hi
    rw [e2]
    have ec : cageAt sc i = sc.cages[i] := by unfold cageAt; simp [List.getD, hi2]
    have gc := hg.cages _ (List.getElem_mem hi2)
    rw [← ec] at gc ⊢
    refine ⟨?_, ?_, ?_⟩
    · have r := show W.ownsRow g 24 3 (val (.vert i)) (cageAt sc i).verts.length (flat3 (cageAt sc i).verts) from h.own.row (.vert i)
      obtain ⟨A, k, e⟩ := own_form r
      rw [e] at r
      exact ⟨A, k, e, CF_of_own r r.1, by have := gc.nv; omega⟩
    · have r := show W.ownsRow g 48 1 (val (.face i)) (cageAt sc i).faces.length ((List.range (cageAt sc i).faces.length).map fun j => val (.frow i j)) from h.own.row (.face i)
      obtain ⟨A, k, e⟩ := own_form r
      rw [e] at r
      refine ⟨A, k, _, e, CF_of_own r (by simp), by simp, by have := gc.nf; omega, fun j hj => ?_⟩
      have rt := show roRow W g 3 (val (.frow i j)) ((cageAt sc i).faces.getD j []).length (i64s ((cageAt sc i).faces.getD j [])) from h.own.row (.frow i j)
      obtain ⟨B, m, e3⟩ : ∃ B m, val (.frow i j) = .slice B ((cageAt sc i).faces.getD j []).length m := by
        rcases rt.2 with ⟨e, e2⟩ | ⟨b, off, cap, cur, e, _⟩
        · exact ⟨none, 0, by rw [e, e2]⟩
        · exact ⟨_, _, e⟩
      have rt2 := rt
      rw [e3] at rt2
      have := good_face gc j
      exact ⟨B, m, by simp [hj, e3], IF_of_ro rt2 rfl, by omega⟩
    · have r := show W.ownsRow g 76 3 (val (.crease i)) (cageAt sc i).creases.length (flat3 (cageAt sc i).creases) from h.own.row (.crease i)
      obtain ⟨A, k, e⟩ := own_form r
      rw [e] at r
      exact ⟨A, k, e, CF_of_own r r.1, by have := gc.nc; omega⟩
theorem sceneT_good {l : List UInt8} {sc : Scn} (h : sceneT l = .ok sc) : Good sc ∧ sc.cam ≠ none := by
  unfold sceneT at h
  cases q : linesP 1 [] (spl l) with
  | error n => rw [q] at h; cases h
  | ok o => rw [q] at h; exact good_scene h
/-- Two scenes of one content, as Parse answers them, are the same. -/
theorem same_reps (w : World) {sc : Scn} {g1 b1 g2 b2 : Nat} {T1 T2 : TypeId} {v1 v2 : Key → Value} (hg : Good sc) (h1 : RepV g1 w b1 T1 sc v1) (h2 : RepV g2 w b2 T2 sc v2) :
    Calls Tryd.prog 10 #[.agg (sceneV sc v1), .agg (sceneV sc v2)] w fun e w' => e = .returned (.bool true) ∧ ∃ x, w' = grow w x :=
  same_yes6 w (camN sc) (skyN sc) _ _ _ _ _ _ _ _ _ _ sc hg.ns.1 (h1.sceneR hg) (h2.sceneR hg)
end Go.Proofs.YtehmlofhiffanaaDoor

/- What the library has on maps that a call makes: imported here. -/
namespace Go.Proofs.YtehmlofhiffanaaDoor
theorem mapO : True := trivial
end Go.Proofs.YtehmlofhiffanaaDoor

/- An argument that is a text. -/
namespace Go.Proofs.YtehmlofhiffanaaDoor
open Go.RowKit Go.ChangeShapes Go.WideShapes Go.ChangeAt Go.ChangeMaps
set_option linter.unusedVariables false
set_option linter.unusedSimpArgs false
section
variable {H : Type} {enc : TypeId × Value → H} {w : World} {base b0 : Nat} {spare : Nat → Bool} {held : Bool} {v : Value} {d : DataW H} {p : List MemPlace} {r : Reach}
set_option maxRecDepth 100000 in
theorem open_Str (hv : Value.okWide Tryd.prog w r b0 9 v) (h : DataW.Trod enc Tryd.prog w base spare held 9 v d p) : ∃ s : ByteArray, v = .string s ∧ s.size ≤ maxLen := by
  obtain ⟨s, e, _, _, hs⟩ := open_string Tryd.underlying9 hv h
  exact ⟨s, e, hs⟩
end
end Go.Proofs.YtehmlofhiffanaaDoor

/- The last step of a law's row: it answered true, and all that was there is as it was. No program is imported. -/
namespace Go.Proofs.YtehmlofhiffanaaDoor
open Go.ChangeShapes Go.WideShapes Go.ChangeAt Go.RowKit
set_option linter.unusedVariables false
set_option linter.unusedSimpArgs false
variable {H : Type} {enc : TypeId × Value → H} {P : Program}
theorem args_below (hl : laidOutB P = true) {W W' : World} (hb : Below W.heap.size W W') : ∀ (ts : List TypeId) (vs : List Value) (ds : List (DataW H)) (ps : List MemPlace),
    (ts.all fun t => P.readableRec t && decide (t < P.types.size)) = true → (∀ x ∈ ps, x.block < W.heap.size) →
    DataW.TrodAll enc P W 0 (fun _ => true) true ts vs ds ps → DataW.TrodAll enc P W' 0 (fun b => decide (b < W.heap.size)) true ts vs ds ps := by
  intro ts
  induction ts with
  | nil =>
    intro vs ds ps _ _ h
    obtain ⟨rfl, rfl, rfl⟩ := trodAll_nil h
    exact trodAll_mk0
  | cons t ts ih =>
    intro vs ds ps ht hx h
    simp only [List.all_cons, Bool.and_eq_true, decide_eq_true_eq] at ht
    obtain ⟨v, vs', d, ds', p, q, rfl, rfl, rfl, h0, h1⟩ := trodAll_cons h
    exact trodAll_cons_mk (Below.trod hl ht.1.1 ht.1.2 h0 hb fun x hp => hx x (by simp [hp])) (ih vs' ds' q ht.2 (fun x hp => hx x (by simp [hp])) h1)
theorem law_post {f : Func} {s : ChangeSpec} {W W' : World} {args : Array Value} {ds gs : List (DataW H)} {before : List MemPlace} {tb : TypeId}
    (hl : laidOutB P = true) (hts : (f.params.toList.all fun t => P.readableRec t && decide (t < P.types.size)) = true) (hv : s.vars = [])
    (hres : f.resultTypes = #[tb]) (htb : P.underlying tb = some .bool) (hr : (s.fn H ds).results = [.lit (.bool true)]) (ha : (s.fn H ds).args = ds) (hg : (s.fn H ds).vars = [])
    (hW : DataW.Whole enc P f.params.toList s.vars false W args.toList ds gs before) (hb : Below W.heap.size W W') :
    s.post enc P f false true false false W args (.bool true) W' := by
  have hlt := fun p hp => hW.lt (p := p) hp
  have hW0 := hW
  obtain ⟨p, q, h1, h2, rfl, hz, hn⟩ := hW
  rw [hv] at h2
  obtain ⟨rfl, rfl⟩ := trodVars_none h2
  simp only [List.append_nil] at *
  refine ⟨ds, [], p, [], p, [], hW0, ?_, ?_, ?_, World.keptBut_mono (fun _ h => h.elim) (hb.frame fun _ => False), fun h => by cases h⟩
  · simp only [List.append_nil, hr, hres]
    exact trodAll_cons_mk (shut_bool htb true) trodAll_mk0
  · simp only [List.append_nil, ha]
    exact args_below hl hb _ _ _ _ hts (fun x hx => hlt x hx) h1
  · simp only [List.append_nil, hg, hv]
    rfl
end Go.Proofs.YtehmlofhiffanaaDoor
