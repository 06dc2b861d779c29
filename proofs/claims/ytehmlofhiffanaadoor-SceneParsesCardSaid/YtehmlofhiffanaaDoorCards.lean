/-
  DERIVED. GIVEN WITH THE SEED: THE CARDS: each row of YtehmlofhiffanaaDoorRows.lean that lists a variable, with what it lists TIED to the program's text (the seventh form; the later family's looks); each row that meets fmt, with fmt's text TOLD by the authors' own Lean function (tested against real Go, not proved from fmt's source: count such statements apart). THE CARD IS WHAT COUNTS. Prove the row's statement (the work); the ties are given (YtehmlofhiffanaaDoorTie.lean); close each card by the builder's one call (the guide's Derived/Test/ToyasCard.lean, 'card_holds'). Laid BY PROGRAM, IN A SANDBOX (cutbox-door.mjs). By AI agents, Wed Nov 11 2026. No macro, syntax, notation, axiom, sorry.
-/
import Derived.Test.YtehmlofhiffanaaDoorRows
import GoSem.ClaimSeven
namespace Go.Proofs.YtehmlofhiffanaaDoor
namespace Rows

/-- THE TIED CARD OF 'relievolaw06.SceneParses'. -/
def sceneParsesCard : Claim7 := { stood := { row := sceneParsesRow, standIns := [], harness := (true, "662054e53e3ac2c6ef6f7f17f90dc5a11618fff8adb4966795b1920e68c78427"), looks := true }, kinds := [], alts := [], laidByText := true, laidKinds := [.data, .listed, .data, .pinned], laidTests := true, laidLooks := .later }
def SceneParsesCardSaid : Prop := Claim7.holds Tryd.pinned (.plain (OpenSpec.ofChange sceneParsesSpec)) sceneParsesCard

/-- THE TIED CARD OF 'relievolaw06.SceneBounds'. -/
def sceneBoundsCard : Claim7 := { stood := { row := sceneBoundsRow, standIns := [], harness := (true, "662054e53e3ac2c6ef6f7f17f90dc5a11618fff8adb4966795b1920e68c78427"), looks := true }, kinds := [], alts := [], laidByText := true, laidKinds := [.data, .listed, .data, .pinned], laidTests := true, laidLooks := .later }
def SceneBoundsCardSaid : Prop := Claim7.holds Tryd.pinned (.plain (OpenSpec.ofChange sceneBoundsSpec)) sceneBoundsCard

/-- THE TIED CARD OF 'relievolaw06.SceneOrder'. -/
def sceneOrderCard : Claim7 := { stood := { row := sceneOrderRow, standIns := [], harness := (true, "662054e53e3ac2c6ef6f7f17f90dc5a11618fff8adb4966795b1920e68c78427"), looks := true }, kinds := [], alts := [], laidByText := true, laidKinds := [.data, .listed, .data, .pinned], laidTests := true, laidLooks := .later }
def SceneOrderCardSaid : Prop := Claim7.holds Tryd.pinned (.plain (OpenSpec.ofChange sceneOrderSpec)) sceneOrderCard

/-- THE TIED CARD OF 'relievolaw06.SceneCages'. -/
def sceneCagesCard : Claim7 := { stood := { row := sceneCagesRow, standIns := [], harness := (true, "662054e53e3ac2c6ef6f7f17f90dc5a11618fff8adb4966795b1920e68c78427"), looks := true }, kinds := [], alts := [], laidByText := true, laidKinds := [.data, .listed, .data, .pinned], laidTests := true, laidLooks := .later }
def SceneCagesCardSaid : Prop := Claim7.holds Tryd.pinned (.plain (OpenSpec.ofChange sceneCagesSpec)) sceneCagesCard

/-- THE SECOND FORM's CARD OF 'relievolaw06.SceneParses'. -/
def sceneParsesUptoCard : Claim7 := { stood := { row := sceneParsesUptoRow, standIns := [], harness := (true, "662054e53e3ac2c6ef6f7f17f90dc5a11618fff8adb4966795b1920e68c78427"), looks := true }, kinds := [], alts := [], laidByText := true, laidKinds := [.data, .listed, .data, .pinned], laidTests := true, laidLooks := .later }
def SceneParsesUptoCardSaid : Prop := Claim7.holds Tryd.pinned (.plain (OpenSpec.upto sceneParsesSpec)) sceneParsesUptoCard

/-- THE SECOND FORM's CARD OF 'relievolaw06.SceneBounds'. -/
def sceneBoundsUptoCard : Claim7 := { stood := { row := sceneBoundsUptoRow, standIns := [], harness := (true, "662054e53e3ac2c6ef6f7f17f90dc5a11618fff8adb4966795b1920e68c78427"), looks := true }, kinds := [], alts := [], laidByText := true, laidKinds := [.data, .listed, .data, .pinned], laidTests := true, laidLooks := .later }
def SceneBoundsUptoCardSaid : Prop := Claim7.holds Tryd.pinned (.plain (OpenSpec.upto sceneBoundsSpec)) sceneBoundsUptoCard

/-- THE SECOND FORM's CARD OF 'relievolaw06.SceneOrder'. -/
def sceneOrderUptoCard : Claim7 := { stood := { row := sceneOrderUptoRow, standIns := [], harness := (true, "662054e53e3ac2c6ef6f7f17f90dc5a11618fff8adb4966795b1920e68c78427"), looks := true }, kinds := [], alts := [], laidByText := true, laidKinds := [.data, .listed, .data, .pinned], laidTests := true, laidLooks := .later }
def SceneOrderUptoCardSaid : Prop := Claim7.holds Tryd.pinned (.plain (OpenSpec.upto sceneOrderSpec)) sceneOrderUptoCard

/-- THE SECOND FORM's CARD OF 'relievolaw06.SceneCages'. -/
def sceneCagesUptoCard : Claim7 := { stood := { row := sceneCagesUptoRow, standIns := [], harness := (true, "662054e53e3ac2c6ef6f7f17f90dc5a11618fff8adb4966795b1920e68c78427"), looks := true }, kinds := [], alts := [], laidByText := true, laidKinds := [.data, .listed, .data, .pinned], laidTests := true, laidLooks := .later }
def SceneCagesUptoCardSaid : Prop := Claim7.holds Tryd.pinned (.plain (OpenSpec.upto sceneCagesSpec)) sceneCagesUptoCard
end Rows
end Go.Proofs.YtehmlofhiffanaaDoor
