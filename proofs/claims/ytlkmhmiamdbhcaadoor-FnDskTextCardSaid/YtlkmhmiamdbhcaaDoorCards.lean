/-
  DERIVED. GIVEN WITH THE SEED: THE CARDS: each row of YtlkmhmiamdbhcaaDoorRows.lean that lists a variable, with what it lists TIED to the program's text (the seventh form; the later family's looks); each row that meets fmt, with fmt's text TOLD by the authors' own Lean function (tested against real Go, not proved from fmt's source: count such statements apart). THE CARD IS WHAT COUNTS. Prove the row's statement (the work); the ties are given (YtlkmhmiamdbhcaaDoorTie.lean); close each card by the builder's one call (the guide's Derived/Test/ToyasCard.lean, 'card_holds'). Laid BY PROGRAM, IN A SANDBOX (cutbox-door.mjs). By AI agents, Wed Nov 11 2026. No macro, syntax, notation, axiom, sorry.
-/
import Derived.Test.YtlkmhmiamdbhcaaDoorRows
import GoSem.ClaimSeven
namespace Go.Proofs.YtlkmhmiamdbhcaaDoor
namespace Rows

/-- THE TIED CARD OF 'laws.FnExactDskText'. -/
def fnExactDskTextCard : Claim7 := { stood := { row := fnExactDskTextRow, standIns := [], harness := (true, "53d1b00bdae309db61f24aa5b92b9e8c0229309ebb8fea331932ecf8eac5d9fd"), looks := true }, kinds := [], alts := [], laidByText := true, laidKinds := [.data, .data, .data, .data, .wider, .pinned], laidTests := true, laidLooks := .later }
def FnExactDskTextCardSaid : Prop := Claim7.holds Tryd.pinned (.plain (OpenSpec.ofChange fnExactDskTextSpec)) fnExactDskTextCard

/-- THE TIED CARD OF 'laws.FnExactDskRead'. -/
def fnExactDskReadCard : Claim7 := { stood := { row := fnExactDskReadRow, standIns := [], harness := (true, "53d1b00bdae309db61f24aa5b92b9e8c0229309ebb8fea331932ecf8eac5d9fd"), looks := true }, kinds := [], alts := [], laidByText := true, laidKinds := [.data, .data, .data, .data, .sentinel, .sentinel, .wider, .pinned], laidTests := true, laidLooks := .later }
def FnExactDskReadCardSaid : Prop := Claim7.holds Tryd.pinned (.plain (OpenSpec.ofChange fnExactDskReadSpec)) fnExactDskReadCard

/-- THE TIED CARD OF 'laws.FnExactRecText'. -/
def fnExactRecTextCard : Claim7 := { stood := { row := fnExactRecTextRow, standIns := [], harness := (true, "53d1b00bdae309db61f24aa5b92b9e8c0229309ebb8fea331932ecf8eac5d9fd"), looks := true }, kinds := [], alts := [], laidByText := true, laidKinds := [.data, .data, .data, .data, .wider, .pinned], laidTests := true, laidLooks := .later }
def FnExactRecTextCardSaid : Prop := Claim7.holds Tryd.pinned (.plain (OpenSpec.ofChange fnExactRecTextSpec)) fnExactRecTextCard

/-- THE TIED CARD OF 'laws.FnDskText'. -/
def fnDskTextCard : Claim7 := { stood := { row := fnDskTextRow, standIns := [], harness := (true, "53d1b00bdae309db61f24aa5b92b9e8c0229309ebb8fea331932ecf8eac5d9fd"), looks := true }, kinds := [], alts := [], laidByText := true, laidKinds := [.data, .data, .data, .data, .sentinel, .sentinel, .wider, .pinned], laidTests := true, laidLooks := .later }
def FnDskTextCardSaid : Prop := Claim7.holds Tryd.pinned (.plain (OpenSpec.ofChange fnDskTextSpec)) fnDskTextCard

/-- THE TIED CARD OF 'laws.FnRecText'. -/
def fnRecTextCard : Claim7 := { stood := { row := fnRecTextRow, standIns := [], harness := (true, "53d1b00bdae309db61f24aa5b92b9e8c0229309ebb8fea331932ecf8eac5d9fd"), looks := true }, kinds := [], alts := [], laidByText := true, laidKinds := [.data, .data, .data, .data, .wider, .pinned], laidTests := true, laidLooks := .later }
def FnRecTextCardSaid : Prop := Claim7.holds Tryd.pinned (.plain (OpenSpec.ofChange fnRecTextSpec)) fnRecTextCard

/-- THE SECOND FORM's CARD OF 'laws.FnExactDskText'. -/
def fnExactDskTextUptoCard : Claim7 := { stood := { row := fnExactDskTextUptoRow, standIns := [], harness := (true, "53d1b00bdae309db61f24aa5b92b9e8c0229309ebb8fea331932ecf8eac5d9fd"), looks := true }, kinds := [], alts := [], laidByText := true, laidKinds := [.data, .data, .data, .data, .wider, .pinned], laidTests := true, laidLooks := .later }
def FnExactDskTextUptoCardSaid : Prop := Claim7.holds Tryd.pinned (.plain (OpenSpec.upto fnExactDskTextSpec)) fnExactDskTextUptoCard

/-- THE SECOND FORM's CARD OF 'laws.FnExactDskRead'. -/
def fnExactDskReadUptoCard : Claim7 := { stood := { row := fnExactDskReadUptoRow, standIns := [], harness := (true, "53d1b00bdae309db61f24aa5b92b9e8c0229309ebb8fea331932ecf8eac5d9fd"), looks := true }, kinds := [], alts := [], laidByText := true, laidKinds := [.data, .data, .data, .data, .sentinel, .sentinel, .wider, .pinned], laidTests := true, laidLooks := .later }
def FnExactDskReadUptoCardSaid : Prop := Claim7.holds Tryd.pinned (.plain (OpenSpec.upto fnExactDskReadSpec)) fnExactDskReadUptoCard

/-- THE SECOND FORM's CARD OF 'laws.FnExactRecText'. -/
def fnExactRecTextUptoCard : Claim7 := { stood := { row := fnExactRecTextUptoRow, standIns := [], harness := (true, "53d1b00bdae309db61f24aa5b92b9e8c0229309ebb8fea331932ecf8eac5d9fd"), looks := true }, kinds := [], alts := [], laidByText := true, laidKinds := [.data, .data, .data, .data, .wider, .pinned], laidTests := true, laidLooks := .later }
def FnExactRecTextUptoCardSaid : Prop := Claim7.holds Tryd.pinned (.plain (OpenSpec.upto fnExactRecTextSpec)) fnExactRecTextUptoCard

/-- THE SECOND FORM's CARD OF 'laws.FnDskText'. -/
def fnDskTextUptoCard : Claim7 := { stood := { row := fnDskTextUptoRow, standIns := [], harness := (true, "53d1b00bdae309db61f24aa5b92b9e8c0229309ebb8fea331932ecf8eac5d9fd"), looks := true }, kinds := [], alts := [], laidByText := true, laidKinds := [.data, .data, .data, .data, .sentinel, .sentinel, .wider, .pinned], laidTests := true, laidLooks := .later }
def FnDskTextUptoCardSaid : Prop := Claim7.holds Tryd.pinned (.plain (OpenSpec.upto fnDskTextSpec)) fnDskTextUptoCard

/-- THE SECOND FORM's CARD OF 'laws.FnRecText'. -/
def fnRecTextUptoCard : Claim7 := { stood := { row := fnRecTextUptoRow, standIns := [], harness := (true, "53d1b00bdae309db61f24aa5b92b9e8c0229309ebb8fea331932ecf8eac5d9fd"), looks := true }, kinds := [], alts := [], laidByText := true, laidKinds := [.data, .data, .data, .data, .wider, .pinned], laidTests := true, laidLooks := .later }
def FnRecTextUptoCardSaid : Prop := Claim7.holds Tryd.pinned (.plain (OpenSpec.upto fnRecTextSpec)) fnRecTextUptoCard
end Rows
end Go.Proofs.YtlkmhmiamdbhcaaDoor
