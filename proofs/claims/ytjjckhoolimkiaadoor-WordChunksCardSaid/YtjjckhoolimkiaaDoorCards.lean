/-
  DERIVED. GIVEN WITH THE SEED: THE CARDS: each row of YtjjckhoolimkiaaDoorRows.lean that lists a variable, with what it lists TIED to the program's text (the seventh form; the later family's looks); each row that meets fmt, with fmt's text TOLD by the authors' own Lean function (tested against real Go, not proved from fmt's source: count such statements apart). THE CARD IS WHAT COUNTS. Prove the row's statement (the work); the ties are given (YtjjckhoolimkiaaDoorTie.lean); close each card by the builder's one call (the guide's Derived/Test/ToyasCard.lean, 'card_holds'). Laid BY PROGRAM, IN A SANDBOX (cutbox-door.mjs). By AI agents, Wed Nov 11 2026. No macro, syntax, notation, axiom, sorry.
-/
import Derived.Test.YtjjckhoolimkiaaDoorRows
import GoSem.ClaimSeven
namespace Go.Proofs.YtjjckhoolimkiaaDoor
namespace Rows

/-- THE TIED CARD OF 'millstreamlaw01.WordPowers'. -/
def wordPowersCard : Claim7 := { stood := { row := wordPowersRow, standIns := [], harness := (true, "5f1a7d02a738032999f787533c78fbabaa5259f6c4dcec662a3f729849731b3e"), looks := false }, kinds := [], alts := [], laidByText := true, laidKinds := [.data], laidTests := true, laidLooks := .later }
def WordPowersCardSaid : Prop := Claim7.holds Tryd.pinned (.plain (OpenSpec.ofChange wordPowersSpec)) wordPowersCard

/-- THE TIED CARD OF 'millstreamlaw01.WordAligns'. -/
def wordAlignsCard : Claim7 := { stood := { row := wordAlignsRow, standIns := [], harness := (true, "5f1a7d02a738032999f787533c78fbabaa5259f6c4dcec662a3f729849731b3e"), looks := false }, kinds := [], alts := [], laidByText := true, laidKinds := [.data], laidTests := true, laidLooks := .later }
def WordAlignsCardSaid : Prop := Claim7.holds Tryd.pinned (.plain (OpenSpec.ofChange wordAlignsSpec)) wordAlignsCard

/-- THE TIED CARD OF 'millstreamlaw01.WordBytes'. -/
def wordBytesCard : Claim7 := { stood := { row := wordBytesRow, standIns := [], harness := (true, "5f1a7d02a738032999f787533c78fbabaa5259f6c4dcec662a3f729849731b3e"), looks := false }, kinds := [], alts := [], laidByText := true, laidKinds := [.data], laidTests := true, laidLooks := .later }
def WordBytesCardSaid : Prop := Claim7.holds Tryd.pinned (.plain (OpenSpec.ofChange wordBytesSpec)) wordBytesCard

/-- THE TIED CARD OF 'millstreamlaw01.WordChunks'. -/
def wordChunksCard : Claim7 := { stood := { row := wordChunksRow, standIns := [], harness := (true, "5f1a7d02a738032999f787533c78fbabaa5259f6c4dcec662a3f729849731b3e"), looks := false }, kinds := [], alts := [], laidByText := true, laidKinds := [.data], laidTests := true, laidLooks := .later }
def WordChunksCardSaid : Prop := Claim7.holds Tryd.pinned (.plain (OpenSpec.ofChange wordChunksSpec)) wordChunksCard

/-- THE SECOND FORM's CARD OF 'millstreamlaw01.WordPowers'. -/
def wordPowersUptoCard : Claim7 := { stood := { row := wordPowersUptoRow, standIns := [], harness := (true, "5f1a7d02a738032999f787533c78fbabaa5259f6c4dcec662a3f729849731b3e"), looks := false }, kinds := [], alts := [], laidByText := true, laidKinds := [.data], laidTests := true, laidLooks := .later }
def WordPowersUptoCardSaid : Prop := Claim7.holds Tryd.pinned (.plain (OpenSpec.upto wordPowersSpec)) wordPowersUptoCard

/-- THE SECOND FORM's CARD OF 'millstreamlaw01.WordAligns'. -/
def wordAlignsUptoCard : Claim7 := { stood := { row := wordAlignsUptoRow, standIns := [], harness := (true, "5f1a7d02a738032999f787533c78fbabaa5259f6c4dcec662a3f729849731b3e"), looks := false }, kinds := [], alts := [], laidByText := true, laidKinds := [.data], laidTests := true, laidLooks := .later }
def WordAlignsUptoCardSaid : Prop := Claim7.holds Tryd.pinned (.plain (OpenSpec.upto wordAlignsSpec)) wordAlignsUptoCard

/-- THE SECOND FORM's CARD OF 'millstreamlaw01.WordBytes'. -/
def wordBytesUptoCard : Claim7 := { stood := { row := wordBytesUptoRow, standIns := [], harness := (true, "5f1a7d02a738032999f787533c78fbabaa5259f6c4dcec662a3f729849731b3e"), looks := false }, kinds := [], alts := [], laidByText := true, laidKinds := [.data], laidTests := true, laidLooks := .later }
def WordBytesUptoCardSaid : Prop := Claim7.holds Tryd.pinned (.plain (OpenSpec.upto wordBytesSpec)) wordBytesUptoCard

/-- THE SECOND FORM's CARD OF 'millstreamlaw01.WordChunks'. -/
def wordChunksUptoCard : Claim7 := { stood := { row := wordChunksUptoRow, standIns := [], harness := (true, "5f1a7d02a738032999f787533c78fbabaa5259f6c4dcec662a3f729849731b3e"), looks := false }, kinds := [], alts := [], laidByText := true, laidKinds := [.data], laidTests := true, laidLooks := .later }
def WordChunksUptoCardSaid : Prop := Claim7.holds Tryd.pinned (.plain (OpenSpec.upto wordChunksSpec)) wordChunksUptoCard
end Rows
end Go.Proofs.YtjjckhoolimkiaaDoor
