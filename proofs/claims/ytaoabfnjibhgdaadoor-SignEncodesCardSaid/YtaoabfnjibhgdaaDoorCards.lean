/-
  DERIVED. GIVEN WITH THE SEED: THE CARDS: each row of YtaoabfnjibhgdaaDoorRows.lean that lists a variable, with what it lists TIED to the program's text (the seventh form; the later family's looks); each row that meets fmt, with fmt's text TOLD by the authors' own Lean function (tested against real Go, not proved from fmt's source: count such statements apart). THE CARD IS WHAT COUNTS. Prove the row's statement (the work); the ties are given (YtaoabfnjibhgdaaDoorTie.lean); close each card by the builder's one call (the guide's Derived/Test/ToyasCard.lean, 'card_holds'). Laid BY PROGRAM, IN A SANDBOX (cutbox-door.mjs). By AI agents, Wed Nov 11 2026. No macro, syntax, notation, axiom, sorry.
-/
import Derived.Test.YtaoabfnjibhgdaaDoorRows
import GoSem.ClaimSeven
namespace Go.Proofs.YtaoabfnjibhgdaaDoor
namespace Rows

/-- THE TIED CARD OF 'lightclientlaw06.SignKeys'. -/
def signKeysCard : Claim7 := { stood := { row := signKeysRow, standIns := [], harness := (true, "8c955cf7068790928938de9453af8fad86e5604f9510ed328cb49688cb682fc3"), looks := false }, kinds := [], alts := [], laidByText := true, laidKinds := [.data, .data], laidTests := true, laidLooks := .later }
def SignKeysCardSaid : Prop := Claim7.holds Tryd.pinned (.plain (OpenSpec.ofChange signKeysSpec)) signKeysCard

/-- THE TIED CARD OF 'lightclientlaw06.SignSigns'. -/
def signSignsCard : Claim7 := { stood := { row := signSignsRow, standIns := [], harness := (true, "8c955cf7068790928938de9453af8fad86e5604f9510ed328cb49688cb682fc3"), looks := false }, kinds := [], alts := [], laidByText := true, laidKinds := [.data, .data], laidTests := true, laidLooks := .later }
def SignSignsCardSaid : Prop := Claim7.holds Tryd.pinned (.plain (OpenSpec.ofChange signSignsSpec)) signSignsCard

/-- THE TIED CARD OF 'lightclientlaw06.SignVerifies'. -/
def signVerifiesCard : Claim7 := { stood := { row := signVerifiesRow, standIns := [], harness := (true, "8c955cf7068790928938de9453af8fad86e5604f9510ed328cb49688cb682fc3"), looks := false }, kinds := [], alts := [], laidByText := true, laidKinds := [.data, .data], laidTests := true, laidLooks := .later }
def SignVerifiesCardSaid : Prop := Claim7.holds Tryd.pinned (.plain (OpenSpec.ofChange signVerifiesSpec)) signVerifiesCard

/-- THE TIED CARD OF 'lightclientlaw06.SignRight'. -/
def signRightCard : Claim7 := { stood := { row := signRightRow, standIns := [], harness := (true, "8c955cf7068790928938de9453af8fad86e5604f9510ed328cb49688cb682fc3"), looks := false }, kinds := [], alts := [], laidByText := true, laidKinds := [.data, .data], laidTests := true, laidLooks := .later }
def SignRightCardSaid : Prop := Claim7.holds Tryd.pinned (.plain (OpenSpec.ofChange signRightSpec)) signRightCard

/-- THE TIED CARD OF 'lightclientlaw06.SignTweaks'. -/
def signTweaksCard : Claim7 := { stood := { row := signTweaksRow, standIns := [], harness := (true, "8c955cf7068790928938de9453af8fad86e5604f9510ed328cb49688cb682fc3"), looks := false }, kinds := [], alts := [], laidByText := true, laidKinds := [.data, .data], laidTests := true, laidLooks := .later }
def SignTweaksCardSaid : Prop := Claim7.holds Tryd.pinned (.plain (OpenSpec.ofChange signTweaksSpec)) signTweaksCard

/-- THE TIED CARD OF 'lightclientlaw06.SignEncodes'. -/
def signEncodesCard : Claim7 := { stood := { row := signEncodesRow, standIns := [], harness := (true, "8c955cf7068790928938de9453af8fad86e5604f9510ed328cb49688cb682fc3"), looks := false }, kinds := [], alts := [], laidByText := true, laidKinds := [.data, .data], laidTests := true, laidLooks := .later }
def SignEncodesCardSaid : Prop := Claim7.holds Tryd.pinned (.plain (OpenSpec.ofChange signEncodesSpec)) signEncodesCard

/-- THE TIED CARD OF 'lightclientlaw06.SignTwice'. -/
def signTwiceCard : Claim7 := { stood := { row := signTwiceRow, standIns := [], harness := (true, "8c955cf7068790928938de9453af8fad86e5604f9510ed328cb49688cb682fc3"), looks := false }, kinds := [], alts := [], laidByText := true, laidKinds := [.data, .data], laidTests := true, laidLooks := .later }
def SignTwiceCardSaid : Prop := Claim7.holds Tryd.pinned (.plain (OpenSpec.ofChange signTwiceSpec)) signTwiceCard

/-- THE SECOND FORM's CARD OF 'lightclientlaw06.SignKeys'. -/
def signKeysUptoCard : Claim7 := { stood := { row := signKeysUptoRow, standIns := [], harness := (true, "8c955cf7068790928938de9453af8fad86e5604f9510ed328cb49688cb682fc3"), looks := false }, kinds := [], alts := [], laidByText := true, laidKinds := [.data, .data], laidTests := true, laidLooks := .later }
def SignKeysUptoCardSaid : Prop := Claim7.holds Tryd.pinned (.plain (OpenSpec.upto signKeysSpec)) signKeysUptoCard

/-- THE SECOND FORM's CARD OF 'lightclientlaw06.SignSigns'. -/
def signSignsUptoCard : Claim7 := { stood := { row := signSignsUptoRow, standIns := [], harness := (true, "8c955cf7068790928938de9453af8fad86e5604f9510ed328cb49688cb682fc3"), looks := false }, kinds := [], alts := [], laidByText := true, laidKinds := [.data, .data], laidTests := true, laidLooks := .later }
def SignSignsUptoCardSaid : Prop := Claim7.holds Tryd.pinned (.plain (OpenSpec.upto signSignsSpec)) signSignsUptoCard

/-- THE SECOND FORM's CARD OF 'lightclientlaw06.SignVerifies'. -/
def signVerifiesUptoCard : Claim7 := { stood := { row := signVerifiesUptoRow, standIns := [], harness := (true, "8c955cf7068790928938de9453af8fad86e5604f9510ed328cb49688cb682fc3"), looks := false }, kinds := [], alts := [], laidByText := true, laidKinds := [.data, .data], laidTests := true, laidLooks := .later }
def SignVerifiesUptoCardSaid : Prop := Claim7.holds Tryd.pinned (.plain (OpenSpec.upto signVerifiesSpec)) signVerifiesUptoCard

/-- THE SECOND FORM's CARD OF 'lightclientlaw06.SignRight'. -/
def signRightUptoCard : Claim7 := { stood := { row := signRightUptoRow, standIns := [], harness := (true, "8c955cf7068790928938de9453af8fad86e5604f9510ed328cb49688cb682fc3"), looks := false }, kinds := [], alts := [], laidByText := true, laidKinds := [.data, .data], laidTests := true, laidLooks := .later }
def SignRightUptoCardSaid : Prop := Claim7.holds Tryd.pinned (.plain (OpenSpec.upto signRightSpec)) signRightUptoCard

/-- THE SECOND FORM's CARD OF 'lightclientlaw06.SignTweaks'. -/
def signTweaksUptoCard : Claim7 := { stood := { row := signTweaksUptoRow, standIns := [], harness := (true, "8c955cf7068790928938de9453af8fad86e5604f9510ed328cb49688cb682fc3"), looks := false }, kinds := [], alts := [], laidByText := true, laidKinds := [.data, .data], laidTests := true, laidLooks := .later }
def SignTweaksUptoCardSaid : Prop := Claim7.holds Tryd.pinned (.plain (OpenSpec.upto signTweaksSpec)) signTweaksUptoCard

/-- THE SECOND FORM's CARD OF 'lightclientlaw06.SignEncodes'. -/
def signEncodesUptoCard : Claim7 := { stood := { row := signEncodesUptoRow, standIns := [], harness := (true, "8c955cf7068790928938de9453af8fad86e5604f9510ed328cb49688cb682fc3"), looks := false }, kinds := [], alts := [], laidByText := true, laidKinds := [.data, .data], laidTests := true, laidLooks := .later }
def SignEncodesUptoCardSaid : Prop := Claim7.holds Tryd.pinned (.plain (OpenSpec.upto signEncodesSpec)) signEncodesUptoCard

/-- THE SECOND FORM's CARD OF 'lightclientlaw06.SignTwice'. -/
def signTwiceUptoCard : Claim7 := { stood := { row := signTwiceUptoRow, standIns := [], harness := (true, "8c955cf7068790928938de9453af8fad86e5604f9510ed328cb49688cb682fc3"), looks := false }, kinds := [], alts := [], laidByText := true, laidKinds := [.data, .data], laidTests := true, laidLooks := .later }
def SignTwiceUptoCardSaid : Prop := Claim7.holds Tryd.pinned (.plain (OpenSpec.upto signTwiceSpec)) signTwiceUptoCard
end Rows
end Go.Proofs.YtaoabfnjibhgdaaDoor
