/-
  NARROWER THAN 'FOR EVERY INPUT', by the rows' own cells (each row's printed sentence says how): ShaCompresses: laid · ShaPads: laid · ShaSums: laid · ShaKeyed: laid · ShaChains: laid · ShaLongKeys: laid · ShaDoubles: laid.
  DERIVED. THE GIVEN ROWS OF THIS SEAT. 7 by the template 'for every input the law returns true; each argument reads behind the call as it read before'; 0 by the template 'total and deterministic' (their statements: YthjfiaomfngajaaDoorTotals.lean).
  GIVEN WITH THE SEED: the statements are not yours to turn. If you find one false, say at which input.
  Laid BY PROGRAM, IN A SANDBOX (cutbox-rows.mjs): the forced cells as the released guide's own fill.sh prints them over the translation 51badfc30e9921a0… (all of the seat's roots in one cut). By AI agents, Wed Nov 11 2026. No macro, syntax, notation, axiom, sorry.
-/
import Derived.Test.YthjfiaomfngajaaDoorChecked
import GoSem.Claim
import GoSem.ClaimJoined
import GoSem.ClaimMapViews
import Derived.JoinedTies
import Derived.KernelRfl
namespace Go.Proofs.YthjfiaomfngajaaDoor
/- THE CELL 'sum', in the pinned program and in every row, IS THE sha256 OF THE DUMP (.gsa) THAT YthjfiaomfngajaaDoorProg.lean LOADS. Nothing in Lean hashes anything: it is a label: what it is worth is what the hold of that sum in a sandbox is worth. -/
noncomputable def Tryd.pinned : Pinned := { name := "ythjfiaomfngajaadoor", sum := "51badfc30e9921a0b2d7af5e63262dec809631ee8e5cc47e1f6360fdbfdb9234", checked := Tryd.checked }
namespace Rows
def none {H : Type} : Left H := { results := [], args := [] }

/- WHAT THE LISTED PACKAGE-LEVEL VARIABLES READ AS WHEN THE CALL BEGINS. Each datum BY PROGRAM (the guide's laid-datum.mjs) off the statement by which the dump's own 'gosem.cut.vars' lays the variable. In a bare row this is a premise. The card (YthjfiaomfngajaaDoorCards.lean) ties it to the program's text. -/
def laid_lightclient_sha_k {H : Type} : DataW H := .agg [.lit (.int .u32 1116352408), .lit (.int .u32 1899447441), .lit (.int .u32 3049323471), .lit (.int .u32 3921009573), .lit (.int .u32 961987163), .lit (.int .u32 1508970993), .lit (.int .u32 2453635748), .lit (.int .u32 2870763221), .lit (.int .u32 3624381080), .lit (.int .u32 310598401), .lit (.int .u32 607225278), .lit (.int .u32 1426881987), .lit (.int .u32 1925078388), .lit (.int .u32 2162078206), .lit (.int .u32 2614888103), .lit (.int .u32 3248222580), .lit (.int .u32 3835390401), .lit (.int .u32 4022224774), .lit (.int .u32 264347078), .lit (.int .u32 604807628), .lit (.int .u32 770255983), .lit (.int .u32 1249150122), .lit (.int .u32 1555081692), .lit (.int .u32 1996064986), .lit (.int .u32 2554220882), .lit (.int .u32 2821834349), .lit (.int .u32 2952996808), .lit (.int .u32 3210313671), .lit (.int .u32 3336571891), .lit (.int .u32 3584528711), .lit (.int .u32 113926993), .lit (.int .u32 338241895), .lit (.int .u32 666307205), .lit (.int .u32 773529912), .lit (.int .u32 1294757372), .lit (.int .u32 1396182291), .lit (.int .u32 1695183700), .lit (.int .u32 1986661051), .lit (.int .u32 2177026350), .lit (.int .u32 2456956037), .lit (.int .u32 2730485921), .lit (.int .u32 2820302411), .lit (.int .u32 3259730800), .lit (.int .u32 3345764771), .lit (.int .u32 3516065817), .lit (.int .u32 3600352804), .lit (.int .u32 4094571909), .lit (.int .u32 275423344), .lit (.int .u32 430227734), .lit (.int .u32 506948616), .lit (.int .u32 659060556), .lit (.int .u32 883997877), .lit (.int .u32 958139571), .lit (.int .u32 1322822218), .lit (.int .u32 1537002063), .lit (.int .u32 1747873779), .lit (.int .u32 1955562222), .lit (.int .u32 2024104815), .lit (.int .u32 2227730452), .lit (.int .u32 2361852424), .lit (.int .u32 2428436474), .lit (.int .u32 2756734187), .lit (.int .u32 3204031479), .lit (.int .u32 3329325298)]
def laid_lightclient_sha_initial {H : Type} : DataW H := .agg [.lit (.int .u32 1779033703), .lit (.int .u32 3144134277), .lit (.int .u32 1013904242), .lit (.int .u32 2773480762), .lit (.int .u32 1359893119), .lit (.int .u32 2600822924), .lit (.int .u32 528734635), .lit (.int .u32 1541459225)]

/-- 'lightclientlaw03.ShaCompresses': WHATEVER THE INPUT: true; the input reads as it did. -/
def shaCompressesSpec : ChangeSpec := { name := "shaCompresses", fn := fun _ => fun
  | [d1, d2] => { results := [.lit (.bool true)], args := [d1, d2] }
  | _ => none }
def shaCompressesRow : OpenClaim := { program := "ythjfiaomfngajaadoor", sum := "51badfc30e9921a0b2d7af5e63262dec809631ee8e5cc47e1f6360fdbfdb9234", func := "lightclient/lightclientlaw03.ShaCompresses", spec := "shaCompresses", named := ["lightclient/sha.initial", "lightclient/sha.k"], apart := false, laid := [("lightclient/sha.k", laid_lightclient_sha_k), ("lightclient/sha.initial", laid_lightclient_sha_initial)] }
def ShaCompressesSaid : Prop := shaCompressesRow.holds Tryd.pinned (OpenSpec.ofChange shaCompressesSpec)

/-- ITS FALSE NEIGHBOUR: 'it returns false'. Refute it at one input. -/
def shaCompressesWrong : ChangeSpec := { name := "shaCompresses", fn := fun _ => fun
  | [d1, d2] => { results := [.lit (.bool false)], args := [d1, d2] }
  | _ => none }
def ShaCompressesWrongFalsely : Prop := shaCompressesRow.holds Tryd.pinned (OpenSpec.ofChange shaCompressesWrong)

/-- 'lightclientlaw03.ShaPads': WHATEVER THE INPUT: true; the input reads as it did. -/
def shaPadsSpec : ChangeSpec := { name := "shaPads", fn := fun _ => fun
  | [d] => { results := [.lit (.bool true)], args := [d] }
  | _ => none }
def shaPadsRow : OpenClaim := { program := "ythjfiaomfngajaadoor", sum := "51badfc30e9921a0b2d7af5e63262dec809631ee8e5cc47e1f6360fdbfdb9234", func := "lightclient/lightclientlaw03.ShaPads", spec := "shaPads", named := ["lightclient/sha.initial", "lightclient/sha.k"], apart := false, laid := [("lightclient/sha.k", laid_lightclient_sha_k), ("lightclient/sha.initial", laid_lightclient_sha_initial)] }
def ShaPadsSaid : Prop := shaPadsRow.holds Tryd.pinned (OpenSpec.ofChange shaPadsSpec)

/-- ITS FALSE NEIGHBOUR: 'it returns false'. Refute it at one input. -/
def shaPadsWrong : ChangeSpec := { name := "shaPads", fn := fun _ => fun
  | [d] => { results := [.lit (.bool false)], args := [d] }
  | _ => none }
def ShaPadsWrongFalsely : Prop := shaPadsRow.holds Tryd.pinned (OpenSpec.ofChange shaPadsWrong)

/-- 'lightclientlaw03.ShaSums': WHATEVER THE INPUT: true; the input reads as it did. -/
def shaSumsSpec : ChangeSpec := { name := "shaSums", fn := fun _ => fun
  | [d] => { results := [.lit (.bool true)], args := [d] }
  | _ => none }
def shaSumsRow : OpenClaim := { program := "ythjfiaomfngajaadoor", sum := "51badfc30e9921a0b2d7af5e63262dec809631ee8e5cc47e1f6360fdbfdb9234", func := "lightclient/lightclientlaw03.ShaSums", spec := "shaSums", named := ["lightclient/sha.initial", "lightclient/sha.k"], apart := false, laid := [("lightclient/sha.k", laid_lightclient_sha_k), ("lightclient/sha.initial", laid_lightclient_sha_initial)] }
def ShaSumsSaid : Prop := shaSumsRow.holds Tryd.pinned (OpenSpec.ofChange shaSumsSpec)

/-- ITS FALSE NEIGHBOUR: 'it returns false'. Refute it at one input. -/
def shaSumsWrong : ChangeSpec := { name := "shaSums", fn := fun _ => fun
  | [d] => { results := [.lit (.bool false)], args := [d] }
  | _ => none }
def ShaSumsWrongFalsely : Prop := shaSumsRow.holds Tryd.pinned (OpenSpec.ofChange shaSumsWrong)

/-- 'lightclientlaw03.ShaKeyed': WHATEVER THE INPUT: true; the input reads as it did. -/
def shaKeyedSpec : ChangeSpec := { name := "shaKeyed", fn := fun _ => fun
  | [d1, d2, d3] => { results := [.lit (.bool true)], args := [d1, d2, d3] }
  | _ => none }
def shaKeyedRow : OpenClaim := { program := "ythjfiaomfngajaadoor", sum := "51badfc30e9921a0b2d7af5e63262dec809631ee8e5cc47e1f6360fdbfdb9234", func := "lightclient/lightclientlaw03.ShaKeyed", spec := "shaKeyed", named := ["lightclient/sha.initial", "lightclient/sha.k"], apart := false, laid := [("lightclient/sha.k", laid_lightclient_sha_k), ("lightclient/sha.initial", laid_lightclient_sha_initial)] }
def ShaKeyedSaid : Prop := shaKeyedRow.holds Tryd.pinned (OpenSpec.ofChange shaKeyedSpec)

/-- ITS FALSE NEIGHBOUR: 'it returns false'. Refute it at one input. -/
def shaKeyedWrong : ChangeSpec := { name := "shaKeyed", fn := fun _ => fun
  | [d1, d2, d3] => { results := [.lit (.bool false)], args := [d1, d2, d3] }
  | _ => none }
def ShaKeyedWrongFalsely : Prop := shaKeyedRow.holds Tryd.pinned (OpenSpec.ofChange shaKeyedWrong)

/-- 'lightclientlaw03.ShaChains': WHATEVER THE INPUT: true; the input reads as it did. -/
def shaChainsSpec : ChangeSpec := { name := "shaChains", fn := fun _ => fun
  | [d1, d2] => { results := [.lit (.bool true)], args := [d1, d2] }
  | _ => none }
def shaChainsRow : OpenClaim := { program := "ythjfiaomfngajaadoor", sum := "51badfc30e9921a0b2d7af5e63262dec809631ee8e5cc47e1f6360fdbfdb9234", func := "lightclient/lightclientlaw03.ShaChains", spec := "shaChains", named := ["lightclient/sha.initial", "lightclient/sha.k"], apart := false, laid := [("lightclient/sha.k", laid_lightclient_sha_k), ("lightclient/sha.initial", laid_lightclient_sha_initial)] }
def ShaChainsSaid : Prop := shaChainsRow.holds Tryd.pinned (OpenSpec.ofChange shaChainsSpec)

/-- ITS FALSE NEIGHBOUR: 'it returns false'. Refute it at one input. -/
def shaChainsWrong : ChangeSpec := { name := "shaChains", fn := fun _ => fun
  | [d1, d2] => { results := [.lit (.bool false)], args := [d1, d2] }
  | _ => none }
def ShaChainsWrongFalsely : Prop := shaChainsRow.holds Tryd.pinned (OpenSpec.ofChange shaChainsWrong)

/-- 'lightclientlaw03.ShaLongKeys': WHATEVER THE INPUT: true; the input reads as it did. -/
def shaLongKeysSpec : ChangeSpec := { name := "shaLongKeys", fn := fun _ => fun
  | [d1, d2] => { results := [.lit (.bool true)], args := [d1, d2] }
  | _ => none }
def shaLongKeysRow : OpenClaim := { program := "ythjfiaomfngajaadoor", sum := "51badfc30e9921a0b2d7af5e63262dec809631ee8e5cc47e1f6360fdbfdb9234", func := "lightclient/lightclientlaw03.ShaLongKeys", spec := "shaLongKeys", named := ["lightclient/sha.initial", "lightclient/sha.k"], apart := false, laid := [("lightclient/sha.k", laid_lightclient_sha_k), ("lightclient/sha.initial", laid_lightclient_sha_initial)] }
def ShaLongKeysSaid : Prop := shaLongKeysRow.holds Tryd.pinned (OpenSpec.ofChange shaLongKeysSpec)

/-- ITS FALSE NEIGHBOUR: 'it returns false'. Refute it at one input. -/
def shaLongKeysWrong : ChangeSpec := { name := "shaLongKeys", fn := fun _ => fun
  | [d1, d2] => { results := [.lit (.bool false)], args := [d1, d2] }
  | _ => none }
def ShaLongKeysWrongFalsely : Prop := shaLongKeysRow.holds Tryd.pinned (OpenSpec.ofChange shaLongKeysWrong)

/-- 'lightclientlaw03.ShaDoubles': WHATEVER THE INPUT: true; the input reads as it did. -/
def shaDoublesSpec : ChangeSpec := { name := "shaDoubles", fn := fun _ => fun
  | [d1, d2] => { results := [.lit (.bool true)], args := [d1, d2] }
  | _ => none }
def shaDoublesRow : OpenClaim := { program := "ythjfiaomfngajaadoor", sum := "51badfc30e9921a0b2d7af5e63262dec809631ee8e5cc47e1f6360fdbfdb9234", func := "lightclient/lightclientlaw03.ShaDoubles", spec := "shaDoubles", named := ["lightclient/sha.initial", "lightclient/sha.k"], apart := false, laid := [("lightclient/sha.k", laid_lightclient_sha_k), ("lightclient/sha.initial", laid_lightclient_sha_initial)] }
def ShaDoublesSaid : Prop := shaDoublesRow.holds Tryd.pinned (OpenSpec.ofChange shaDoublesSpec)

/-- ITS FALSE NEIGHBOUR: 'it returns false'. Refute it at one input. -/
def shaDoublesWrong : ChangeSpec := { name := "shaDoubles", fn := fun _ => fun
  | [d1, d2] => { results := [.lit (.bool false)], args := [d1, d2] }
  | _ => none }
def ShaDoublesWrongFalsely : Prop := shaDoublesRow.holds Tryd.pinned (OpenSpec.ofChange shaDoublesWrong)

/- THE SECOND FORM. 'bulk': how many values and letters a reading holds, each counted each time it is reached (what is shared counts as often as it is met; a slice's spare places count too). A statement '..UptoSaid' is the law's where the arguments, and the package variables that the reading takes, are together of bulk at most 1048576: NARROWER than '..Said'. Prove '..Said' where nothing that the law and all that it calls make is longer than what came in: it says more and counts as full. Else prove '..UptoSaid'. A law counts once. -/
mutual
def uptoBulk {H : Type} : DataW H → Nat
  | .lit (.string bytes) => bytes.length + 1
  | .lit _ => 1
  | .nil => 1
  | .ptr d => uptoBulk d + 1
  | .slice elems spare => uptoBulkAll elems + uptoBulkAll spare + 1
  | .agg parts => uptoBulkAll parts + 1
  | .iface _ d => uptoBulk d + 1
  | .map entries => uptoBulkEntries entries + 1
  | .held _ => 1
def uptoBulkAll {H : Type} : List (DataW H) → Nat
  | [] => 0
  | d :: r => uptoBulk d + uptoBulkAll r
def uptoBulkEntries {H : Type} : List (Lit × DataW H) → Nat
  | [] => 0
  | x :: r => uptoBulkEntry x + uptoBulkEntries r
def uptoBulkEntry {H : Type} : Lit × DataW H → Nat
  | (.string bytes, d) => bytes.length + uptoBulk d + 1
  | (_, d) => uptoBulk d + 1
 end
def uptoSmall : (H : Type) → List (DataW H) → Bool := fun _ ds => decide (uptoBulkAll ds ≤ 1048576)
def OpenSpec.upto (s : _root_.Go.ChangeSpec) : _root_.Go.OpenSpec := { _root_.Go.OpenSpec.ofChange s with cond := some uptoSmall }

/-- 'lightclientlaw03.ShaCompresses', WHERE WHAT IT READS IS OF BULK AT MOST 1048576: true; the input reads as it did. -/
def shaCompressesUptoRow : OpenClaim := { program := "ythjfiaomfngajaadoor", sum := "51badfc30e9921a0b2d7af5e63262dec809631ee8e5cc47e1f6360fdbfdb9234", func := "lightclient/lightclientlaw03.ShaCompresses", spec := "shaCompresses", named := ["lightclient/sha.initial", "lightclient/sha.k"], apart := false, laid := [("lightclient/sha.k", laid_lightclient_sha_k), ("lightclient/sha.initial", laid_lightclient_sha_initial)], narrowed := true }
def ShaCompressesUptoSaid : Prop := shaCompressesUptoRow.holds Tryd.pinned (OpenSpec.upto shaCompressesSpec)

/-- 'lightclientlaw03.ShaPads', WHERE WHAT IT READS IS OF BULK AT MOST 1048576: true; the input reads as it did. -/
def shaPadsUptoRow : OpenClaim := { program := "ythjfiaomfngajaadoor", sum := "51badfc30e9921a0b2d7af5e63262dec809631ee8e5cc47e1f6360fdbfdb9234", func := "lightclient/lightclientlaw03.ShaPads", spec := "shaPads", named := ["lightclient/sha.initial", "lightclient/sha.k"], apart := false, laid := [("lightclient/sha.k", laid_lightclient_sha_k), ("lightclient/sha.initial", laid_lightclient_sha_initial)], narrowed := true }
def ShaPadsUptoSaid : Prop := shaPadsUptoRow.holds Tryd.pinned (OpenSpec.upto shaPadsSpec)

/-- 'lightclientlaw03.ShaSums', WHERE WHAT IT READS IS OF BULK AT MOST 1048576: true; the input reads as it did. -/
def shaSumsUptoRow : OpenClaim := { program := "ythjfiaomfngajaadoor", sum := "51badfc30e9921a0b2d7af5e63262dec809631ee8e5cc47e1f6360fdbfdb9234", func := "lightclient/lightclientlaw03.ShaSums", spec := "shaSums", named := ["lightclient/sha.initial", "lightclient/sha.k"], apart := false, laid := [("lightclient/sha.k", laid_lightclient_sha_k), ("lightclient/sha.initial", laid_lightclient_sha_initial)], narrowed := true }
def ShaSumsUptoSaid : Prop := shaSumsUptoRow.holds Tryd.pinned (OpenSpec.upto shaSumsSpec)

/-- 'lightclientlaw03.ShaKeyed', WHERE WHAT IT READS IS OF BULK AT MOST 1048576: true; the input reads as it did. -/
def shaKeyedUptoRow : OpenClaim := { program := "ythjfiaomfngajaadoor", sum := "51badfc30e9921a0b2d7af5e63262dec809631ee8e5cc47e1f6360fdbfdb9234", func := "lightclient/lightclientlaw03.ShaKeyed", spec := "shaKeyed", named := ["lightclient/sha.initial", "lightclient/sha.k"], apart := false, laid := [("lightclient/sha.k", laid_lightclient_sha_k), ("lightclient/sha.initial", laid_lightclient_sha_initial)], narrowed := true }
def ShaKeyedUptoSaid : Prop := shaKeyedUptoRow.holds Tryd.pinned (OpenSpec.upto shaKeyedSpec)

/-- 'lightclientlaw03.ShaChains', WHERE WHAT IT READS IS OF BULK AT MOST 1048576: true; the input reads as it did. -/
def shaChainsUptoRow : OpenClaim := { program := "ythjfiaomfngajaadoor", sum := "51badfc30e9921a0b2d7af5e63262dec809631ee8e5cc47e1f6360fdbfdb9234", func := "lightclient/lightclientlaw03.ShaChains", spec := "shaChains", named := ["lightclient/sha.initial", "lightclient/sha.k"], apart := false, laid := [("lightclient/sha.k", laid_lightclient_sha_k), ("lightclient/sha.initial", laid_lightclient_sha_initial)], narrowed := true }
def ShaChainsUptoSaid : Prop := shaChainsUptoRow.holds Tryd.pinned (OpenSpec.upto shaChainsSpec)

/-- 'lightclientlaw03.ShaLongKeys', WHERE WHAT IT READS IS OF BULK AT MOST 1048576: true; the input reads as it did. -/
def shaLongKeysUptoRow : OpenClaim := { program := "ythjfiaomfngajaadoor", sum := "51badfc30e9921a0b2d7af5e63262dec809631ee8e5cc47e1f6360fdbfdb9234", func := "lightclient/lightclientlaw03.ShaLongKeys", spec := "shaLongKeys", named := ["lightclient/sha.initial", "lightclient/sha.k"], apart := false, laid := [("lightclient/sha.k", laid_lightclient_sha_k), ("lightclient/sha.initial", laid_lightclient_sha_initial)], narrowed := true }
def ShaLongKeysUptoSaid : Prop := shaLongKeysUptoRow.holds Tryd.pinned (OpenSpec.upto shaLongKeysSpec)

/-- 'lightclientlaw03.ShaDoubles', WHERE WHAT IT READS IS OF BULK AT MOST 1048576: true; the input reads as it did. -/
def shaDoublesUptoRow : OpenClaim := { program := "ythjfiaomfngajaadoor", sum := "51badfc30e9921a0b2d7af5e63262dec809631ee8e5cc47e1f6360fdbfdb9234", func := "lightclient/lightclientlaw03.ShaDoubles", spec := "shaDoubles", named := ["lightclient/sha.initial", "lightclient/sha.k"], apart := false, laid := [("lightclient/sha.k", laid_lightclient_sha_k), ("lightclient/sha.initial", laid_lightclient_sha_initial)], narrowed := true }
def ShaDoublesUptoSaid : Prop := shaDoublesUptoRow.holds Tryd.pinned (OpenSpec.upto shaDoublesSpec)

end Rows
end Go.Proofs.YthjfiaomfngajaaDoor
