/-
  NARROWER THAN 'FOR EVERY INPUT', by the rows' own cells (each row's printed sentence says how): SignKeys: laid · SignSigns: laid · SignVerifies: laid · SignRight: laid · SignTweaks: laid · SignEncodes: laid · SignTwice: laid.
  DERIVED. THE GIVEN ROWS OF THIS SEAT. 7 by the template 'for every input the law returns true; each argument reads behind the call as it read before'; 0 by the template 'total and deterministic' (their statements: YtaoabfnjibhgdaaDoorTotals.lean).
  GIVEN WITH THE SEED: the statements are not yours to turn. If you find one false, say at which input.
  Laid BY PROGRAM, IN A SANDBOX (cutbox-rows.mjs): the forced cells as the released guide's own fill.sh prints them over the translation 078033064e94eb2f… (all of the seat's roots in one cut). By AI agents, Wed Nov 11 2026. No macro, syntax, notation, axiom, sorry.
-/
import Derived.Test.YtaoabfnjibhgdaaDoorChecked
import GoSem.Claim
import GoSem.ClaimJoined
import GoSem.ClaimMapViews
import Derived.JoinedTies
import Derived.KernelRfl
namespace Go.Proofs.YtaoabfnjibhgdaaDoor
/- THE CELL 'sum', in the pinned program and in every row, IS THE sha256 OF THE DUMP (.gsa) THAT YtaoabfnjibhgdaaDoorProg.lean LOADS. Nothing in Lean hashes anything: it is a label: what it is worth is what the hold of that sum in a sandbox is worth. -/
noncomputable def Tryd.pinned : Pinned := { name := "ytaoabfnjibhgdaadoor", sum := "078033064e94eb2fc80a46c5246077956e9211d5d8978c311f29dfcad7eba8c9", checked := Tryd.checked }
namespace Rows
def none {H : Type} : Left H := { results := [], args := [] }

/- WHAT THE LISTED PACKAGE-LEVEL VARIABLES READ AS WHEN THE CALL BEGINS. Each datum BY PROGRAM (the guide's laid-datum.mjs) off the statement by which the dump's own 'gosem.cut.vars' lays the variable. In a bare row this is a premise. The card (YtaoabfnjibhgdaaDoorCards.lean) ties it to the program's text. -/
def laid_lightclient_sha_k {H : Type} : DataW H := .agg [.lit (.int .u32 1116352408), .lit (.int .u32 1899447441), .lit (.int .u32 3049323471), .lit (.int .u32 3921009573), .lit (.int .u32 961987163), .lit (.int .u32 1508970993), .lit (.int .u32 2453635748), .lit (.int .u32 2870763221), .lit (.int .u32 3624381080), .lit (.int .u32 310598401), .lit (.int .u32 607225278), .lit (.int .u32 1426881987), .lit (.int .u32 1925078388), .lit (.int .u32 2162078206), .lit (.int .u32 2614888103), .lit (.int .u32 3248222580), .lit (.int .u32 3835390401), .lit (.int .u32 4022224774), .lit (.int .u32 264347078), .lit (.int .u32 604807628), .lit (.int .u32 770255983), .lit (.int .u32 1249150122), .lit (.int .u32 1555081692), .lit (.int .u32 1996064986), .lit (.int .u32 2554220882), .lit (.int .u32 2821834349), .lit (.int .u32 2952996808), .lit (.int .u32 3210313671), .lit (.int .u32 3336571891), .lit (.int .u32 3584528711), .lit (.int .u32 113926993), .lit (.int .u32 338241895), .lit (.int .u32 666307205), .lit (.int .u32 773529912), .lit (.int .u32 1294757372), .lit (.int .u32 1396182291), .lit (.int .u32 1695183700), .lit (.int .u32 1986661051), .lit (.int .u32 2177026350), .lit (.int .u32 2456956037), .lit (.int .u32 2730485921), .lit (.int .u32 2820302411), .lit (.int .u32 3259730800), .lit (.int .u32 3345764771), .lit (.int .u32 3516065817), .lit (.int .u32 3600352804), .lit (.int .u32 4094571909), .lit (.int .u32 275423344), .lit (.int .u32 430227734), .lit (.int .u32 506948616), .lit (.int .u32 659060556), .lit (.int .u32 883997877), .lit (.int .u32 958139571), .lit (.int .u32 1322822218), .lit (.int .u32 1537002063), .lit (.int .u32 1747873779), .lit (.int .u32 1955562222), .lit (.int .u32 2024104815), .lit (.int .u32 2227730452), .lit (.int .u32 2361852424), .lit (.int .u32 2428436474), .lit (.int .u32 2756734187), .lit (.int .u32 3204031479), .lit (.int .u32 3329325298)]
def laid_lightclient_sha_initial {H : Type} : DataW H := .agg [.lit (.int .u32 1779033703), .lit (.int .u32 3144134277), .lit (.int .u32 1013904242), .lit (.int .u32 2773480762), .lit (.int .u32 1359893119), .lit (.int .u32 2600822924), .lit (.int .u32 528734635), .lit (.int .u32 1541459225)]

/-- 'lightclientlaw06.SignKeys': WHATEVER THE INPUT: true; the input reads as it did. -/
def signKeysSpec : ChangeSpec := { name := "signKeys", fn := fun _ => fun
  | [d1, d2, d3] => { results := [.lit (.bool true)], args := [d1, d2, d3] }
  | _ => none }
def signKeysRow : OpenClaim := { program := "ytaoabfnjibhgdaadoor", sum := "078033064e94eb2fc80a46c5246077956e9211d5d8978c311f29dfcad7eba8c9", func := "lightclient/lightclientlaw06.SignKeys", spec := "signKeys", inPlace := ["math/bits.Sub64", "math/bits.Add64"], named := ["lightclient/sha.initial", "lightclient/sha.k"], apart := false, laid := [("lightclient/sha.k", laid_lightclient_sha_k), ("lightclient/sha.initial", laid_lightclient_sha_initial)] }
def SignKeysSaid : Prop := signKeysRow.holds Tryd.pinned (OpenSpec.ofChange signKeysSpec)

/-- ITS FALSE NEIGHBOUR: 'it returns false'. Refute it at one input. -/
def signKeysWrong : ChangeSpec := { name := "signKeys", fn := fun _ => fun
  | [d1, d2, d3] => { results := [.lit (.bool false)], args := [d1, d2, d3] }
  | _ => none }
def SignKeysWrongFalsely : Prop := signKeysRow.holds Tryd.pinned (OpenSpec.ofChange signKeysWrong)

/-- 'lightclientlaw06.SignSigns': WHATEVER THE INPUT: true; the input reads as it did. -/
def signSignsSpec : ChangeSpec := { name := "signSigns", fn := fun _ => fun
  | [d1, d2] => { results := [.lit (.bool true)], args := [d1, d2] }
  | _ => none }
def signSignsRow : OpenClaim := { program := "ytaoabfnjibhgdaadoor", sum := "078033064e94eb2fc80a46c5246077956e9211d5d8978c311f29dfcad7eba8c9", func := "lightclient/lightclientlaw06.SignSigns", spec := "signSigns", inPlace := ["math/bits.Sub64", "math/bits.Add64"], named := ["lightclient/sha.initial", "lightclient/sha.k"], apart := false, laid := [("lightclient/sha.k", laid_lightclient_sha_k), ("lightclient/sha.initial", laid_lightclient_sha_initial)] }
def SignSignsSaid : Prop := signSignsRow.holds Tryd.pinned (OpenSpec.ofChange signSignsSpec)

/-- ITS FALSE NEIGHBOUR: 'it returns false'. Refute it at one input. -/
def signSignsWrong : ChangeSpec := { name := "signSigns", fn := fun _ => fun
  | [d1, d2] => { results := [.lit (.bool false)], args := [d1, d2] }
  | _ => none }
def SignSignsWrongFalsely : Prop := signSignsRow.holds Tryd.pinned (OpenSpec.ofChange signSignsWrong)

/-- 'lightclientlaw06.SignVerifies': WHATEVER THE INPUT: true; the input reads as it did. -/
def signVerifiesSpec : ChangeSpec := { name := "signVerifies", fn := fun _ => fun
  | [d1, d2, d3, d4] => { results := [.lit (.bool true)], args := [d1, d2, d3, d4] }
  | _ => none }
def signVerifiesRow : OpenClaim := { program := "ytaoabfnjibhgdaadoor", sum := "078033064e94eb2fc80a46c5246077956e9211d5d8978c311f29dfcad7eba8c9", func := "lightclient/lightclientlaw06.SignVerifies", spec := "signVerifies", inPlace := ["math/bits.Sub64", "math/bits.Add64"], named := ["lightclient/sha.initial", "lightclient/sha.k"], apart := false, laid := [("lightclient/sha.k", laid_lightclient_sha_k), ("lightclient/sha.initial", laid_lightclient_sha_initial)] }
def SignVerifiesSaid : Prop := signVerifiesRow.holds Tryd.pinned (OpenSpec.ofChange signVerifiesSpec)

/-- ITS FALSE NEIGHBOUR: 'it returns false'. Refute it at one input. -/
def signVerifiesWrong : ChangeSpec := { name := "signVerifies", fn := fun _ => fun
  | [d1, d2, d3, d4] => { results := [.lit (.bool false)], args := [d1, d2, d3, d4] }
  | _ => none }
def SignVerifiesWrongFalsely : Prop := signVerifiesRow.holds Tryd.pinned (OpenSpec.ofChange signVerifiesWrong)

/-- 'lightclientlaw06.SignRight': WHATEVER THE INPUT: true; the input reads as it did. -/
def signRightSpec : ChangeSpec := { name := "signRight", fn := fun _ => fun
  | [d1, d2, d3] => { results := [.lit (.bool true)], args := [d1, d2, d3] }
  | _ => none }
def signRightRow : OpenClaim := { program := "ytaoabfnjibhgdaadoor", sum := "078033064e94eb2fc80a46c5246077956e9211d5d8978c311f29dfcad7eba8c9", func := "lightclient/lightclientlaw06.SignRight", spec := "signRight", inPlace := ["math/bits.Sub64", "math/bits.Add64"], named := ["lightclient/sha.initial", "lightclient/sha.k"], apart := false, laid := [("lightclient/sha.k", laid_lightclient_sha_k), ("lightclient/sha.initial", laid_lightclient_sha_initial)] }
def SignRightSaid : Prop := signRightRow.holds Tryd.pinned (OpenSpec.ofChange signRightSpec)

/-- ITS FALSE NEIGHBOUR: 'it returns false'. Refute it at one input. -/
def signRightWrong : ChangeSpec := { name := "signRight", fn := fun _ => fun
  | [d1, d2, d3] => { results := [.lit (.bool false)], args := [d1, d2, d3] }
  | _ => none }
def SignRightWrongFalsely : Prop := signRightRow.holds Tryd.pinned (OpenSpec.ofChange signRightWrong)

/-- 'lightclientlaw06.SignTweaks': WHATEVER THE INPUT: true; the input reads as it did. -/
def signTweaksSpec : ChangeSpec := { name := "signTweaks", fn := fun _ => fun
  | [d1, d2, d3] => { results := [.lit (.bool true)], args := [d1, d2, d3] }
  | _ => none }
def signTweaksRow : OpenClaim := { program := "ytaoabfnjibhgdaadoor", sum := "078033064e94eb2fc80a46c5246077956e9211d5d8978c311f29dfcad7eba8c9", func := "lightclient/lightclientlaw06.SignTweaks", spec := "signTweaks", inPlace := ["math/bits.Sub64", "math/bits.Add64"], named := ["lightclient/sha.initial", "lightclient/sha.k"], apart := false, laid := [("lightclient/sha.k", laid_lightclient_sha_k), ("lightclient/sha.initial", laid_lightclient_sha_initial)] }
def SignTweaksSaid : Prop := signTweaksRow.holds Tryd.pinned (OpenSpec.ofChange signTweaksSpec)

/-- ITS FALSE NEIGHBOUR: 'it returns false'. Refute it at one input. -/
def signTweaksWrong : ChangeSpec := { name := "signTweaks", fn := fun _ => fun
  | [d1, d2, d3] => { results := [.lit (.bool false)], args := [d1, d2, d3] }
  | _ => none }
def SignTweaksWrongFalsely : Prop := signTweaksRow.holds Tryd.pinned (OpenSpec.ofChange signTweaksWrong)

/-- 'lightclientlaw06.SignEncodes': WHATEVER THE INPUT: true; the input reads as it did. -/
def signEncodesSpec : ChangeSpec := { name := "signEncodes", fn := fun _ => fun
  | [d1, d2] => { results := [.lit (.bool true)], args := [d1, d2] }
  | _ => none }
def signEncodesRow : OpenClaim := { program := "ytaoabfnjibhgdaadoor", sum := "078033064e94eb2fc80a46c5246077956e9211d5d8978c311f29dfcad7eba8c9", func := "lightclient/lightclientlaw06.SignEncodes", spec := "signEncodes", inPlace := ["math/bits.Sub64", "math/bits.Add64"], named := ["lightclient/sha.initial", "lightclient/sha.k"], apart := false, laid := [("lightclient/sha.k", laid_lightclient_sha_k), ("lightclient/sha.initial", laid_lightclient_sha_initial)] }
def SignEncodesSaid : Prop := signEncodesRow.holds Tryd.pinned (OpenSpec.ofChange signEncodesSpec)

/-- ITS FALSE NEIGHBOUR: 'it returns false'. Refute it at one input. -/
def signEncodesWrong : ChangeSpec := { name := "signEncodes", fn := fun _ => fun
  | [d1, d2] => { results := [.lit (.bool false)], args := [d1, d2] }
  | _ => none }
def SignEncodesWrongFalsely : Prop := signEncodesRow.holds Tryd.pinned (OpenSpec.ofChange signEncodesWrong)

/-- 'lightclientlaw06.SignTwice': WHATEVER THE INPUT: true; the input reads as it did. -/
def signTwiceSpec : ChangeSpec := { name := "signTwice", fn := fun _ => fun
  | [d1, d2, d3] => { results := [.lit (.bool true)], args := [d1, d2, d3] }
  | _ => none }
def signTwiceRow : OpenClaim := { program := "ytaoabfnjibhgdaadoor", sum := "078033064e94eb2fc80a46c5246077956e9211d5d8978c311f29dfcad7eba8c9", func := "lightclient/lightclientlaw06.SignTwice", spec := "signTwice", inPlace := ["math/bits.Sub64", "math/bits.Add64"], named := ["lightclient/sha.initial", "lightclient/sha.k"], apart := false, laid := [("lightclient/sha.k", laid_lightclient_sha_k), ("lightclient/sha.initial", laid_lightclient_sha_initial)] }
def SignTwiceSaid : Prop := signTwiceRow.holds Tryd.pinned (OpenSpec.ofChange signTwiceSpec)

/-- ITS FALSE NEIGHBOUR: 'it returns false'. Refute it at one input. -/
def signTwiceWrong : ChangeSpec := { name := "signTwice", fn := fun _ => fun
  | [d1, d2, d3] => { results := [.lit (.bool false)], args := [d1, d2, d3] }
  | _ => none }
def SignTwiceWrongFalsely : Prop := signTwiceRow.holds Tryd.pinned (OpenSpec.ofChange signTwiceWrong)

/- THE SECOND FORM. 'bulk': how many values and letters a reading holds, each counted each time it is reached (what is shared counts as often as it is met; a slice's spare places count too). A statement '..UptoSaid' is the law's where the arguments, and the package variables that the reading takes, are together of bulk at most 1048576: NARROWER than '..Said'. Prove '..Said' where nothing that the law and all that it calls make is longer than what came in: it says more and counts as full. Else prove '..UptoSaid'. A law counts once. -/
mutual
def uptoBulk {H : Type} : DataW H → Nat
  | .lit (.string bytes) => bytes.length + 1
  | .lit _ => 1
  | .nil => 1
  | .ptr d => uptoBulk d + 1
  | .slice elems spare => uptoBulkAll elems + uptoBulkAll spare + 1
  | .agg parts => uptoBulkAll parts + 1
  | .iface _ d => uptoBulk d + 1
  | .map entries => uptoBulkEntries entries + 1
  | .held _ => 1
def uptoBulkAll {H : Type} : List (DataW H) → Nat
  | [] => 0
  | d :: r => uptoBulk d + uptoBulkAll r
def uptoBulkEntries {H : Type} : List (Lit × DataW H) → Nat
  | [] => 0
  | x :: r => uptoBulkEntry x + uptoBulkEntries r
def uptoBulkEntry {H : Type} : Lit × DataW H → Nat
  | (.string bytes, d) => bytes.length + uptoBulk d + 1
  | (_, d) => uptoBulk d + 1
 end
def uptoSmall : (H : Type) → List (DataW H) → Bool := fun _ ds => decide (uptoBulkAll ds ≤ 1048576)
def OpenSpec.upto (s : _root_.Go.ChangeSpec) : _root_.Go.OpenSpec := { _root_.Go.OpenSpec.ofChange s with cond := some uptoSmall }

/-- 'lightclientlaw06.SignKeys', WHERE WHAT IT READS IS OF BULK AT MOST 1048576: true; the input reads as it did. -/
def signKeysUptoRow : OpenClaim := { program := "ytaoabfnjibhgdaadoor", sum := "078033064e94eb2fc80a46c5246077956e9211d5d8978c311f29dfcad7eba8c9", func := "lightclient/lightclientlaw06.SignKeys", spec := "signKeys", inPlace := ["math/bits.Sub64", "math/bits.Add64"], named := ["lightclient/sha.initial", "lightclient/sha.k"], apart := false, laid := [("lightclient/sha.k", laid_lightclient_sha_k), ("lightclient/sha.initial", laid_lightclient_sha_initial)], narrowed := true }
def SignKeysUptoSaid : Prop := signKeysUptoRow.holds Tryd.pinned (OpenSpec.upto signKeysSpec)

/-- 'lightclientlaw06.SignSigns', WHERE WHAT IT READS IS OF BULK AT MOST 1048576: true; the input reads as it did. -/
def signSignsUptoRow : OpenClaim := { program := "ytaoabfnjibhgdaadoor", sum := "078033064e94eb2fc80a46c5246077956e9211d5d8978c311f29dfcad7eba8c9", func := "lightclient/lightclientlaw06.SignSigns", spec := "signSigns", inPlace := ["math/bits.Sub64", "math/bits.Add64"], named := ["lightclient/sha.initial", "lightclient/sha.k"], apart := false, laid := [("lightclient/sha.k", laid_lightclient_sha_k), ("lightclient/sha.initial", laid_lightclient_sha_initial)], narrowed := true }
def SignSignsUptoSaid : Prop := signSignsUptoRow.holds Tryd.pinned (OpenSpec.upto signSignsSpec)

/-- 'lightclientlaw06.SignVerifies', WHERE WHAT IT READS IS OF BULK AT MOST 1048576: true; the input reads as it did. -/
def signVerifiesUptoRow : OpenClaim := { program := "ytaoabfnjibhgdaadoor", sum := "078033064e94eb2fc80a46c5246077956e9211d5d8978c311f29dfcad7eba8c9", func := "lightclient/lightclientlaw06.SignVerifies", spec := "signVerifies", inPlace := ["math/bits.Sub64", "math/bits.Add64"], named := ["lightclient/sha.initial", "lightclient/sha.k"], apart := false, laid := [("lightclient/sha.k", laid_lightclient_sha_k), ("lightclient/sha.initial", laid_lightclient_sha_initial)], narrowed := true }
def SignVerifiesUptoSaid : Prop := signVerifiesUptoRow.holds Tryd.pinned (OpenSpec.upto signVerifiesSpec)

/-- 'lightclientlaw06.SignRight', WHERE WHAT IT READS IS OF BULK AT MOST 1048576: true; the input reads as it did. -/
def signRightUptoRow : OpenClaim := { program := "ytaoabfnjibhgdaadoor", sum := "078033064e94eb2fc80a46c5246077956e9211d5d8978c311f29dfcad7eba8c9", func := "lightclient/lightclientlaw06.SignRight", spec := "signRight", inPlace := ["math/bits.Sub64", "math/bits.Add64"], named := ["lightclient/sha.initial", "lightclient/sha.k"], apart := false, laid := [("lightclient/sha.k", laid_lightclient_sha_k), ("lightclient/sha.initial", laid_lightclient_sha_initial)], narrowed := true }
def SignRightUptoSaid : Prop := signRightUptoRow.holds Tryd.pinned (OpenSpec.upto signRightSpec)

/-- 'lightclientlaw06.SignTweaks', WHERE WHAT IT READS IS OF BULK AT MOST 1048576: true; the input reads as it did. -/
def signTweaksUptoRow : OpenClaim := { program := "ytaoabfnjibhgdaadoor", sum := "078033064e94eb2fc80a46c5246077956e9211d5d8978c311f29dfcad7eba8c9", func := "lightclient/lightclientlaw06.SignTweaks", spec := "signTweaks", inPlace := ["math/bits.Sub64", "math/bits.Add64"], named := ["lightclient/sha.initial", "lightclient/sha.k"], apart := false, laid := [("lightclient/sha.k", laid_lightclient_sha_k), ("lightclient/sha.initial", laid_lightclient_sha_initial)], narrowed := true }
def SignTweaksUptoSaid : Prop := signTweaksUptoRow.holds Tryd.pinned (OpenSpec.upto signTweaksSpec)

/-- 'lightclientlaw06.SignEncodes', WHERE WHAT IT READS IS OF BULK AT MOST 1048576: true; the input reads as it did. -/
def signEncodesUptoRow : OpenClaim := { program := "ytaoabfnjibhgdaadoor", sum := "078033064e94eb2fc80a46c5246077956e9211d5d8978c311f29dfcad7eba8c9", func := "lightclient/lightclientlaw06.SignEncodes", spec := "signEncodes", inPlace := ["math/bits.Sub64", "math/bits.Add64"], named := ["lightclient/sha.initial", "lightclient/sha.k"], apart := false, laid := [("lightclient/sha.k", laid_lightclient_sha_k), ("lightclient/sha.initial", laid_lightclient_sha_initial)], narrowed := true }
def SignEncodesUptoSaid : Prop := signEncodesUptoRow.holds Tryd.pinned (OpenSpec.upto signEncodesSpec)

/-- 'lightclientlaw06.SignTwice', WHERE WHAT IT READS IS OF BULK AT MOST 1048576: true; the input reads as it did. -/
def signTwiceUptoRow : OpenClaim := { program := "ytaoabfnjibhgdaadoor", sum := "078033064e94eb2fc80a46c5246077956e9211d5d8978c311f29dfcad7eba8c9", func := "lightclient/lightclientlaw06.SignTwice", spec := "signTwice", inPlace := ["math/bits.Sub64", "math/bits.Add64"], named := ["lightclient/sha.initial", "lightclient/sha.k"], apart := false, laid := [("lightclient/sha.k", laid_lightclient_sha_k), ("lightclient/sha.initial", laid_lightclient_sha_initial)], narrowed := true }
def SignTwiceUptoSaid : Prop := signTwiceUptoRow.holds Tryd.pinned (OpenSpec.upto signTwiceSpec)

end Rows
end Go.Proofs.YtaoabfnjibhgdaaDoor
