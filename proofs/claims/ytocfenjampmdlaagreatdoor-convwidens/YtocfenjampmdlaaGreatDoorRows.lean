/-
  NARROWER THAN 'FOR EVERY INPUT', by the rows' own cells (each row's printed sentence says how): ConvMuls: laid · ConvExact: laid · ConvPlaces: laid · ConvWidens: laid · ConvBoxes: laid · ConvSame: laid.
  DERIVED. THE GIVEN ROWS OF THIS SEAT. 6 by the template 'for every input the law returns true; each argument reads behind the call as it read before'; 0 by the template 'total and deterministic' (their statements: YtocfenjampmdlaaGreatDoorTotals.lean).
  GIVEN WITH THE SEED: the statements are not yours to turn. If you find one false, say at which input.
  Laid BY PROGRAM, IN A SANDBOX (cutbox-rows.mjs): the forced cells as the released guide's own fill.sh prints them over the translation 30e30f9d8b8f7f2e… (all of the seat's roots in one cut). By AI agents, Wed Nov 11 2026. No macro, syntax, notation, axiom, sorry.
-/
import Derived.Test.YtocfenjampmdlaaGreatDoorChecked
import GoSem.Claim
import GoSem.ClaimJoined
import GoSem.ClaimMapViews
import Derived.JoinedTies
import Derived.KernelRfl
namespace Go.Proofs.YtocfenjampmdlaaGreatDoor
/- THE CELL 'sum', in the pinned program and in every row, IS THE sha256 OF THE DUMP (.gsa) THAT YtocfenjampmdlaaGreatDoorProg.lean LOADS. Nothing in Lean hashes anything: it is a label: what it is worth is what the hold of that sum in a sandbox is worth. -/
noncomputable def Tryz.pinned : Pinned := { name := "ytocfenjampmdlaagreatdoor", sum := "30e30f9d8b8f7f2e4e5bc7eab087f1278d0212c12348014512c1be7a53480196", checked := Tryz.checked }
namespace Rows
def none {H : Type} : Left H := { results := [], args := [] }

/- WHAT THE LISTED PACKAGE-LEVEL VARIABLES READ AS WHEN THE CALL BEGINS. Each datum BY PROGRAM (the guide's laid-datum.mjs) off the statement by which the dump's own 'gosem.cut.vars' lays the variable. In a bare row this is a premise. The card (YtocfenjampmdlaaGreatDoorCards.lean) ties it to the program's text. -/
def laid_math_bits_deBruijn32tab {H : Type} : DataW H := .agg [.lit (.int .u8 0), .lit (.int .u8 1), .lit (.int .u8 28), .lit (.int .u8 2), .lit (.int .u8 29), .lit (.int .u8 14), .lit (.int .u8 24), .lit (.int .u8 3), .lit (.int .u8 30), .lit (.int .u8 22), .lit (.int .u8 20), .lit (.int .u8 15), .lit (.int .u8 25), .lit (.int .u8 17), .lit (.int .u8 4), .lit (.int .u8 8), .lit (.int .u8 31), .lit (.int .u8 27), .lit (.int .u8 13), .lit (.int .u8 23), .lit (.int .u8 21), .lit (.int .u8 19), .lit (.int .u8 16), .lit (.int .u8 7), .lit (.int .u8 26), .lit (.int .u8 12), .lit (.int .u8 18), .lit (.int .u8 6), .lit (.int .u8 11), .lit (.int .u8 5), .lit (.int .u8 10), .lit (.int .u8 9)]
def laid_math_bits_deBruijn64tab {H : Type} : DataW H := .agg [.lit (.int .u8 0), .lit (.int .u8 1), .lit (.int .u8 56), .lit (.int .u8 2), .lit (.int .u8 57), .lit (.int .u8 49), .lit (.int .u8 28), .lit (.int .u8 3), .lit (.int .u8 61), .lit (.int .u8 58), .lit (.int .u8 42), .lit (.int .u8 50), .lit (.int .u8 38), .lit (.int .u8 29), .lit (.int .u8 17), .lit (.int .u8 4), .lit (.int .u8 62), .lit (.int .u8 47), .lit (.int .u8 59), .lit (.int .u8 36), .lit (.int .u8 45), .lit (.int .u8 43), .lit (.int .u8 51), .lit (.int .u8 22), .lit (.int .u8 53), .lit (.int .u8 39), .lit (.int .u8 33), .lit (.int .u8 30), .lit (.int .u8 24), .lit (.int .u8 18), .lit (.int .u8 12), .lit (.int .u8 5), .lit (.int .u8 63), .lit (.int .u8 55), .lit (.int .u8 48), .lit (.int .u8 27), .lit (.int .u8 60), .lit (.int .u8 41), .lit (.int .u8 37), .lit (.int .u8 16), .lit (.int .u8 46), .lit (.int .u8 35), .lit (.int .u8 44), .lit (.int .u8 21), .lit (.int .u8 52), .lit (.int .u8 32), .lit (.int .u8 23), .lit (.int .u8 11), .lit (.int .u8 54), .lit (.int .u8 26), .lit (.int .u8 40), .lit (.int .u8 15), .lit (.int .u8 34), .lit (.int .u8 20), .lit (.int .u8 31), .lit (.int .u8 10), .lit (.int .u8 25), .lit (.int .u8 14), .lit (.int .u8 19), .lit (.int .u8 9), .lit (.int .u8 13), .lit (.int .u8 8), .lit (.int .u8 7), .lit (.int .u8 6)]
def laid_internal_strconv_uint64pow10 {H : Type} : DataW H := .agg [.lit (.int .u64 1), .lit (.int .u64 10), .lit (.int .u64 100), .lit (.int .u64 1000), .lit (.int .u64 10000), .lit (.int .u64 100000), .lit (.int .u64 1000000), .lit (.int .u64 10000000), .lit (.int .u64 100000000), .lit (.int .u64 1000000000), .lit (.int .u64 10000000000), .lit (.int .u64 100000000000), .lit (.int .u64 1000000000000), .lit (.int .u64 10000000000000), .lit (.int .u64 100000000000000), .lit (.int .u64 1000000000000000), .lit (.int .u64 10000000000000000), .lit (.int .u64 100000000000000000), .lit (.int .u64 1000000000000000000), .lit (.int .u64 10000000000000000000)]
def laid_vinculum_prime_bases {H : Type} : DataW H := .agg [.lit (.int .u64 2), .lit (.int .u64 3), .lit (.int .u64 5), .lit (.int .u64 7), .lit (.int .u64 11), .lit (.int .u64 13), .lit (.int .u64 17), .lit (.int .u64 19), .lit (.int .u64 23), .lit (.int .u64 29), .lit (.int .u64 31), .lit (.int .u64 37)]
def laid_vinculum_conv_primes {H : Type} : DataW H := .agg [.lit (.int .u64 9223372036836950017), .lit (.int .u64 9223372036818075649), .lit (.int .u64 9223372036797104129)]

/-- 'vinculumlaw08.ConvMuls': WHATEVER THE INPUT: true; the input reads as it did. -/
def convMulsSpec : ChangeSpec := { name := "convMuls", fn := fun _ => fun
  | [d1, d2, d3] => { results := [.lit (.bool true)], args := [d1, d2, d3] }
  | _ => none }
def convMulsRow : OpenClaim := { program := "ytocfenjampmdlaagreatdoor", sum := "30e30f9d8b8f7f2e4e5bc7eab087f1278d0212c12348014512c1be7a53480196", func := "vinculum/vinculumlaw08.ConvMuls", spec := "convMuls", inPlace := ["math/bits.Add64", "internal/abi.NoEscape", "internal/bytealg.MakeNoZero"], unfollowed := true, recurses := true, named := ["vinculum/conv.primes", "vinculum/prime.bases", "math/bits.deBruijn64tab", "math/bits.divideError", "math/bits.overflowError", "internal/strconv.uint64pow10", "math/bits.deBruijn32tab"], apart := false, laid := [("math/bits.deBruijn32tab", laid_math_bits_deBruijn32tab), ("math/bits.deBruijn64tab", laid_math_bits_deBruijn64tab), ("internal/strconv.uint64pow10", laid_internal_strconv_uint64pow10), ("vinculum/prime.bases", laid_vinculum_prime_bases), ("vinculum/conv.primes", laid_vinculum_conv_primes)] }
def ConvMulsSaid : Prop := convMulsRow.holds Tryz.pinned (OpenSpec.ofChange convMulsSpec)

/-- ITS FALSE NEIGHBOUR: 'it returns false'. Refute it at one input. -/
def convMulsWrong : ChangeSpec := { name := "convMuls", fn := fun _ => fun
  | [d1, d2, d3] => { results := [.lit (.bool false)], args := [d1, d2, d3] }
  | _ => none }
def ConvMulsWrongFalsely : Prop := convMulsRow.holds Tryz.pinned (OpenSpec.ofChange convMulsWrong)

/-- 'vinculumlaw08.ConvExact': WHATEVER THE INPUT: true; the input reads as it did. -/
def convExactSpec : ChangeSpec := { name := "convExact", fn := fun _ => fun
  | [d1, d2] => { results := [.lit (.bool true)], args := [d1, d2] }
  | _ => none }
def convExactRow : OpenClaim := { program := "ytocfenjampmdlaagreatdoor", sum := "30e30f9d8b8f7f2e4e5bc7eab087f1278d0212c12348014512c1be7a53480196", func := "vinculum/vinculumlaw08.ConvExact", spec := "convExact", inPlace := ["math/bits.Add64", "internal/abi.NoEscape", "internal/bytealg.MakeNoZero"], unfollowed := true, recurses := true, named := ["vinculum/conv.primes", "vinculum/prime.bases", "math/bits.deBruijn64tab", "math/bits.divideError", "math/bits.overflowError", "internal/strconv.uint64pow10", "math/bits.deBruijn32tab"], apart := false, laid := [("math/bits.deBruijn32tab", laid_math_bits_deBruijn32tab), ("math/bits.deBruijn64tab", laid_math_bits_deBruijn64tab), ("internal/strconv.uint64pow10", laid_internal_strconv_uint64pow10), ("vinculum/prime.bases", laid_vinculum_prime_bases), ("vinculum/conv.primes", laid_vinculum_conv_primes)] }
def ConvExactSaid : Prop := convExactRow.holds Tryz.pinned (OpenSpec.ofChange convExactSpec)

/-- ITS FALSE NEIGHBOUR: 'it returns false'. Refute it at one input. -/
def convExactWrong : ChangeSpec := { name := "convExact", fn := fun _ => fun
  | [d1, d2] => { results := [.lit (.bool false)], args := [d1, d2] }
  | _ => none }
def ConvExactWrongFalsely : Prop := convExactRow.holds Tryz.pinned (OpenSpec.ofChange convExactWrong)

/-- 'vinculumlaw08.ConvPlaces': WHATEVER THE INPUT: true; the input reads as it did. -/
def convPlacesSpec : ChangeSpec := { name := "convPlaces", fn := fun _ => fun
  | [d1, d2] => { results := [.lit (.bool true)], args := [d1, d2] }
  | _ => none }
def convPlacesRow : OpenClaim := { program := "ytocfenjampmdlaagreatdoor", sum := "30e30f9d8b8f7f2e4e5bc7eab087f1278d0212c12348014512c1be7a53480196", func := "vinculum/vinculumlaw08.ConvPlaces", spec := "convPlaces", inPlace := ["math/bits.Add64", "internal/abi.NoEscape", "internal/bytealg.MakeNoZero"], unfollowed := true, recurses := true, named := ["vinculum/conv.primes", "vinculum/prime.bases", "math/bits.deBruijn64tab", "math/bits.divideError", "math/bits.overflowError", "internal/strconv.uint64pow10", "math/bits.deBruijn32tab"], apart := false, laid := [("math/bits.deBruijn32tab", laid_math_bits_deBruijn32tab), ("math/bits.deBruijn64tab", laid_math_bits_deBruijn64tab), ("internal/strconv.uint64pow10", laid_internal_strconv_uint64pow10), ("vinculum/prime.bases", laid_vinculum_prime_bases), ("vinculum/conv.primes", laid_vinculum_conv_primes)] }
def ConvPlacesSaid : Prop := convPlacesRow.holds Tryz.pinned (OpenSpec.ofChange convPlacesSpec)

/-- ITS FALSE NEIGHBOUR: 'it returns false'. Refute it at one input. -/
def convPlacesWrong : ChangeSpec := { name := "convPlaces", fn := fun _ => fun
  | [d1, d2] => { results := [.lit (.bool false)], args := [d1, d2] }
  | _ => none }
def ConvPlacesWrongFalsely : Prop := convPlacesRow.holds Tryz.pinned (OpenSpec.ofChange convPlacesWrong)

/-- 'vinculumlaw08.ConvWidens': WHATEVER THE INPUT: true; the input reads as it did. -/
def convWidensSpec : ChangeSpec := { name := "convWidens", fn := fun _ => fun
  | [d1, d2] => { results := [.lit (.bool true)], args := [d1, d2] }
  | _ => none }
def convWidensRow : OpenClaim := { program := "ytocfenjampmdlaagreatdoor", sum := "30e30f9d8b8f7f2e4e5bc7eab087f1278d0212c12348014512c1be7a53480196", func := "vinculum/vinculumlaw08.ConvWidens", spec := "convWidens", inPlace := ["math/bits.Add64", "internal/abi.NoEscape", "internal/bytealg.MakeNoZero"], unfollowed := true, recurses := true, named := ["vinculum/conv.primes", "vinculum/prime.bases", "math/bits.deBruijn64tab", "math/bits.divideError", "math/bits.overflowError", "internal/strconv.uint64pow10", "math/bits.deBruijn32tab"], apart := false, laid := [("math/bits.deBruijn32tab", laid_math_bits_deBruijn32tab), ("math/bits.deBruijn64tab", laid_math_bits_deBruijn64tab), ("internal/strconv.uint64pow10", laid_internal_strconv_uint64pow10), ("vinculum/prime.bases", laid_vinculum_prime_bases), ("vinculum/conv.primes", laid_vinculum_conv_primes)] }
def ConvWidensSaid : Prop := convWidensRow.holds Tryz.pinned (OpenSpec.ofChange convWidensSpec)

/-- ITS FALSE NEIGHBOUR: 'it returns false'. Refute it at one input. -/
def convWidensWrong : ChangeSpec := { name := "convWidens", fn := fun _ => fun
  | [d1, d2] => { results := [.lit (.bool false)], args := [d1, d2] }
  | _ => none }
def ConvWidensWrongFalsely : Prop := convWidensRow.holds Tryz.pinned (OpenSpec.ofChange convWidensWrong)

/-- 'vinculumlaw08.ConvBoxes': WHATEVER THE INPUT: true; the input reads as it did. -/
def convBoxesSpec : ChangeSpec := { name := "convBoxes", fn := fun _ => fun
  | [d1, d2, d3] => { results := [.lit (.bool true)], args := [d1, d2, d3] }
  | _ => none }
def convBoxesRow : OpenClaim := { program := "ytocfenjampmdlaagreatdoor", sum := "30e30f9d8b8f7f2e4e5bc7eab087f1278d0212c12348014512c1be7a53480196", func := "vinculum/vinculumlaw08.ConvBoxes", spec := "convBoxes", inPlace := ["math/bits.Add64", "internal/abi.NoEscape", "internal/bytealg.MakeNoZero"], unfollowed := true, recurses := true, named := ["vinculum/conv.primes", "vinculum/prime.bases", "math/bits.deBruijn64tab", "math/bits.divideError", "math/bits.overflowError", "internal/strconv.uint64pow10", "math/bits.deBruijn32tab"], apart := false, laid := [("math/bits.deBruijn32tab", laid_math_bits_deBruijn32tab), ("math/bits.deBruijn64tab", laid_math_bits_deBruijn64tab), ("internal/strconv.uint64pow10", laid_internal_strconv_uint64pow10), ("vinculum/prime.bases", laid_vinculum_prime_bases), ("vinculum/conv.primes", laid_vinculum_conv_primes)] }
def ConvBoxesSaid : Prop := convBoxesRow.holds Tryz.pinned (OpenSpec.ofChange convBoxesSpec)

/-- ITS FALSE NEIGHBOUR: 'it returns false'. Refute it at one input. -/
def convBoxesWrong : ChangeSpec := { name := "convBoxes", fn := fun _ => fun
  | [d1, d2, d3] => { results := [.lit (.bool false)], args := [d1, d2, d3] }
  | _ => none }
def ConvBoxesWrongFalsely : Prop := convBoxesRow.holds Tryz.pinned (OpenSpec.ofChange convBoxesWrong)

/-- 'vinculumlaw08.ConvSame': WHATEVER THE INPUT: true; the input reads as it did. -/
def convSameSpec : ChangeSpec := { name := "convSame", fn := fun _ => fun
  | [d1, d2, d3] => { results := [.lit (.bool true)], args := [d1, d2, d3] }
  | _ => none }
def convSameRow : OpenClaim := { program := "ytocfenjampmdlaagreatdoor", sum := "30e30f9d8b8f7f2e4e5bc7eab087f1278d0212c12348014512c1be7a53480196", func := "vinculum/vinculumlaw08.ConvSame", spec := "convSame", inPlace := ["math/bits.Add64", "internal/abi.NoEscape", "internal/bytealg.MakeNoZero"], unfollowed := true, recurses := true, named := ["vinculum/conv.primes", "vinculum/prime.bases", "math/bits.deBruijn64tab", "math/bits.divideError", "math/bits.overflowError", "internal/strconv.uint64pow10", "math/bits.deBruijn32tab"], apart := false, laid := [("math/bits.deBruijn32tab", laid_math_bits_deBruijn32tab), ("math/bits.deBruijn64tab", laid_math_bits_deBruijn64tab), ("internal/strconv.uint64pow10", laid_internal_strconv_uint64pow10), ("vinculum/prime.bases", laid_vinculum_prime_bases), ("vinculum/conv.primes", laid_vinculum_conv_primes)] }
def ConvSameSaid : Prop := convSameRow.holds Tryz.pinned (OpenSpec.ofChange convSameSpec)

/-- ITS FALSE NEIGHBOUR: 'it returns false'. Refute it at one input. -/
def convSameWrong : ChangeSpec := { name := "convSame", fn := fun _ => fun
  | [d1, d2, d3] => { results := [.lit (.bool false)], args := [d1, d2, d3] }
  | _ => none }
def ConvSameWrongFalsely : Prop := convSameRow.holds Tryz.pinned (OpenSpec.ofChange convSameWrong)

/- THE SECOND FORM. 'bulk': how many values and letters a reading holds, each counted each time it is reached (what is shared counts as often as it is met; a slice's spare places count too). A statement '..UptoSaid' is the law's where the arguments, and the package variables that the reading takes, are together of bulk at most 1048576: NARROWER than '..Said'. Prove '..Said' where nothing that the law and all that it calls make is longer than what came in: it says more and counts as full. Else prove '..UptoSaid'. A law counts once. -/
mutual
def uptoBulk {H : Type} : DataW H → Nat
  | .lit (.string bytes) => bytes.length + 1
  | .lit _ => 1
  | .nil => 1
  | .ptr d => uptoBulk d + 1
  | .slice elems spare => uptoBulkAll elems + uptoBulkAll spare + 1
  | .agg parts => uptoBulkAll parts + 1
  | .iface _ d => uptoBulk d + 1
  | .map entries => uptoBulkEntries entries + 1
  | .held _ => 1
def uptoBulkAll {H : Type} : List (DataW H) → Nat
  | [] => 0
  | d :: r => uptoBulk d + uptoBulkAll r
def uptoBulkEntries {H : Type} : List (Lit × DataW H) → Nat
  | [] => 0
  | x :: r => uptoBulkEntry x + uptoBulkEntries r
def uptoBulkEntry {H : Type} : Lit × DataW H → Nat
  | (.string bytes, d) => bytes.length + uptoBulk d + 1
  | (_, d) => uptoBulk d + 1
 end
def uptoSmall : (H : Type) → List (DataW H) → Bool := fun _ ds => decide (uptoBulkAll ds ≤ 1048576)
def OpenSpec.upto (s : _root_.Go.ChangeSpec) : _root_.Go.OpenSpec := { _root_.Go.OpenSpec.ofChange s with cond := some uptoSmall }

/-- 'vinculumlaw08.ConvMuls', WHERE WHAT IT READS IS OF BULK AT MOST 1048576: true; the input reads as it did. -/
def convMulsUptoRow : OpenClaim := { program := "ytocfenjampmdlaagreatdoor", sum := "30e30f9d8b8f7f2e4e5bc7eab087f1278d0212c12348014512c1be7a53480196", func := "vinculum/vinculumlaw08.ConvMuls", spec := "convMuls", inPlace := ["math/bits.Add64", "internal/abi.NoEscape", "internal/bytealg.MakeNoZero"], unfollowed := true, recurses := true, named := ["vinculum/conv.primes", "vinculum/prime.bases", "math/bits.deBruijn64tab", "math/bits.divideError", "math/bits.overflowError", "internal/strconv.uint64pow10", "math/bits.deBruijn32tab"], apart := false, laid := [("math/bits.deBruijn32tab", laid_math_bits_deBruijn32tab), ("math/bits.deBruijn64tab", laid_math_bits_deBruijn64tab), ("internal/strconv.uint64pow10", laid_internal_strconv_uint64pow10), ("vinculum/prime.bases", laid_vinculum_prime_bases), ("vinculum/conv.primes", laid_vinculum_conv_primes)], narrowed := true }
def ConvMulsUptoSaid : Prop := convMulsUptoRow.holds Tryz.pinned (OpenSpec.upto convMulsSpec)

/-- 'vinculumlaw08.ConvExact', WHERE WHAT IT READS IS OF BULK AT MOST 1048576: true; the input reads as it did. -/
def convExactUptoRow : OpenClaim := { program := "ytocfenjampmdlaagreatdoor", sum := "30e30f9d8b8f7f2e4e5bc7eab087f1278d0212c12348014512c1be7a53480196", func := "vinculum/vinculumlaw08.ConvExact", spec := "convExact", inPlace := ["math/bits.Add64", "internal/abi.NoEscape", "internal/bytealg.MakeNoZero"], unfollowed := true, recurses := true, named := ["vinculum/conv.primes", "vinculum/prime.bases", "math/bits.deBruijn64tab", "math/bits.divideError", "math/bits.overflowError", "internal/strconv.uint64pow10", "math/bits.deBruijn32tab"], apart := false, laid := [("math/bits.deBruijn32tab", laid_math_bits_deBruijn32tab), ("math/bits.deBruijn64tab", laid_math_bits_deBruijn64tab), ("internal/strconv.uint64pow10", laid_internal_strconv_uint64pow10), ("vinculum/prime.bases", laid_vinculum_prime_bases), ("vinculum/conv.primes", laid_vinculum_conv_primes)], narrowed := true }
def ConvExactUptoSaid : Prop := convExactUptoRow.holds Tryz.pinned (OpenSpec.upto convExactSpec)

/-- 'vinculumlaw08.ConvPlaces', WHERE WHAT IT READS IS OF BULK AT MOST 1048576: true; the input reads as it did. -/
def convPlacesUptoRow : OpenClaim := { program := "ytocfenjampmdlaagreatdoor", sum := "30e30f9d8b8f7f2e4e5bc7eab087f1278d0212c12348014512c1be7a53480196", func := "vinculum/vinculumlaw08.ConvPlaces", spec := "convPlaces", inPlace := ["math/bits.Add64", "internal/abi.NoEscape", "internal/bytealg.MakeNoZero"], unfollowed := true, recurses := true, named := ["vinculum/conv.primes", "vinculum/prime.bases", "math/bits.deBruijn64tab", "math/bits.divideError", "math/bits.overflowError", "internal/strconv.uint64pow10", "math/bits.deBruijn32tab"], apart := false, laid := [("math/bits.deBruijn32tab", laid_math_bits_deBruijn32tab), ("math/bits.deBruijn64tab", laid_math_bits_deBruijn64tab), ("internal/strconv.uint64pow10", laid_internal_strconv_uint64pow10), ("vinculum/prime.bases", laid_vinculum_prime_bases), ("vinculum/conv.primes", laid_vinculum_conv_primes)], narrowed := true }
def ConvPlacesUptoSaid : Prop := convPlacesUptoRow.holds Tryz.pinned (OpenSpec.upto convPlacesSpec)

/-- 'vinculumlaw08.ConvWidens', WHERE WHAT IT READS IS OF BULK AT MOST 1048576: true; the input reads as it did. -/
def convWidensUptoRow : OpenClaim := { program := "ytocfenjampmdlaagreatdoor", sum := "30e30f9d8b8f7f2e4e5bc7eab087f1278d0212c12348014512c1be7a53480196", func := "vinculum/vinculumlaw08.ConvWidens", spec := "convWidens", inPlace := ["math/bits.Add64", "internal/abi.NoEscape", "internal/bytealg.MakeNoZero"], unfollowed := true, recurses := true, named := ["vinculum/conv.primes", "vinculum/prime.bases", "math/bits.deBruijn64tab", "math/bits.divideError", "math/bits.overflowError", "internal/strconv.uint64pow10", "math/bits.deBruijn32tab"], apart := false, laid := [("math/bits.deBruijn32tab", laid_math_bits_deBruijn32tab), ("math/bits.deBruijn64tab", laid_math_bits_deBruijn64tab), ("internal/strconv.uint64pow10", laid_internal_strconv_uint64pow10), ("vinculum/prime.bases", laid_vinculum_prime_bases), ("vinculum/conv.primes", laid_vinculum_conv_primes)], narrowed := true }
def ConvWidensUptoSaid : Prop := convWidensUptoRow.holds Tryz.pinned (OpenSpec.upto convWidensSpec)

/-- 'vinculumlaw08.ConvBoxes', WHERE WHAT IT READS IS OF BULK AT MOST 1048576: true; the input reads as it did. -/
def convBoxesUptoRow : OpenClaim := { program := "ytocfenjampmdlaagreatdoor", sum := "30e30f9d8b8f7f2e4e5bc7eab087f1278d0212c12348014512c1be7a53480196", func := "vinculum/vinculumlaw08.ConvBoxes", spec := "convBoxes", inPlace := ["math/bits.Add64", "internal/abi.NoEscape", "internal/bytealg.MakeNoZero"], unfollowed := true, recurses := true, named := ["vinculum/conv.primes", "vinculum/prime.bases", "math/bits.deBruijn64tab", "math/bits.divideError", "math/bits.overflowError", "internal/strconv.uint64pow10", "math/bits.deBruijn32tab"], apart := false, laid := [("math/bits.deBruijn32tab", laid_math_bits_deBruijn32tab), ("math/bits.deBruijn64tab", laid_math_bits_deBruijn64tab), ("internal/strconv.uint64pow10", laid_internal_strconv_uint64pow10), ("vinculum/prime.bases", laid_vinculum_prime_bases), ("vinculum/conv.primes", laid_vinculum_conv_primes)], narrowed := true }
def ConvBoxesUptoSaid : Prop := convBoxesUptoRow.holds Tryz.pinned (OpenSpec.upto convBoxesSpec)

/-- 'vinculumlaw08.ConvSame', WHERE WHAT IT READS IS OF BULK AT MOST 1048576: true; the input reads as it did. -/
def convSameUptoRow : OpenClaim := { program := "ytocfenjampmdlaagreatdoor", sum := "30e30f9d8b8f7f2e4e5bc7eab087f1278d0212c12348014512c1be7a53480196", func := "vinculum/vinculumlaw08.ConvSame", spec := "convSame", inPlace := ["math/bits.Add64", "internal/abi.NoEscape", "internal/bytealg.MakeNoZero"], unfollowed := true, recurses := true, named := ["vinculum/conv.primes", "vinculum/prime.bases", "math/bits.deBruijn64tab", "math/bits.divideError", "math/bits.overflowError", "internal/strconv.uint64pow10", "math/bits.deBruijn32tab"], apart := false, laid := [("math/bits.deBruijn32tab", laid_math_bits_deBruijn32tab), ("math/bits.deBruijn64tab", laid_math_bits_deBruijn64tab), ("internal/strconv.uint64pow10", laid_internal_strconv_uint64pow10), ("vinculum/prime.bases", laid_vinculum_prime_bases), ("vinculum/conv.primes", laid_vinculum_conv_primes)], narrowed := true }
def ConvSameUptoSaid : Prop := convSameUptoRow.holds Tryz.pinned (OpenSpec.upto convSameSpec)

end Rows
end Go.Proofs.YtocfenjampmdlaaGreatDoor
