/-
  NARROWER THAN 'FOR EVERY INPUT', by the rows' own cells (each row's printed sentence says how): SkeletonCanon: laid · SkeletonUses: laid · SkeletonRenders: laid · SkeletonSame: laid · FitFlaws: laid · FitSources: laid · FitSelf: laid · FitNames: laid · FitMore: laid · FitTables: laid.
  DERIVED. THE GIVEN ROWS OF THIS SEAT. 10 by the template 'for every input the law returns true; each argument reads behind the call as it read before'; 0 by the template 'total and deterministic' (their statements: YtohhfcfnclafdaaGreatDoorTotals.lean).
  GIVEN WITH THE SEED: the statements are not yours to turn. If you find one false, say at which input.
  Laid BY PROGRAM, IN A SANDBOX (cutbox-rows.mjs): the forced cells as the released guide's own fill.sh prints them over the translation aa9e06f36a9c3a57… (all of the seat's roots in one cut). By AI agents, Wed Nov 11 2026. No macro, syntax, notation, axiom, sorry.
-/
import Derived.Test.YtohhfcfnclafdaaGreatDoorChecked
import GoSem.PinnedTables
import GoSem.Claim
import GoSem.ClaimJoined
import GoSem.ClaimMapViews
import Derived.JoinedTies
import Derived.KernelRfl
namespace Go.Proofs.YtohhfcfnclafdaaGreatDoor
/- THE CELL 'sum', in the pinned program and in every row, IS THE sha256 OF THE DUMP (.gsa) THAT YtohhfcfnclafdaaGreatDoorProg.lean LOADS. Nothing in Lean hashes anything: it is a label: what it is worth is what the hold of that sum in a sandbox is worth. -/
noncomputable def Tryz.pinned : Pinned := { name := "ytohhfcfnclafdaagreatdoor", sum := "aa9e06f36a9c3a571fbb747932060b442d0e7db4839158e2876b635d3a144d4d", checked := Tryz.checked }
namespace Rows
def none {H : Type} : Left H := { results := [], args := [] }

/- WHAT THE LISTED PACKAGE-LEVEL VARIABLES READ AS WHEN THE CALL BEGINS. Each datum BY PROGRAM (the guide's laid-datum.mjs) off the statement by which the dump's own 'gosem.cut.vars' lays the variable. In a bare row this is a premise. The card (YtohhfcfnclafdaaGreatDoorCards.lean) ties it to the program's text. -/
def laid_math_bits_deBruijn32tab {H : Type} : DataW H := .agg [.lit (.int .u8 0), .lit (.int .u8 1), .lit (.int .u8 28), .lit (.int .u8 2), .lit (.int .u8 29), .lit (.int .u8 14), .lit (.int .u8 24), .lit (.int .u8 3), .lit (.int .u8 30), .lit (.int .u8 22), .lit (.int .u8 20), .lit (.int .u8 15), .lit (.int .u8 25), .lit (.int .u8 17), .lit (.int .u8 4), .lit (.int .u8 8), .lit (.int .u8 31), .lit (.int .u8 27), .lit (.int .u8 13), .lit (.int .u8 23), .lit (.int .u8 21), .lit (.int .u8 19), .lit (.int .u8 16), .lit (.int .u8 7), .lit (.int .u8 26), .lit (.int .u8 12), .lit (.int .u8 18), .lit (.int .u8 6), .lit (.int .u8 11), .lit (.int .u8 5), .lit (.int .u8 10), .lit (.int .u8 9)]
def laid_math_bits_deBruijn64tab {H : Type} : DataW H := .agg [.lit (.int .u8 0), .lit (.int .u8 1), .lit (.int .u8 56), .lit (.int .u8 2), .lit (.int .u8 57), .lit (.int .u8 49), .lit (.int .u8 28), .lit (.int .u8 3), .lit (.int .u8 61), .lit (.int .u8 58), .lit (.int .u8 42), .lit (.int .u8 50), .lit (.int .u8 38), .lit (.int .u8 29), .lit (.int .u8 17), .lit (.int .u8 4), .lit (.int .u8 62), .lit (.int .u8 47), .lit (.int .u8 59), .lit (.int .u8 36), .lit (.int .u8 45), .lit (.int .u8 43), .lit (.int .u8 51), .lit (.int .u8 22), .lit (.int .u8 53), .lit (.int .u8 39), .lit (.int .u8 33), .lit (.int .u8 30), .lit (.int .u8 24), .lit (.int .u8 18), .lit (.int .u8 12), .lit (.int .u8 5), .lit (.int .u8 63), .lit (.int .u8 55), .lit (.int .u8 48), .lit (.int .u8 27), .lit (.int .u8 60), .lit (.int .u8 41), .lit (.int .u8 37), .lit (.int .u8 16), .lit (.int .u8 46), .lit (.int .u8 35), .lit (.int .u8 44), .lit (.int .u8 21), .lit (.int .u8 52), .lit (.int .u8 32), .lit (.int .u8 23), .lit (.int .u8 11), .lit (.int .u8 54), .lit (.int .u8 26), .lit (.int .u8 40), .lit (.int .u8 15), .lit (.int .u8 34), .lit (.int .u8 20), .lit (.int .u8 31), .lit (.int .u8 10), .lit (.int .u8 25), .lit (.int .u8 14), .lit (.int .u8 19), .lit (.int .u8 9), .lit (.int .u8 13), .lit (.int .u8 8), .lit (.int .u8 7), .lit (.int .u8 6)]
def laid_internal_strconv_uint64pow10 {H : Type} : DataW H := .agg [.lit (.int .u64 1), .lit (.int .u64 10), .lit (.int .u64 100), .lit (.int .u64 1000), .lit (.int .u64 10000), .lit (.int .u64 100000), .lit (.int .u64 1000000), .lit (.int .u64 10000000), .lit (.int .u64 100000000), .lit (.int .u64 1000000000), .lit (.int .u64 10000000000), .lit (.int .u64 100000000000), .lit (.int .u64 1000000000000), .lit (.int .u64 10000000000000), .lit (.int .u64 100000000000000), .lit (.int .u64 1000000000000000), .lit (.int .u64 10000000000000000), .lit (.int .u64 100000000000000000), .lit (.int .u64 1000000000000000000), .lit (.int .u64 10000000000000000000)]
def laid_unicode_utf8_acceptRanges {H : Type} : DataW H := .agg [.agg [.lit (.int .u8 128), .lit (.int .u8 191)], .agg [.lit (.int .u8 160), .lit (.int .u8 191)], .agg [.lit (.int .u8 128), .lit (.int .u8 159)], .agg [.lit (.int .u8 144), .lit (.int .u8 191)], .agg [.lit (.int .u8 128), .lit (.int .u8 143)], .agg [.lit (.int .u8 0), .lit (.int .u8 0)], .agg [.lit (.int .u8 0), .lit (.int .u8 0)], .agg [.lit (.int .u8 0), .lit (.int .u8 0)], .agg [.lit (.int .u8 0), .lit (.int .u8 0)], .agg [.lit (.int .u8 0), .lit (.int .u8 0)], .agg [.lit (.int .u8 0), .lit (.int .u8 0)], .agg [.lit (.int .u8 0), .lit (.int .u8 0)], .agg [.lit (.int .u8 0), .lit (.int .u8 0)], .agg [.lit (.int .u8 0), .lit (.int .u8 0)], .agg [.lit (.int .u8 0), .lit (.int .u8 0)], .agg [.lit (.int .u8 0), .lit (.int .u8 0)]]
def laid_vulgate_plural_words {H : Type} : DataW H := .agg [.lit (.string [122, 101, 114, 111]), .lit (.string [111, 110, 101]), .lit (.string [116, 119, 111]), .lit (.string [102, 101, 119]), .lit (.string [109, 97, 110, 121]), .lit (.string [111, 116, 104, 101, 114])]
def laid_vulgate_skeleton_kinds {H : Type} : DataW H := .agg [.lit (.string []), .lit (.string []), .lit (.string [110, 117, 109, 98, 101, 114]), .lit (.string [112, 108, 117, 114, 97, 108]), .lit (.string [115, 101, 108, 101, 99, 116])]
/-- One of Go's own tables, pinned by name: the form's constant. -/
def laid_unicode_CaseRanges : DataW Unit := Go.Pinned.caseRanges
/-- One of Go's own tables, pinned by name: the form's constant. -/
def laid_unicode_utf8_first : DataW Unit := Go.Pinned.utf8First

/-- 'vulgatelaw08.SkeletonCanon': WHATEVER THE INPUT: true; the input reads as it did. -/
def skeletonCanonSpec : ChangeSpec := { name := "skeletonCanon", fn := fun _ => fun
  | [d] => { results := [.lit (.bool true)], args := [d] }
  | _ => none }
def skeletonCanonRow : OpenClaim := { program := "ytohhfcfnclafdaagreatdoor", sum := "aa9e06f36a9c3a571fbb747932060b442d0e7db4839158e2876b635d3a144d4d", func := "vulgate/vulgatelaw08.SkeletonCanon", spec := "skeletonCanon", inPlace := ["internal/bytealg.IndexByte", "internal/bytealg.Index", "internal/abi.NoEscape", "internal/bytealg.MakeNoZero", "internal/bytealg.CountString", "internal/bytealg.IndexByteString", "internal/bytealg.IndexString"], unfollowed := true, recurses := true, named := ["vulgate/skeleton.kinds", "vulgate/plural.words", "internal/bytealg.MaxLen", "internal/strconv.uint64pow10", "math/bits.deBruijn32tab", "math/bits.deBruijn64tab", "unicode/utf8.first", "unicode/utf8.acceptRanges", "unicode.CaseRanges"], plainKeys := false, apart := false, laid := [("math/bits.deBruijn32tab", laid_math_bits_deBruijn32tab), ("math/bits.deBruijn64tab", laid_math_bits_deBruijn64tab), ("internal/strconv.uint64pow10", laid_internal_strconv_uint64pow10), ("unicode/utf8.acceptRanges", laid_unicode_utf8_acceptRanges), ("vulgate/plural.words", laid_vulgate_plural_words), ("vulgate/skeleton.kinds", laid_vulgate_skeleton_kinds), ("unicode.CaseRanges", laid_unicode_CaseRanges), ("unicode/utf8.first", laid_unicode_utf8_first)] }
def SkeletonCanonSaid : Prop := skeletonCanonRow.holds Tryz.pinned (OpenSpec.ofChange skeletonCanonSpec)

/-- ITS FALSE NEIGHBOUR: 'it returns false'. Refute it at one input. -/
def skeletonCanonWrong : ChangeSpec := { name := "skeletonCanon", fn := fun _ => fun
  | [d] => { results := [.lit (.bool false)], args := [d] }
  | _ => none }
def SkeletonCanonWrongFalsely : Prop := skeletonCanonRow.holds Tryz.pinned (OpenSpec.ofChange skeletonCanonWrong)

/-- 'vulgatelaw08.SkeletonUses': WHATEVER THE INPUT: true; the input reads as it did. -/
def skeletonUsesSpec : ChangeSpec := { name := "skeletonUses", fn := fun _ => fun
  | [d] => { results := [.lit (.bool true)], args := [d] }
  | _ => none }
def skeletonUsesRow : OpenClaim := { program := "ytohhfcfnclafdaagreatdoor", sum := "aa9e06f36a9c3a571fbb747932060b442d0e7db4839158e2876b635d3a144d4d", func := "vulgate/vulgatelaw08.SkeletonUses", spec := "skeletonUses", inPlace := ["internal/bytealg.IndexByte", "internal/bytealg.Index", "internal/abi.NoEscape", "internal/bytealg.MakeNoZero", "internal/bytealg.CountString", "internal/bytealg.IndexByteString", "internal/bytealg.IndexString", "internal/bytealg.Compare", "internal/bytealg.abigen_runtime_cmpstring"], unfollowed := true, recurses := true, named := ["vulgate/skeleton.kinds", "vulgate/plural.words", "internal/bytealg.MaxLen", "internal/strconv.uint64pow10", "math/bits.deBruijn32tab", "math/bits.deBruijn64tab", "unicode/utf8.first", "unicode/utf8.acceptRanges", "unicode.CaseRanges"], plainKeys := false, apart := false, laid := [("math/bits.deBruijn32tab", laid_math_bits_deBruijn32tab), ("math/bits.deBruijn64tab", laid_math_bits_deBruijn64tab), ("internal/strconv.uint64pow10", laid_internal_strconv_uint64pow10), ("unicode/utf8.acceptRanges", laid_unicode_utf8_acceptRanges), ("vulgate/plural.words", laid_vulgate_plural_words), ("vulgate/skeleton.kinds", laid_vulgate_skeleton_kinds), ("unicode.CaseRanges", laid_unicode_CaseRanges), ("unicode/utf8.first", laid_unicode_utf8_first)] }
def SkeletonUsesSaid : Prop := skeletonUsesRow.holds Tryz.pinned (OpenSpec.ofChange skeletonUsesSpec)

/-- ITS FALSE NEIGHBOUR: 'it returns false'. Refute it at one input. -/
def skeletonUsesWrong : ChangeSpec := { name := "skeletonUses", fn := fun _ => fun
  | [d] => { results := [.lit (.bool false)], args := [d] }
  | _ => none }
def SkeletonUsesWrongFalsely : Prop := skeletonUsesRow.holds Tryz.pinned (OpenSpec.ofChange skeletonUsesWrong)

/-- 'vulgatelaw08.SkeletonRenders': WHATEVER THE INPUT: true; the input reads as it did. -/
def skeletonRendersSpec : ChangeSpec := { name := "skeletonRenders", fn := fun _ => fun
  | [d1, d2, d3] => { results := [.lit (.bool true)], args := [d1, d2, d3] }
  | _ => none }
def skeletonRendersRow : OpenClaim := { program := "ytohhfcfnclafdaagreatdoor", sum := "aa9e06f36a9c3a571fbb747932060b442d0e7db4839158e2876b635d3a144d4d", func := "vulgate/vulgatelaw08.SkeletonRenders", spec := "skeletonRenders", inPlace := ["internal/bytealg.IndexByte", "internal/bytealg.Index", "internal/abi.NoEscape", "internal/bytealg.MakeNoZero", "internal/bytealg.CountString", "internal/bytealg.IndexByteString", "internal/bytealg.IndexString"], unfollowed := true, recurses := true, named := ["vulgate/skeleton.kinds", "vulgate/plural.words", "internal/bytealg.MaxLen", "internal/strconv.uint64pow10", "math/bits.deBruijn32tab", "math/bits.deBruijn64tab", "unicode/utf8.first", "unicode/utf8.acceptRanges", "unicode.CaseRanges"], plainKeys := false, apart := false, laid := [("math/bits.deBruijn32tab", laid_math_bits_deBruijn32tab), ("math/bits.deBruijn64tab", laid_math_bits_deBruijn64tab), ("internal/strconv.uint64pow10", laid_internal_strconv_uint64pow10), ("unicode/utf8.acceptRanges", laid_unicode_utf8_acceptRanges), ("vulgate/plural.words", laid_vulgate_plural_words), ("vulgate/skeleton.kinds", laid_vulgate_skeleton_kinds), ("unicode.CaseRanges", laid_unicode_CaseRanges), ("unicode/utf8.first", laid_unicode_utf8_first)] }
def SkeletonRendersSaid : Prop := skeletonRendersRow.holds Tryz.pinned (OpenSpec.ofChange skeletonRendersSpec)

/-- ITS FALSE NEIGHBOUR: 'it returns false'. Refute it at one input. -/
def skeletonRendersWrong : ChangeSpec := { name := "skeletonRenders", fn := fun _ => fun
  | [d1, d2, d3] => { results := [.lit (.bool false)], args := [d1, d2, d3] }
  | _ => none }
def SkeletonRendersWrongFalsely : Prop := skeletonRendersRow.holds Tryz.pinned (OpenSpec.ofChange skeletonRendersWrong)

/-- 'vulgatelaw08.SkeletonSame': WHATEVER THE INPUT: true; the input reads as it did. -/
def skeletonSameSpec : ChangeSpec := { name := "skeletonSame", fn := fun _ => fun
  | [d1, d2] => { results := [.lit (.bool true)], args := [d1, d2] }
  | _ => none }
def skeletonSameRow : OpenClaim := { program := "ytohhfcfnclafdaagreatdoor", sum := "aa9e06f36a9c3a571fbb747932060b442d0e7db4839158e2876b635d3a144d4d", func := "vulgate/vulgatelaw08.SkeletonSame", spec := "skeletonSame", inPlace := ["internal/bytealg.IndexByte", "internal/bytealg.Index", "internal/abi.NoEscape", "internal/bytealg.MakeNoZero", "internal/bytealg.CountString", "internal/bytealg.IndexByteString", "internal/bytealg.IndexString"], unfollowed := true, recurses := true, named := ["vulgate/skeleton.kinds", "vulgate/plural.words", "internal/bytealg.MaxLen", "internal/strconv.uint64pow10", "math/bits.deBruijn32tab", "math/bits.deBruijn64tab", "unicode/utf8.first", "unicode/utf8.acceptRanges", "unicode.CaseRanges"], plainKeys := false, apart := false, laid := [("math/bits.deBruijn32tab", laid_math_bits_deBruijn32tab), ("math/bits.deBruijn64tab", laid_math_bits_deBruijn64tab), ("internal/strconv.uint64pow10", laid_internal_strconv_uint64pow10), ("unicode/utf8.acceptRanges", laid_unicode_utf8_acceptRanges), ("vulgate/plural.words", laid_vulgate_plural_words), ("vulgate/skeleton.kinds", laid_vulgate_skeleton_kinds), ("unicode.CaseRanges", laid_unicode_CaseRanges), ("unicode/utf8.first", laid_unicode_utf8_first)] }
def SkeletonSameSaid : Prop := skeletonSameRow.holds Tryz.pinned (OpenSpec.ofChange skeletonSameSpec)

/-- ITS FALSE NEIGHBOUR: 'it returns false'. Refute it at one input. -/
def skeletonSameWrong : ChangeSpec := { name := "skeletonSame", fn := fun _ => fun
  | [d1, d2] => { results := [.lit (.bool false)], args := [d1, d2] }
  | _ => none }
def SkeletonSameWrongFalsely : Prop := skeletonSameRow.holds Tryz.pinned (OpenSpec.ofChange skeletonSameWrong)

/-- 'vulgatelaw09.FitFlaws': WHATEVER THE INPUT: true; the input reads as it did. -/
def fitFlawsSpec : ChangeSpec := { name := "fitFlaws", fn := fun _ => fun
  | [d1, d2, d3] => { results := [.lit (.bool true)], args := [d1, d2, d3] }
  | _ => none }
def fitFlawsRow : OpenClaim := { program := "ytohhfcfnclafdaagreatdoor", sum := "aa9e06f36a9c3a571fbb747932060b442d0e7db4839158e2876b635d3a144d4d", func := "vulgate/vulgatelaw09.FitFlaws", spec := "fitFlaws", inPlace := ["internal/bytealg.CountString", "internal/bytealg.IndexByteString", "internal/bytealg.IndexString", "internal/abi.NoEscape", "internal/bytealg.MakeNoZero", "internal/bytealg.IndexByte", "internal/bytealg.Index", "internal/bytealg.Compare", "internal/bytealg.abigen_runtime_cmpstring"], unfollowed := true, recurses := true, named := ["unicode/utf8.first", "unicode/utf8.acceptRanges", "internal/bytealg.MaxLen", "unicode.CaseRanges", "vulgate/skeleton.kinds", "vulgate/plural.words"], plainKeys := false, apart := false, laid := [("unicode/utf8.acceptRanges", laid_unicode_utf8_acceptRanges), ("vulgate/plural.words", laid_vulgate_plural_words), ("vulgate/skeleton.kinds", laid_vulgate_skeleton_kinds), ("unicode.CaseRanges", laid_unicode_CaseRanges), ("unicode/utf8.first", laid_unicode_utf8_first)] }
def FitFlawsSaid : Prop := fitFlawsRow.holds Tryz.pinned (OpenSpec.ofChange fitFlawsSpec)

/-- ITS FALSE NEIGHBOUR: 'it returns false'. Refute it at one input. -/
def fitFlawsWrong : ChangeSpec := { name := "fitFlaws", fn := fun _ => fun
  | [d1, d2, d3] => { results := [.lit (.bool false)], args := [d1, d2, d3] }
  | _ => none }
def FitFlawsWrongFalsely : Prop := fitFlawsRow.holds Tryz.pinned (OpenSpec.ofChange fitFlawsWrong)

/-- 'vulgatelaw09.FitSources': WHATEVER THE INPUT: true; the input reads as it did. -/
def fitSourcesSpec : ChangeSpec := { name := "fitSources", fn := fun _ => fun
  | [d] => { results := [.lit (.bool true)], args := [d] }
  | _ => none }
def fitSourcesRow : OpenClaim := { program := "ytohhfcfnclafdaagreatdoor", sum := "aa9e06f36a9c3a571fbb747932060b442d0e7db4839158e2876b635d3a144d4d", func := "vulgate/vulgatelaw09.FitSources", spec := "fitSources", inPlace := ["internal/bytealg.CountString", "internal/bytealg.IndexByteString", "internal/bytealg.IndexString", "internal/abi.NoEscape", "internal/bytealg.MakeNoZero", "internal/bytealg.IndexByte", "internal/bytealg.Index", "internal/bytealg.Compare", "internal/bytealg.abigen_runtime_cmpstring"], unfollowed := true, recurses := true, named := ["unicode/utf8.first", "unicode/utf8.acceptRanges", "internal/bytealg.MaxLen", "unicode.CaseRanges", "vulgate/skeleton.kinds", "vulgate/plural.words"], plainKeys := false, apart := false, laid := [("unicode/utf8.acceptRanges", laid_unicode_utf8_acceptRanges), ("vulgate/plural.words", laid_vulgate_plural_words), ("vulgate/skeleton.kinds", laid_vulgate_skeleton_kinds), ("unicode.CaseRanges", laid_unicode_CaseRanges), ("unicode/utf8.first", laid_unicode_utf8_first)] }
def FitSourcesSaid : Prop := fitSourcesRow.holds Tryz.pinned (OpenSpec.ofChange fitSourcesSpec)

/-- ITS FALSE NEIGHBOUR: 'it returns false'. Refute it at one input. -/
def fitSourcesWrong : ChangeSpec := { name := "fitSources", fn := fun _ => fun
  | [d] => { results := [.lit (.bool false)], args := [d] }
  | _ => none }
def FitSourcesWrongFalsely : Prop := fitSourcesRow.holds Tryz.pinned (OpenSpec.ofChange fitSourcesWrong)

/-- 'vulgatelaw09.FitSelf': WHATEVER THE INPUT: true; the input reads as it did. -/
def fitSelfSpec : ChangeSpec := { name := "fitSelf", fn := fun _ => fun
  | [d1, d2] => { results := [.lit (.bool true)], args := [d1, d2] }
  | _ => none }
def fitSelfRow : OpenClaim := { program := "ytohhfcfnclafdaagreatdoor", sum := "aa9e06f36a9c3a571fbb747932060b442d0e7db4839158e2876b635d3a144d4d", func := "vulgate/vulgatelaw09.FitSelf", spec := "fitSelf", inPlace := ["internal/bytealg.IndexByte", "internal/bytealg.Index", "internal/abi.NoEscape", "internal/bytealg.MakeNoZero", "internal/bytealg.CountString", "internal/bytealg.IndexByteString", "internal/bytealg.IndexString", "internal/bytealg.Compare", "internal/bytealg.abigen_runtime_cmpstring"], unfollowed := true, recurses := true, named := ["vulgate/skeleton.kinds", "vulgate/plural.words", "internal/bytealg.MaxLen", "unicode/utf8.first", "unicode/utf8.acceptRanges", "unicode.CaseRanges"], plainKeys := false, apart := false, laid := [("unicode/utf8.acceptRanges", laid_unicode_utf8_acceptRanges), ("vulgate/plural.words", laid_vulgate_plural_words), ("vulgate/skeleton.kinds", laid_vulgate_skeleton_kinds), ("unicode.CaseRanges", laid_unicode_CaseRanges), ("unicode/utf8.first", laid_unicode_utf8_first)] }
def FitSelfSaid : Prop := fitSelfRow.holds Tryz.pinned (OpenSpec.ofChange fitSelfSpec)

/-- ITS FALSE NEIGHBOUR: 'it returns false'. Refute it at one input. -/
def fitSelfWrong : ChangeSpec := { name := "fitSelf", fn := fun _ => fun
  | [d1, d2] => { results := [.lit (.bool false)], args := [d1, d2] }
  | _ => none }
def FitSelfWrongFalsely : Prop := fitSelfRow.holds Tryz.pinned (OpenSpec.ofChange fitSelfWrong)

/-- 'vulgatelaw09.FitNames': WHATEVER THE INPUT: true; the input reads as it did. -/
def fitNamesSpec : ChangeSpec := { name := "fitNames", fn := fun _ => fun
  | [d1, d2, d3] => { results := [.lit (.bool true)], args := [d1, d2, d3] }
  | _ => none }
def fitNamesRow : OpenClaim := { program := "ytohhfcfnclafdaagreatdoor", sum := "aa9e06f36a9c3a571fbb747932060b442d0e7db4839158e2876b635d3a144d4d", func := "vulgate/vulgatelaw09.FitNames", spec := "fitNames", inPlace := ["internal/bytealg.IndexByte", "internal/bytealg.Index", "internal/abi.NoEscape", "internal/bytealg.Compare", "internal/bytealg.abigen_runtime_cmpstring", "internal/bytealg.MakeNoZero", "internal/bytealg.CountString", "internal/bytealg.IndexByteString", "internal/bytealg.IndexString"], unfollowed := true, recurses := true, named := ["vulgate/skeleton.kinds", "vulgate/plural.words", "internal/bytealg.MaxLen", "unicode/utf8.first", "unicode/utf8.acceptRanges", "unicode.CaseRanges"], plainKeys := false, apart := false, laid := [("unicode/utf8.acceptRanges", laid_unicode_utf8_acceptRanges), ("vulgate/plural.words", laid_vulgate_plural_words), ("vulgate/skeleton.kinds", laid_vulgate_skeleton_kinds), ("unicode.CaseRanges", laid_unicode_CaseRanges), ("unicode/utf8.first", laid_unicode_utf8_first)] }
def FitNamesSaid : Prop := fitNamesRow.holds Tryz.pinned (OpenSpec.ofChange fitNamesSpec)

/-- ITS FALSE NEIGHBOUR: 'it returns false'. Refute it at one input. -/
def fitNamesWrong : ChangeSpec := { name := "fitNames", fn := fun _ => fun
  | [d1, d2, d3] => { results := [.lit (.bool false)], args := [d1, d2, d3] }
  | _ => none }
def FitNamesWrongFalsely : Prop := fitNamesRow.holds Tryz.pinned (OpenSpec.ofChange fitNamesWrong)

/-- 'vulgatelaw09.FitMore': WHATEVER THE INPUT: true; the input reads as it did. -/
def fitMoreSpec : ChangeSpec := { name := "fitMore", fn := fun _ => fun
  | [d1, d2, d3] => { results := [.lit (.bool true)], args := [d1, d2, d3] }
  | _ => none }
def fitMoreRow : OpenClaim := { program := "ytohhfcfnclafdaagreatdoor", sum := "aa9e06f36a9c3a571fbb747932060b442d0e7db4839158e2876b635d3a144d4d", func := "vulgate/vulgatelaw09.FitMore", spec := "fitMore", inPlace := ["internal/bytealg.IndexByte", "internal/bytealg.Index", "internal/abi.NoEscape", "internal/bytealg.Compare", "internal/bytealg.abigen_runtime_cmpstring", "internal/bytealg.MakeNoZero", "internal/bytealg.CountString", "internal/bytealg.IndexByteString", "internal/bytealg.IndexString"], unfollowed := true, recurses := true, named := ["vulgate/skeleton.kinds", "vulgate/plural.words", "internal/bytealg.MaxLen", "unicode/utf8.first", "unicode/utf8.acceptRanges", "unicode.CaseRanges"], plainKeys := false, apart := false, laid := [("unicode/utf8.acceptRanges", laid_unicode_utf8_acceptRanges), ("vulgate/plural.words", laid_vulgate_plural_words), ("vulgate/skeleton.kinds", laid_vulgate_skeleton_kinds), ("unicode.CaseRanges", laid_unicode_CaseRanges), ("unicode/utf8.first", laid_unicode_utf8_first)] }
def FitMoreSaid : Prop := fitMoreRow.holds Tryz.pinned (OpenSpec.ofChange fitMoreSpec)

/-- ITS FALSE NEIGHBOUR: 'it returns false'. Refute it at one input. -/
def fitMoreWrong : ChangeSpec := { name := "fitMore", fn := fun _ => fun
  | [d1, d2, d3] => { results := [.lit (.bool false)], args := [d1, d2, d3] }
  | _ => none }
def FitMoreWrongFalsely : Prop := fitMoreRow.holds Tryz.pinned (OpenSpec.ofChange fitMoreWrong)

/-- 'vulgatelaw09.FitTables': WHATEVER THE INPUT: true; the input reads as it did. -/
def fitTablesSpec : ChangeSpec := { name := "fitTables", fn := fun _ => fun
  | [d1, d2] => { results := [.lit (.bool true)], args := [d1, d2] }
  | _ => none }
def fitTablesRow : OpenClaim := { program := "ytohhfcfnclafdaagreatdoor", sum := "aa9e06f36a9c3a571fbb747932060b442d0e7db4839158e2876b635d3a144d4d", func := "vulgate/vulgatelaw09.FitTables", spec := "fitTables", inPlace := ["internal/bytealg.IndexByte", "internal/bytealg.Index", "internal/abi.NoEscape", "internal/bytealg.Compare", "internal/bytealg.abigen_runtime_cmpstring", "internal/bytealg.MakeNoZero", "internal/bytealg.CountString", "internal/bytealg.IndexByteString", "internal/bytealg.IndexString"], unfollowed := true, recurses := true, named := ["vulgate/skeleton.kinds", "vulgate/plural.words", "internal/bytealg.MaxLen", "unicode/utf8.first", "unicode/utf8.acceptRanges", "unicode.CaseRanges"], plainKeys := false, apart := false, laid := [("unicode/utf8.acceptRanges", laid_unicode_utf8_acceptRanges), ("vulgate/plural.words", laid_vulgate_plural_words), ("vulgate/skeleton.kinds", laid_vulgate_skeleton_kinds), ("unicode.CaseRanges", laid_unicode_CaseRanges), ("unicode/utf8.first", laid_unicode_utf8_first)] }
def FitTablesSaid : Prop := fitTablesRow.holds Tryz.pinned (OpenSpec.ofChange fitTablesSpec)

/-- ITS FALSE NEIGHBOUR: 'it returns false'. Refute it at one input. -/
def fitTablesWrong : ChangeSpec := { name := "fitTables", fn := fun _ => fun
  | [d1, d2] => { results := [.lit (.bool false)], args := [d1, d2] }
  | _ => none }
def FitTablesWrongFalsely : Prop := fitTablesRow.holds Tryz.pinned (OpenSpec.ofChange fitTablesWrong)

/- THE SECOND FORM. 'bulk': how many values and letters a reading holds, each counted each time it is reached (what is shared counts as often as it is met; a slice's spare places count too). A statement '..UptoSaid' is the law's where the arguments, and the package variables that the reading takes, are together of bulk at most 1048576: NARROWER than '..Said'. Prove '..Said' where nothing that the law and all that it calls make is longer than what came in: it says more and counts as full. Else prove '..UptoSaid'. A law counts once. -/
mutual
def uptoBulk {H : Type} : DataW H → Nat
  | .lit (.string bytes) => bytes.length + 1
  | .lit _ => 1
  | .nil => 1
  | .ptr d => uptoBulk d + 1
  | .slice elems spare => uptoBulkAll elems + uptoBulkAll spare + 1
  | .agg parts => uptoBulkAll parts + 1
  | .iface _ d => uptoBulk d + 1
  | .map entries => uptoBulkEntries entries + 1
  | .held _ => 1
def uptoBulkAll {H : Type} : List (DataW H) → Nat
  | [] => 0
  | d :: r => uptoBulk d + uptoBulkAll r
def uptoBulkEntries {H : Type} : List (Lit × DataW H) → Nat
  | [] => 0
  | x :: r => uptoBulkEntry x + uptoBulkEntries r
def uptoBulkEntry {H : Type} : Lit × DataW H → Nat
  | (.string bytes, d) => bytes.length + uptoBulk d + 1
  | (_, d) => uptoBulk d + 1
 end
def uptoSmall : (H : Type) → List (DataW H) → Bool := fun _ ds => decide (uptoBulkAll ds ≤ 1048576)
def OpenSpec.upto (s : _root_.Go.ChangeSpec) : _root_.Go.OpenSpec := { _root_.Go.OpenSpec.ofChange s with cond := some uptoSmall }

/-- 'vulgatelaw08.SkeletonCanon', WHERE WHAT IT READS IS OF BULK AT MOST 1048576: true; the input reads as it did. -/
def skeletonCanonUptoRow : OpenClaim := { program := "ytohhfcfnclafdaagreatdoor", sum := "aa9e06f36a9c3a571fbb747932060b442d0e7db4839158e2876b635d3a144d4d", func := "vulgate/vulgatelaw08.SkeletonCanon", spec := "skeletonCanon", inPlace := ["internal/bytealg.IndexByte", "internal/bytealg.Index", "internal/abi.NoEscape", "internal/bytealg.MakeNoZero", "internal/bytealg.CountString", "internal/bytealg.IndexByteString", "internal/bytealg.IndexString"], unfollowed := true, recurses := true, named := ["vulgate/skeleton.kinds", "vulgate/plural.words", "internal/bytealg.MaxLen", "internal/strconv.uint64pow10", "math/bits.deBruijn32tab", "math/bits.deBruijn64tab", "unicode/utf8.first", "unicode/utf8.acceptRanges", "unicode.CaseRanges"], plainKeys := false, apart := false, laid := [("math/bits.deBruijn32tab", laid_math_bits_deBruijn32tab), ("math/bits.deBruijn64tab", laid_math_bits_deBruijn64tab), ("internal/strconv.uint64pow10", laid_internal_strconv_uint64pow10), ("unicode/utf8.acceptRanges", laid_unicode_utf8_acceptRanges), ("vulgate/plural.words", laid_vulgate_plural_words), ("vulgate/skeleton.kinds", laid_vulgate_skeleton_kinds), ("unicode.CaseRanges", laid_unicode_CaseRanges), ("unicode/utf8.first", laid_unicode_utf8_first)], narrowed := true }
def SkeletonCanonUptoSaid : Prop := skeletonCanonUptoRow.holds Tryz.pinned (OpenSpec.upto skeletonCanonSpec)

/-- 'vulgatelaw08.SkeletonUses', WHERE WHAT IT READS IS OF BULK AT MOST 1048576: true; the input reads as it did. -/
def skeletonUsesUptoRow : OpenClaim := { program := "ytohhfcfnclafdaagreatdoor", sum := "aa9e06f36a9c3a571fbb747932060b442d0e7db4839158e2876b635d3a144d4d", func := "vulgate/vulgatelaw08.SkeletonUses", spec := "skeletonUses", inPlace := ["internal/bytealg.IndexByte", "internal/bytealg.Index", "internal/abi.NoEscape", "internal/bytealg.MakeNoZero", "internal/bytealg.CountString", "internal/bytealg.IndexByteString", "internal/bytealg.IndexString", "internal/bytealg.Compare", "internal/bytealg.abigen_runtime_cmpstring"], unfollowed := true, recurses := true, named := ["vulgate/skeleton.kinds", "vulgate/plural.words", "internal/bytealg.MaxLen", "internal/strconv.uint64pow10", "math/bits.deBruijn32tab", "math/bits.deBruijn64tab", "unicode/utf8.first", "unicode/utf8.acceptRanges", "unicode.CaseRanges"], plainKeys := false, apart := false, laid := [("math/bits.deBruijn32tab", laid_math_bits_deBruijn32tab), ("math/bits.deBruijn64tab", laid_math_bits_deBruijn64tab), ("internal/strconv.uint64pow10", laid_internal_strconv_uint64pow10), ("unicode/utf8.acceptRanges", laid_unicode_utf8_acceptRanges), ("vulgate/plural.words", laid_vulgate_plural_words), ("vulgate/skeleton.kinds", laid_vulgate_skeleton_kinds), ("unicode.CaseRanges", laid_unicode_CaseRanges), ("unicode/utf8.first", laid_unicode_utf8_first)], narrowed := true }
def SkeletonUsesUptoSaid : Prop := skeletonUsesUptoRow.holds Tryz.pinned (OpenSpec.upto skeletonUsesSpec)

/-- 'vulgatelaw08.SkeletonRenders', WHERE WHAT IT READS IS OF BULK AT MOST 1048576: true; the input reads as it did. -/
def skeletonRendersUptoRow : OpenClaim := { program := "ytohhfcfnclafdaagreatdoor", sum := "aa9e06f36a9c3a571fbb747932060b442d0e7db4839158e2876b635d3a144d4d", func := "vulgate/vulgatelaw08.SkeletonRenders", spec := "skeletonRenders", inPlace := ["internal/bytealg.IndexByte", "internal/bytealg.Index", "internal/abi.NoEscape", "internal/bytealg.MakeNoZero", "internal/bytealg.CountString", "internal/bytealg.IndexByteString", "internal/bytealg.IndexString"], unfollowed := true, recurses := true, named := ["vulgate/skeleton.kinds", "vulgate/plural.words", "internal/bytealg.MaxLen", "internal/strconv.uint64pow10", "math/bits.deBruijn32tab", "math/bits.deBruijn64tab", "unicode/utf8.first", "unicode/utf8.acceptRanges", "unicode.CaseRanges"], plainKeys := false, apart := false, laid := [("math/bits.deBruijn32tab", laid_math_bits_deBruijn32tab), ("math/bits.deBruijn64tab", laid_math_bits_deBruijn64tab), ("internal/strconv.uint64pow10", laid_internal_strconv_uint64pow10), ("unicode/utf8.acceptRanges", laid_unicode_utf8_acceptRanges), ("vulgate/plural.words", laid_vulgate_plural_words), ("vulgate/skeleton.kinds", laid_vulgate_skeleton_kinds), ("unicode.CaseRanges", laid_unicode_CaseRanges), ("unicode/utf8.first", laid_unicode_utf8_first)], narrowed := true }
def SkeletonRendersUptoSaid : Prop := skeletonRendersUptoRow.holds Tryz.pinned (OpenSpec.upto skeletonRendersSpec)

/-- 'vulgatelaw08.SkeletonSame', WHERE WHAT IT READS IS OF BULK AT MOST 1048576: true; the input reads as it did. -/
def skeletonSameUptoRow : OpenClaim := { program := "ytohhfcfnclafdaagreatdoor", sum := "aa9e06f36a9c3a571fbb747932060b442d0e7db4839158e2876b635d3a144d4d", func := "vulgate/vulgatelaw08.SkeletonSame", spec := "skeletonSame", inPlace := ["internal/bytealg.IndexByte", "internal/bytealg.Index", "internal/abi.NoEscape", "internal/bytealg.MakeNoZero", "internal/bytealg.CountString", "internal/bytealg.IndexByteString", "internal/bytealg.IndexString"], unfollowed := true, recurses := true, named := ["vulgate/skeleton.kinds", "vulgate/plural.words", "internal/bytealg.MaxLen", "internal/strconv.uint64pow10", "math/bits.deBruijn32tab", "math/bits.deBruijn64tab", "unicode/utf8.first", "unicode/utf8.acceptRanges", "unicode.CaseRanges"], plainKeys := false, apart := false, laid := [("math/bits.deBruijn32tab", laid_math_bits_deBruijn32tab), ("math/bits.deBruijn64tab", laid_math_bits_deBruijn64tab), ("internal/strconv.uint64pow10", laid_internal_strconv_uint64pow10), ("unicode/utf8.acceptRanges", laid_unicode_utf8_acceptRanges), ("vulgate/plural.words", laid_vulgate_plural_words), ("vulgate/skeleton.kinds", laid_vulgate_skeleton_kinds), ("unicode.CaseRanges", laid_unicode_CaseRanges), ("unicode/utf8.first", laid_unicode_utf8_first)], narrowed := true }
def SkeletonSameUptoSaid : Prop := skeletonSameUptoRow.holds Tryz.pinned (OpenSpec.upto skeletonSameSpec)

/-- 'vulgatelaw09.FitFlaws', WHERE WHAT IT READS IS OF BULK AT MOST 1048576: true; the input reads as it did. -/
def fitFlawsUptoRow : OpenClaim := { program := "ytohhfcfnclafdaagreatdoor", sum := "aa9e06f36a9c3a571fbb747932060b442d0e7db4839158e2876b635d3a144d4d", func := "vulgate/vulgatelaw09.FitFlaws", spec := "fitFlaws", inPlace := ["internal/bytealg.CountString", "internal/bytealg.IndexByteString", "internal/bytealg.IndexString", "internal/abi.NoEscape", "internal/bytealg.MakeNoZero", "internal/bytealg.IndexByte", "internal/bytealg.Index", "internal/bytealg.Compare", "internal/bytealg.abigen_runtime_cmpstring"], unfollowed := true, recurses := true, named := ["unicode/utf8.first", "unicode/utf8.acceptRanges", "internal/bytealg.MaxLen", "unicode.CaseRanges", "vulgate/skeleton.kinds", "vulgate/plural.words"], plainKeys := false, apart := false, laid := [("unicode/utf8.acceptRanges", laid_unicode_utf8_acceptRanges), ("vulgate/plural.words", laid_vulgate_plural_words), ("vulgate/skeleton.kinds", laid_vulgate_skeleton_kinds), ("unicode.CaseRanges", laid_unicode_CaseRanges), ("unicode/utf8.first", laid_unicode_utf8_first)], narrowed := true }
def FitFlawsUptoSaid : Prop := fitFlawsUptoRow.holds Tryz.pinned (OpenSpec.upto fitFlawsSpec)

/-- 'vulgatelaw09.FitSources', WHERE WHAT IT READS IS OF BULK AT MOST 1048576: true; the input reads as it did. -/
def fitSourcesUptoRow : OpenClaim := { program := "ytohhfcfnclafdaagreatdoor", sum := "aa9e06f36a9c3a571fbb747932060b442d0e7db4839158e2876b635d3a144d4d", func := "vulgate/vulgatelaw09.FitSources", spec := "fitSources", inPlace := ["internal/bytealg.CountString", "internal/bytealg.IndexByteString", "internal/bytealg.IndexString", "internal/abi.NoEscape", "internal/bytealg.MakeNoZero", "internal/bytealg.IndexByte", "internal/bytealg.Index", "internal/bytealg.Compare", "internal/bytealg.abigen_runtime_cmpstring"], unfollowed := true, recurses := true, named := ["unicode/utf8.first", "unicode/utf8.acceptRanges", "internal/bytealg.MaxLen", "unicode.CaseRanges", "vulgate/skeleton.kinds", "vulgate/plural.words"], plainKeys := false, apart := false, laid := [("unicode/utf8.acceptRanges", laid_unicode_utf8_acceptRanges), ("vulgate/plural.words", laid_vulgate_plural_words), ("vulgate/skeleton.kinds", laid_vulgate_skeleton_kinds), ("unicode.CaseRanges", laid_unicode_CaseRanges), ("unicode/utf8.first", laid_unicode_utf8_first)], narrowed := true }
def FitSourcesUptoSaid : Prop := fitSourcesUptoRow.holds Tryz.pinned (OpenSpec.upto fitSourcesSpec)

/-- 'vulgatelaw09.FitSelf', WHERE WHAT IT READS IS OF BULK AT MOST 1048576: true; the input reads as it did. -/
def fitSelfUptoRow : OpenClaim := { program := "ytohhfcfnclafdaagreatdoor", sum := "aa9e06f36a9c3a571fbb747932060b442d0e7db4839158e2876b635d3a144d4d", func := "vulgate/vulgatelaw09.FitSelf", spec := "fitSelf", inPlace := ["internal/bytealg.IndexByte", "internal/bytealg.Index", "internal/abi.NoEscape", "internal/bytealg.MakeNoZero", "internal/bytealg.CountString", "internal/bytealg.IndexByteString", "internal/bytealg.IndexString", "internal/bytealg.Compare", "internal/bytealg.abigen_runtime_cmpstring"], unfollowed := true, recurses := true, named := ["vulgate/skeleton.kinds", "vulgate/plural.words", "internal/bytealg.MaxLen", "unicode/utf8.first", "unicode/utf8.acceptRanges", "unicode.CaseRanges"], plainKeys := false, apart := false, laid := [("unicode/utf8.acceptRanges", laid_unicode_utf8_acceptRanges), ("vulgate/plural.words", laid_vulgate_plural_words), ("vulgate/skeleton.kinds", laid_vulgate_skeleton_kinds), ("unicode.CaseRanges", laid_unicode_CaseRanges), ("unicode/utf8.first", laid_unicode_utf8_first)], narrowed := true }
def FitSelfUptoSaid : Prop := fitSelfUptoRow.holds Tryz.pinned (OpenSpec.upto fitSelfSpec)

/-- 'vulgatelaw09.FitNames', WHERE WHAT IT READS IS OF BULK AT MOST 1048576: true; the input reads as it did. -/
def fitNamesUptoRow : OpenClaim := { program := "ytohhfcfnclafdaagreatdoor", sum := "aa9e06f36a9c3a571fbb747932060b442d0e7db4839158e2876b635d3a144d4d", func := "vulgate/vulgatelaw09.FitNames", spec := "fitNames", inPlace := ["internal/bytealg.IndexByte", "internal/bytealg.Index", "internal/abi.NoEscape", "internal/bytealg.Compare", "internal/bytealg.abigen_runtime_cmpstring", "internal/bytealg.MakeNoZero", "internal/bytealg.CountString", "internal/bytealg.IndexByteString", "internal/bytealg.IndexString"], unfollowed := true, recurses := true, named := ["vulgate/skeleton.kinds", "vulgate/plural.words", "internal/bytealg.MaxLen", "unicode/utf8.first", "unicode/utf8.acceptRanges", "unicode.CaseRanges"], plainKeys := false, apart := false, laid := [("unicode/utf8.acceptRanges", laid_unicode_utf8_acceptRanges), ("vulgate/plural.words", laid_vulgate_plural_words), ("vulgate/skeleton.kinds", laid_vulgate_skeleton_kinds), ("unicode.CaseRanges", laid_unicode_CaseRanges), ("unicode/utf8.first", laid_unicode_utf8_first)], narrowed := true }
def FitNamesUptoSaid : Prop := fitNamesUptoRow.holds Tryz.pinned (OpenSpec.upto fitNamesSpec)

/-- 'vulgatelaw09.FitMore', WHERE WHAT IT READS IS OF BULK AT MOST 1048576: true; the input reads as it did. -/
def fitMoreUptoRow : OpenClaim := { program := "ytohhfcfnclafdaagreatdoor", sum := "aa9e06f36a9c3a571fbb747932060b442d0e7db4839158e2876b635d3a144d4d", func := "vulgate/vulgatelaw09.FitMore", spec := "fitMore", inPlace := ["internal/bytealg.IndexByte", "internal/bytealg.Index", "internal/abi.NoEscape", "internal/bytealg.Compare", "internal/bytealg.abigen_runtime_cmpstring", "internal/bytealg.MakeNoZero", "internal/bytealg.CountString", "internal/bytealg.IndexByteString", "internal/bytealg.IndexString"], unfollowed := true, recurses := true, named := ["vulgate/skeleton.kinds", "vulgate/plural.words", "internal/bytealg.MaxLen", "unicode/utf8.first", "unicode/utf8.acceptRanges", "unicode.CaseRanges"], plainKeys := false, apart := false, laid := [("unicode/utf8.acceptRanges", laid_unicode_utf8_acceptRanges), ("vulgate/plural.words", laid_vulgate_plural_words), ("vulgate/skeleton.kinds", laid_vulgate_skeleton_kinds), ("unicode.CaseRanges", laid_unicode_CaseRanges), ("unicode/utf8.first", laid_unicode_utf8_first)], narrowed := true }
def FitMoreUptoSaid : Prop := fitMoreUptoRow.holds Tryz.pinned (OpenSpec.upto fitMoreSpec)

/-- 'vulgatelaw09.FitTables', WHERE WHAT IT READS IS OF BULK AT MOST 1048576: true; the input reads as it did. -/
def fitTablesUptoRow : OpenClaim := { program := "ytohhfcfnclafdaagreatdoor", sum := "aa9e06f36a9c3a571fbb747932060b442d0e7db4839158e2876b635d3a144d4d", func := "vulgate/vulgatelaw09.FitTables", spec := "fitTables", inPlace := ["internal/bytealg.IndexByte", "internal/bytealg.Index", "internal/abi.NoEscape", "internal/bytealg.Compare", "internal/bytealg.abigen_runtime_cmpstring", "internal/bytealg.MakeNoZero", "internal/bytealg.CountString", "internal/bytealg.IndexByteString", "internal/bytealg.IndexString"], unfollowed := true, recurses := true, named := ["vulgate/skeleton.kinds", "vulgate/plural.words", "internal/bytealg.MaxLen", "unicode/utf8.first", "unicode/utf8.acceptRanges", "unicode.CaseRanges"], plainKeys := false, apart := false, laid := [("unicode/utf8.acceptRanges", laid_unicode_utf8_acceptRanges), ("vulgate/plural.words", laid_vulgate_plural_words), ("vulgate/skeleton.kinds", laid_vulgate_skeleton_kinds), ("unicode.CaseRanges", laid_unicode_CaseRanges), ("unicode/utf8.first", laid_unicode_utf8_first)], narrowed := true }
def FitTablesUptoSaid : Prop := fitTablesUptoRow.holds Tryz.pinned (OpenSpec.upto fitTablesSpec)

end Rows
end Go.Proofs.YtohhfcfnclafdaaGreatDoor
