/-
  NARROWER THAN 'FOR EVERY INPUT', by the rows' own cells (each row's printed sentence says how): RenderAll: laid · RenderKnown: laid · RenderDigits: laid · RenderLong: laid · RenderRange: laid · RenderParts: laid · RenderWidths: laid · RenderDurs: laid · RenderWords: laid · RenderOwn: laid.
  DERIVED. THE GIVEN ROWS OF THIS SEAT. 10 by the template 'for every input the law returns true; each argument reads behind the call as it read before'; 0 by the template 'total and deterministic' (their statements: YtannndpamhgknaaGreatDoorTotals.lean).
  GIVEN WITH THE SEED: the statements are not yours to turn. If you find one false, say at which input.
  Laid BY PROGRAM, IN A SANDBOX (cutbox-rows.mjs): the forced cells as the released guide's own fill.sh prints them over the translation b2eb22f931efb9e4… (all of the seat's roots in one cut). By AI agents, Wed Nov 11 2026. No macro, syntax, notation, axiom, sorry.
-/
import Derived.Test.YtannndpamhgknaaGreatDoorChecked
import GoSem.Claim
import GoSem.ClaimJoined
import GoSem.ClaimMapViews
import Derived.JoinedTies
import Derived.KernelRfl
namespace Go.Proofs.YtannndpamhgknaaGreatDoor
/- THE CELL 'sum', in the pinned program and in every row, IS THE sha256 OF THE DUMP (.gsa) THAT YtannndpamhgknaaGreatDoorProg.lean LOADS. Nothing in Lean hashes anything: it is a label: what it is worth is what the hold of that sum in a sandbox is worth. -/
noncomputable def Tryz.pinned : Pinned := { name := "ytannndpamhgknaagreatdoor", sum := "b2eb22f931efb9e437cc655853fd417c99322c8df3ec0227615c8da8f9cfe7ca", checked := Tryz.checked }
namespace Rows
def none {H : Type} : Left H := { results := [], args := [] }

/- WHAT THE LISTED PACKAGE-LEVEL VARIABLES READ AS WHEN THE CALL BEGINS. Each datum BY PROGRAM (the guide's laid-datum.mjs) off the statement by which the dump's own 'gosem.cut.vars' lays the variable. In a bare row this is a premise. The card (YtannndpamhgknaaGreatDoorCards.lean) ties it to the program's text. -/
def laid_math_bits_deBruijn32tab {H : Type} : DataW H := .agg [.lit (.int .u8 0), .lit (.int .u8 1), .lit (.int .u8 28), .lit (.int .u8 2), .lit (.int .u8 29), .lit (.int .u8 14), .lit (.int .u8 24), .lit (.int .u8 3), .lit (.int .u8 30), .lit (.int .u8 22), .lit (.int .u8 20), .lit (.int .u8 15), .lit (.int .u8 25), .lit (.int .u8 17), .lit (.int .u8 4), .lit (.int .u8 8), .lit (.int .u8 31), .lit (.int .u8 27), .lit (.int .u8 13), .lit (.int .u8 23), .lit (.int .u8 21), .lit (.int .u8 19), .lit (.int .u8 16), .lit (.int .u8 7), .lit (.int .u8 26), .lit (.int .u8 12), .lit (.int .u8 18), .lit (.int .u8 6), .lit (.int .u8 11), .lit (.int .u8 5), .lit (.int .u8 10), .lit (.int .u8 9)]
def laid_math_bits_deBruijn64tab {H : Type} : DataW H := .agg [.lit (.int .u8 0), .lit (.int .u8 1), .lit (.int .u8 56), .lit (.int .u8 2), .lit (.int .u8 57), .lit (.int .u8 49), .lit (.int .u8 28), .lit (.int .u8 3), .lit (.int .u8 61), .lit (.int .u8 58), .lit (.int .u8 42), .lit (.int .u8 50), .lit (.int .u8 38), .lit (.int .u8 29), .lit (.int .u8 17), .lit (.int .u8 4), .lit (.int .u8 62), .lit (.int .u8 47), .lit (.int .u8 59), .lit (.int .u8 36), .lit (.int .u8 45), .lit (.int .u8 43), .lit (.int .u8 51), .lit (.int .u8 22), .lit (.int .u8 53), .lit (.int .u8 39), .lit (.int .u8 33), .lit (.int .u8 30), .lit (.int .u8 24), .lit (.int .u8 18), .lit (.int .u8 12), .lit (.int .u8 5), .lit (.int .u8 63), .lit (.int .u8 55), .lit (.int .u8 48), .lit (.int .u8 27), .lit (.int .u8 60), .lit (.int .u8 41), .lit (.int .u8 37), .lit (.int .u8 16), .lit (.int .u8 46), .lit (.int .u8 35), .lit (.int .u8 44), .lit (.int .u8 21), .lit (.int .u8 52), .lit (.int .u8 32), .lit (.int .u8 23), .lit (.int .u8 11), .lit (.int .u8 54), .lit (.int .u8 26), .lit (.int .u8 40), .lit (.int .u8 15), .lit (.int .u8 34), .lit (.int .u8 20), .lit (.int .u8 31), .lit (.int .u8 10), .lit (.int .u8 25), .lit (.int .u8 14), .lit (.int .u8 19), .lit (.int .u8 9), .lit (.int .u8 13), .lit (.int .u8 8), .lit (.int .u8 7), .lit (.int .u8 6)]
def laid_internal_strconv_uint64pow10 {H : Type} : DataW H := .agg [.lit (.int .u64 1), .lit (.int .u64 10), .lit (.int .u64 100), .lit (.int .u64 1000), .lit (.int .u64 10000), .lit (.int .u64 100000), .lit (.int .u64 1000000), .lit (.int .u64 10000000), .lit (.int .u64 100000000), .lit (.int .u64 1000000000), .lit (.int .u64 10000000000), .lit (.int .u64 100000000000), .lit (.int .u64 1000000000000), .lit (.int .u64 10000000000000), .lit (.int .u64 100000000000000), .lit (.int .u64 1000000000000000), .lit (.int .u64 10000000000000000), .lit (.int .u64 100000000000000000), .lit (.int .u64 1000000000000000000), .lit (.int .u64 10000000000000000000)]
def laid_strconv_ErrRange {H : Type} : DataW H := .iface "*errors.errorString" (.ptr (.agg [.lit (.string [118, 97, 108, 117, 101, 32, 111, 117, 116, 32, 111, 102, 32, 114, 97, 110, 103, 101])]))
def laid_strconv_ErrSyntax {H : Type} : DataW H := .iface "*errors.errorString" (.ptr (.agg [.lit (.string [105, 110, 118, 97, 108, 105, 100, 32, 115, 121, 110, 116, 97, 120])]))
def laid_interlocutor_act_fields {H : Type} : DataW H := .agg [.lit (.int .i64 0), .lit (.int .i64 2), .lit (.int .i64 1), .lit (.int .i64 0), .lit (.int .i64 3), .lit (.int .i64 3), .lit (.int .i64 6), .lit (.int .i64 2), .lit (.int .i64 2), .lit (.int .i64 1), .lit (.int .i64 6)]
def laid_interlocutor_fold_noughts {H : Type} : DataW H := .agg [.lit (.int .i64 48), .lit (.int .i64 1632), .lit (.int .i64 1776), .lit (.int .i64 2406)]

/-- 'interlocutorlaw11.RenderAll': WHATEVER THE INPUT: true; the input reads as it did. -/
def renderAllSpec : ChangeSpec := { name := "renderAll", fn := fun _ => fun
  | [d1, d2, d3, d4, d5, d6, d7, d8] => { results := [.lit (.bool true)], args := [d1, d2, d3, d4, d5, d6, d7, d8] }
  | _ => none }
def renderAllRow : OpenClaim := { program := "ytannndpamhgknaagreatdoor", sum := "b2eb22f931efb9e437cc655853fd417c99322c8df3ec0227615c8da8f9cfe7ca", func := "interlocutor/interlocutorlaw11.RenderAll", spec := "renderAll", inPlace := ["internal/abi.NoEscape", "internal/bytealg.MakeNoZero", "internal/bytealg.IndexByteString", "internal/bytealg.IndexString"], unfollowed := true, recurses := true, named := ["interlocutor/act.fields", "internal/strconv.uint64pow10", "math/bits.deBruijn32tab", "math/bits.deBruijn64tab", "internal/bytealg.MaxLen", "interlocutor/fold.noughts", "strconv.ErrSyntax", "strconv.ErrRange"], apart := false, laid := [("math/bits.deBruijn32tab", laid_math_bits_deBruijn32tab), ("math/bits.deBruijn64tab", laid_math_bits_deBruijn64tab), ("internal/strconv.uint64pow10", laid_internal_strconv_uint64pow10), ("strconv.ErrRange", laid_strconv_ErrRange), ("strconv.ErrSyntax", laid_strconv_ErrSyntax), ("interlocutor/act.fields", laid_interlocutor_act_fields), ("interlocutor/fold.noughts", laid_interlocutor_fold_noughts)] }
def RenderAllSaid : Prop := renderAllRow.holds Tryz.pinned (OpenSpec.ofChange renderAllSpec)

/-- ITS FALSE NEIGHBOUR: 'it returns false'. Refute it at one input. -/
def renderAllWrong : ChangeSpec := { name := "renderAll", fn := fun _ => fun
  | [d1, d2, d3, d4, d5, d6, d7, d8] => { results := [.lit (.bool false)], args := [d1, d2, d3, d4, d5, d6, d7, d8] }
  | _ => none }
def RenderAllWrongFalsely : Prop := renderAllRow.holds Tryz.pinned (OpenSpec.ofChange renderAllWrong)

/-- 'interlocutorlaw11.RenderKnown': WHATEVER THE INPUT: true; the input reads as it did. -/
def renderKnownSpec : ChangeSpec := { name := "renderKnown", fn := fun _ => fun
  | [d] => { results := [.lit (.bool true)], args := [d] }
  | _ => none }
def renderKnownRow : OpenClaim := { program := "ytannndpamhgknaagreatdoor", sum := "b2eb22f931efb9e437cc655853fd417c99322c8df3ec0227615c8da8f9cfe7ca", func := "interlocutor/interlocutorlaw11.RenderKnown", spec := "renderKnown", inPlace := ["internal/abi.NoEscape", "internal/bytealg.MakeNoZero", "internal/bytealg.IndexByteString", "internal/bytealg.IndexString"], unfollowed := true, recurses := true, named := ["interlocutor/act.fields", "internal/strconv.uint64pow10", "math/bits.deBruijn32tab", "math/bits.deBruijn64tab", "internal/bytealg.MaxLen", "interlocutor/fold.noughts", "strconv.ErrSyntax", "strconv.ErrRange"], apart := false, laid := [("math/bits.deBruijn32tab", laid_math_bits_deBruijn32tab), ("math/bits.deBruijn64tab", laid_math_bits_deBruijn64tab), ("internal/strconv.uint64pow10", laid_internal_strconv_uint64pow10), ("strconv.ErrRange", laid_strconv_ErrRange), ("strconv.ErrSyntax", laid_strconv_ErrSyntax), ("interlocutor/act.fields", laid_interlocutor_act_fields), ("interlocutor/fold.noughts", laid_interlocutor_fold_noughts)] }
def RenderKnownSaid : Prop := renderKnownRow.holds Tryz.pinned (OpenSpec.ofChange renderKnownSpec)

/-- ITS FALSE NEIGHBOUR: 'it returns false'. Refute it at one input. -/
def renderKnownWrong : ChangeSpec := { name := "renderKnown", fn := fun _ => fun
  | [d] => { results := [.lit (.bool false)], args := [d] }
  | _ => none }
def RenderKnownWrongFalsely : Prop := renderKnownRow.holds Tryz.pinned (OpenSpec.ofChange renderKnownWrong)

/-- 'interlocutorlaw11.RenderDigits': WHATEVER THE INPUT: true; the input reads as it did. -/
def renderDigitsSpec : ChangeSpec := { name := "renderDigits", fn := fun _ => fun
  | [d1, d2, d3, d4, d5] => { results := [.lit (.bool true)], args := [d1, d2, d3, d4, d5] }
  | _ => none }
def renderDigitsRow : OpenClaim := { program := "ytannndpamhgknaagreatdoor", sum := "b2eb22f931efb9e437cc655853fd417c99322c8df3ec0227615c8da8f9cfe7ca", func := "interlocutor/interlocutorlaw11.RenderDigits", spec := "renderDigits", inPlace := ["internal/abi.NoEscape", "internal/bytealg.MakeNoZero", "internal/bytealg.IndexByteString", "internal/bytealg.IndexString"], unfollowed := true, recurses := true, named := ["interlocutor/act.fields", "internal/strconv.uint64pow10", "math/bits.deBruijn32tab", "math/bits.deBruijn64tab", "internal/bytealg.MaxLen", "interlocutor/fold.noughts", "strconv.ErrSyntax", "strconv.ErrRange"], apart := false, laid := [("math/bits.deBruijn32tab", laid_math_bits_deBruijn32tab), ("math/bits.deBruijn64tab", laid_math_bits_deBruijn64tab), ("internal/strconv.uint64pow10", laid_internal_strconv_uint64pow10), ("strconv.ErrRange", laid_strconv_ErrRange), ("strconv.ErrSyntax", laid_strconv_ErrSyntax), ("interlocutor/act.fields", laid_interlocutor_act_fields), ("interlocutor/fold.noughts", laid_interlocutor_fold_noughts)] }
def RenderDigitsSaid : Prop := renderDigitsRow.holds Tryz.pinned (OpenSpec.ofChange renderDigitsSpec)

/-- ITS FALSE NEIGHBOUR: 'it returns false'. Refute it at one input. -/
def renderDigitsWrong : ChangeSpec := { name := "renderDigits", fn := fun _ => fun
  | [d1, d2, d3, d4, d5] => { results := [.lit (.bool false)], args := [d1, d2, d3, d4, d5] }
  | _ => none }
def RenderDigitsWrongFalsely : Prop := renderDigitsRow.holds Tryz.pinned (OpenSpec.ofChange renderDigitsWrong)

/-- 'interlocutorlaw11.RenderLong': WHATEVER THE INPUT: true; the input reads as it did. -/
def renderLongSpec : ChangeSpec := { name := "renderLong", fn := fun _ => fun
  | [d] => { results := [.lit (.bool true)], args := [d] }
  | _ => none }
def renderLongRow : OpenClaim := { program := "ytannndpamhgknaagreatdoor", sum := "b2eb22f931efb9e437cc655853fd417c99322c8df3ec0227615c8da8f9cfe7ca", func := "interlocutor/interlocutorlaw11.RenderLong", spec := "renderLong", inPlace := ["internal/abi.NoEscape", "internal/bytealg.MakeNoZero", "internal/bytealg.IndexByteString", "internal/bytealg.IndexString"], unfollowed := true, recurses := true, named := ["interlocutor/act.fields", "internal/strconv.uint64pow10", "math/bits.deBruijn32tab", "math/bits.deBruijn64tab", "internal/bytealg.MaxLen", "interlocutor/fold.noughts", "strconv.ErrSyntax", "strconv.ErrRange"], apart := false, laid := [("math/bits.deBruijn32tab", laid_math_bits_deBruijn32tab), ("math/bits.deBruijn64tab", laid_math_bits_deBruijn64tab), ("internal/strconv.uint64pow10", laid_internal_strconv_uint64pow10), ("strconv.ErrRange", laid_strconv_ErrRange), ("strconv.ErrSyntax", laid_strconv_ErrSyntax), ("interlocutor/act.fields", laid_interlocutor_act_fields), ("interlocutor/fold.noughts", laid_interlocutor_fold_noughts)] }
def RenderLongSaid : Prop := renderLongRow.holds Tryz.pinned (OpenSpec.ofChange renderLongSpec)

/-- ITS FALSE NEIGHBOUR: 'it returns false'. Refute it at one input. -/
def renderLongWrong : ChangeSpec := { name := "renderLong", fn := fun _ => fun
  | [d] => { results := [.lit (.bool false)], args := [d] }
  | _ => none }
def RenderLongWrongFalsely : Prop := renderLongRow.holds Tryz.pinned (OpenSpec.ofChange renderLongWrong)

/-- 'interlocutorlaw11.RenderRange': WHATEVER THE INPUT: true; the input reads as it did. -/
def renderRangeSpec : ChangeSpec := { name := "renderRange", fn := fun _ => fun
  | [d1, d2, d3, d4, d5, d6, d7] => { results := [.lit (.bool true)], args := [d1, d2, d3, d4, d5, d6, d7] }
  | _ => none }
def renderRangeRow : OpenClaim := { program := "ytannndpamhgknaagreatdoor", sum := "b2eb22f931efb9e437cc655853fd417c99322c8df3ec0227615c8da8f9cfe7ca", func := "interlocutor/interlocutorlaw11.RenderRange", spec := "renderRange", inPlace := ["internal/abi.NoEscape", "internal/bytealg.MakeNoZero", "internal/bytealg.IndexByteString", "internal/bytealg.IndexString"], unfollowed := true, recurses := true, named := ["interlocutor/act.fields", "internal/strconv.uint64pow10", "math/bits.deBruijn32tab", "math/bits.deBruijn64tab", "internal/bytealg.MaxLen", "interlocutor/fold.noughts", "strconv.ErrSyntax", "strconv.ErrRange"], apart := false, laid := [("math/bits.deBruijn32tab", laid_math_bits_deBruijn32tab), ("math/bits.deBruijn64tab", laid_math_bits_deBruijn64tab), ("internal/strconv.uint64pow10", laid_internal_strconv_uint64pow10), ("strconv.ErrRange", laid_strconv_ErrRange), ("strconv.ErrSyntax", laid_strconv_ErrSyntax), ("interlocutor/act.fields", laid_interlocutor_act_fields), ("interlocutor/fold.noughts", laid_interlocutor_fold_noughts)] }
def RenderRangeSaid : Prop := renderRangeRow.holds Tryz.pinned (OpenSpec.ofChange renderRangeSpec)

/-- ITS FALSE NEIGHBOUR: 'it returns false'. Refute it at one input. -/
def renderRangeWrong : ChangeSpec := { name := "renderRange", fn := fun _ => fun
  | [d1, d2, d3, d4, d5, d6, d7] => { results := [.lit (.bool false)], args := [d1, d2, d3, d4, d5, d6, d7] }
  | _ => none }
def RenderRangeWrongFalsely : Prop := renderRangeRow.holds Tryz.pinned (OpenSpec.ofChange renderRangeWrong)

/-- 'interlocutorlaw11.RenderParts': WHATEVER THE INPUT: true; the input reads as it did. -/
def renderPartsSpec : ChangeSpec := { name := "renderParts", fn := fun _ => fun
  | [d1, d2, d3, d4, d5, d6, d7] => { results := [.lit (.bool true)], args := [d1, d2, d3, d4, d5, d6, d7] }
  | _ => none }
def renderPartsRow : OpenClaim := { program := "ytannndpamhgknaagreatdoor", sum := "b2eb22f931efb9e437cc655853fd417c99322c8df3ec0227615c8da8f9cfe7ca", func := "interlocutor/interlocutorlaw11.RenderParts", spec := "renderParts", inPlace := ["internal/abi.NoEscape", "internal/bytealg.MakeNoZero", "internal/bytealg.IndexByteString", "internal/bytealg.IndexString"], unfollowed := true, recurses := true, named := ["interlocutor/act.fields", "internal/strconv.uint64pow10", "math/bits.deBruijn32tab", "math/bits.deBruijn64tab", "internal/bytealg.MaxLen", "interlocutor/fold.noughts", "strconv.ErrSyntax", "strconv.ErrRange"], apart := false, laid := [("math/bits.deBruijn32tab", laid_math_bits_deBruijn32tab), ("math/bits.deBruijn64tab", laid_math_bits_deBruijn64tab), ("internal/strconv.uint64pow10", laid_internal_strconv_uint64pow10), ("strconv.ErrRange", laid_strconv_ErrRange), ("strconv.ErrSyntax", laid_strconv_ErrSyntax), ("interlocutor/act.fields", laid_interlocutor_act_fields), ("interlocutor/fold.noughts", laid_interlocutor_fold_noughts)] }
def RenderPartsSaid : Prop := renderPartsRow.holds Tryz.pinned (OpenSpec.ofChange renderPartsSpec)

/-- ITS FALSE NEIGHBOUR: 'it returns false'. Refute it at one input. -/
def renderPartsWrong : ChangeSpec := { name := "renderParts", fn := fun _ => fun
  | [d1, d2, d3, d4, d5, d6, d7] => { results := [.lit (.bool false)], args := [d1, d2, d3, d4, d5, d6, d7] }
  | _ => none }
def RenderPartsWrongFalsely : Prop := renderPartsRow.holds Tryz.pinned (OpenSpec.ofChange renderPartsWrong)

/-- 'interlocutorlaw11.RenderWidths': WHATEVER THE INPUT: true; the input reads as it did. -/
def renderWidthsSpec : ChangeSpec := { name := "renderWidths", fn := fun _ => fun
  | [d1, d2, d3] => { results := [.lit (.bool true)], args := [d1, d2, d3] }
  | _ => none }
def renderWidthsRow : OpenClaim := { program := "ytannndpamhgknaagreatdoor", sum := "b2eb22f931efb9e437cc655853fd417c99322c8df3ec0227615c8da8f9cfe7ca", func := "interlocutor/interlocutorlaw11.RenderWidths", spec := "renderWidths", inPlace := ["internal/abi.NoEscape", "internal/bytealg.MakeNoZero", "internal/bytealg.IndexByteString", "internal/bytealg.IndexString"], unfollowed := true, recurses := true, named := ["interlocutor/act.fields", "internal/strconv.uint64pow10", "math/bits.deBruijn32tab", "math/bits.deBruijn64tab", "internal/bytealg.MaxLen", "interlocutor/fold.noughts", "strconv.ErrSyntax", "strconv.ErrRange"], apart := false, laid := [("math/bits.deBruijn32tab", laid_math_bits_deBruijn32tab), ("math/bits.deBruijn64tab", laid_math_bits_deBruijn64tab), ("internal/strconv.uint64pow10", laid_internal_strconv_uint64pow10), ("strconv.ErrRange", laid_strconv_ErrRange), ("strconv.ErrSyntax", laid_strconv_ErrSyntax), ("interlocutor/act.fields", laid_interlocutor_act_fields), ("interlocutor/fold.noughts", laid_interlocutor_fold_noughts)] }
def RenderWidthsSaid : Prop := renderWidthsRow.holds Tryz.pinned (OpenSpec.ofChange renderWidthsSpec)

/-- ITS FALSE NEIGHBOUR: 'it returns false'. Refute it at one input. -/
def renderWidthsWrong : ChangeSpec := { name := "renderWidths", fn := fun _ => fun
  | [d1, d2, d3] => { results := [.lit (.bool false)], args := [d1, d2, d3] }
  | _ => none }
def RenderWidthsWrongFalsely : Prop := renderWidthsRow.holds Tryz.pinned (OpenSpec.ofChange renderWidthsWrong)

/-- 'interlocutorlaw11.RenderDurs': WHATEVER THE INPUT: true; the input reads as it did. -/
def renderDursSpec : ChangeSpec := { name := "renderDurs", fn := fun _ => fun
  | [d] => { results := [.lit (.bool true)], args := [d] }
  | _ => none }
def renderDursRow : OpenClaim := { program := "ytannndpamhgknaagreatdoor", sum := "b2eb22f931efb9e437cc655853fd417c99322c8df3ec0227615c8da8f9cfe7ca", func := "interlocutor/interlocutorlaw11.RenderDurs", spec := "renderDurs", inPlace := ["internal/abi.NoEscape", "internal/bytealg.MakeNoZero", "internal/bytealg.IndexByteString", "internal/bytealg.IndexString"], unfollowed := true, recurses := true, named := ["interlocutor/act.fields", "internal/strconv.uint64pow10", "math/bits.deBruijn32tab", "math/bits.deBruijn64tab", "internal/bytealg.MaxLen", "interlocutor/fold.noughts", "strconv.ErrSyntax", "strconv.ErrRange"], apart := false, laid := [("math/bits.deBruijn32tab", laid_math_bits_deBruijn32tab), ("math/bits.deBruijn64tab", laid_math_bits_deBruijn64tab), ("internal/strconv.uint64pow10", laid_internal_strconv_uint64pow10), ("strconv.ErrRange", laid_strconv_ErrRange), ("strconv.ErrSyntax", laid_strconv_ErrSyntax), ("interlocutor/act.fields", laid_interlocutor_act_fields), ("interlocutor/fold.noughts", laid_interlocutor_fold_noughts)] }
def RenderDursSaid : Prop := renderDursRow.holds Tryz.pinned (OpenSpec.ofChange renderDursSpec)

/-- ITS FALSE NEIGHBOUR: 'it returns false'. Refute it at one input. -/
def renderDursWrong : ChangeSpec := { name := "renderDurs", fn := fun _ => fun
  | [d] => { results := [.lit (.bool false)], args := [d] }
  | _ => none }
def RenderDursWrongFalsely : Prop := renderDursRow.holds Tryz.pinned (OpenSpec.ofChange renderDursWrong)

/-- 'interlocutorlaw11.RenderWords': WHATEVER THE INPUT: true; the input reads as it did. -/
def renderWordsSpec : ChangeSpec := { name := "renderWords", fn := fun _ => fun
  | [d1, d2] => { results := [.lit (.bool true)], args := [d1, d2] }
  | _ => none }
def renderWordsRow : OpenClaim := { program := "ytannndpamhgknaagreatdoor", sum := "b2eb22f931efb9e437cc655853fd417c99322c8df3ec0227615c8da8f9cfe7ca", func := "interlocutor/interlocutorlaw11.RenderWords", spec := "renderWords", inPlace := ["internal/abi.NoEscape", "internal/bytealg.MakeNoZero", "internal/bytealg.IndexByteString", "internal/bytealg.IndexString"], unfollowed := true, recurses := true, named := ["interlocutor/act.fields", "internal/strconv.uint64pow10", "math/bits.deBruijn32tab", "math/bits.deBruijn64tab", "internal/bytealg.MaxLen", "interlocutor/fold.noughts", "strconv.ErrSyntax", "strconv.ErrRange"], apart := false, laid := [("math/bits.deBruijn32tab", laid_math_bits_deBruijn32tab), ("math/bits.deBruijn64tab", laid_math_bits_deBruijn64tab), ("internal/strconv.uint64pow10", laid_internal_strconv_uint64pow10), ("strconv.ErrRange", laid_strconv_ErrRange), ("strconv.ErrSyntax", laid_strconv_ErrSyntax), ("interlocutor/act.fields", laid_interlocutor_act_fields), ("interlocutor/fold.noughts", laid_interlocutor_fold_noughts)] }
def RenderWordsSaid : Prop := renderWordsRow.holds Tryz.pinned (OpenSpec.ofChange renderWordsSpec)

/-- ITS FALSE NEIGHBOUR: 'it returns false'. Refute it at one input. -/
def renderWordsWrong : ChangeSpec := { name := "renderWords", fn := fun _ => fun
  | [d1, d2] => { results := [.lit (.bool false)], args := [d1, d2] }
  | _ => none }
def RenderWordsWrongFalsely : Prop := renderWordsRow.holds Tryz.pinned (OpenSpec.ofChange renderWordsWrong)

/-- 'interlocutorlaw11.RenderOwn': WHATEVER THE INPUT: true; the input reads as it did. -/
def renderOwnSpec : ChangeSpec := { name := "renderOwn", fn := fun _ => fun
  | [d1, d2, d3, d4, d5, d6] => { results := [.lit (.bool true)], args := [d1, d2, d3, d4, d5, d6] }
  | _ => none }
def renderOwnRow : OpenClaim := { program := "ytannndpamhgknaagreatdoor", sum := "b2eb22f931efb9e437cc655853fd417c99322c8df3ec0227615c8da8f9cfe7ca", func := "interlocutor/interlocutorlaw11.RenderOwn", spec := "renderOwn", inPlace := ["internal/abi.NoEscape", "internal/bytealg.MakeNoZero", "internal/bytealg.IndexByteString", "internal/bytealg.IndexString"], unfollowed := true, recurses := true, named := ["interlocutor/act.fields", "internal/strconv.uint64pow10", "math/bits.deBruijn32tab", "math/bits.deBruijn64tab", "internal/bytealg.MaxLen", "interlocutor/fold.noughts", "strconv.ErrSyntax", "strconv.ErrRange"], apart := false, laid := [("math/bits.deBruijn32tab", laid_math_bits_deBruijn32tab), ("math/bits.deBruijn64tab", laid_math_bits_deBruijn64tab), ("internal/strconv.uint64pow10", laid_internal_strconv_uint64pow10), ("strconv.ErrRange", laid_strconv_ErrRange), ("strconv.ErrSyntax", laid_strconv_ErrSyntax), ("interlocutor/act.fields", laid_interlocutor_act_fields), ("interlocutor/fold.noughts", laid_interlocutor_fold_noughts)] }
def RenderOwnSaid : Prop := renderOwnRow.holds Tryz.pinned (OpenSpec.ofChange renderOwnSpec)

/-- ITS FALSE NEIGHBOUR: 'it returns false'. Refute it at one input. -/
def renderOwnWrong : ChangeSpec := { name := "renderOwn", fn := fun _ => fun
  | [d1, d2, d3, d4, d5, d6] => { results := [.lit (.bool false)], args := [d1, d2, d3, d4, d5, d6] }
  | _ => none }
def RenderOwnWrongFalsely : Prop := renderOwnRow.holds Tryz.pinned (OpenSpec.ofChange renderOwnWrong)

/- THE SECOND FORM. 'bulk': how many values and letters a reading holds, each counted each time it is reached (what is shared counts as often as it is met; a slice's spare places count too). A statement '..UptoSaid' is the law's where the arguments, and the package variables that the reading takes, are together of bulk at most 1048576: NARROWER than '..Said'. Prove '..Said' where nothing that the law and all that it calls make is longer than what came in: it says more and counts as full. Else prove '..UptoSaid'. A law counts once. -/
mutual
def uptoBulk {H : Type} : DataW H → Nat
  | .lit (.string bytes) => bytes.length + 1
  | .lit _ => 1
  | .nil => 1
  | .ptr d => uptoBulk d + 1
  | .slice elems spare => uptoBulkAll elems + uptoBulkAll spare + 1
  | .agg parts => uptoBulkAll parts + 1
  | .iface _ d => uptoBulk d + 1
  | .map entries => uptoBulkEntries entries + 1
  | .held _ => 1
def uptoBulkAll {H : Type} : List (DataW H) → Nat
  | [] => 0
  | d :: r => uptoBulk d + uptoBulkAll r
def uptoBulkEntries {H : Type} : List (Lit × DataW H) → Nat
  | [] => 0
  | x :: r => uptoBulkEntry x + uptoBulkEntries r
def uptoBulkEntry {H : Type} : Lit × DataW H → Nat
  | (.string bytes, d) => bytes.length + uptoBulk d + 1
  | (_, d) => uptoBulk d + 1
 end
def uptoSmall : (H : Type) → List (DataW H) → Bool := fun _ ds => decide (uptoBulkAll ds ≤ 1048576)
def OpenSpec.upto (s : _root_.Go.ChangeSpec) : _root_.Go.OpenSpec := { _root_.Go.OpenSpec.ofChange s with cond := some uptoSmall }

/-- 'interlocutorlaw11.RenderAll', WHERE WHAT IT READS IS OF BULK AT MOST 1048576: true; the input reads as it did. -/
def renderAllUptoRow : OpenClaim := { program := "ytannndpamhgknaagreatdoor", sum := "b2eb22f931efb9e437cc655853fd417c99322c8df3ec0227615c8da8f9cfe7ca", func := "interlocutor/interlocutorlaw11.RenderAll", spec := "renderAll", inPlace := ["internal/abi.NoEscape", "internal/bytealg.MakeNoZero", "internal/bytealg.IndexByteString", "internal/bytealg.IndexString"], unfollowed := true, recurses := true, named := ["interlocutor/act.fields", "internal/strconv.uint64pow10", "math/bits.deBruijn32tab", "math/bits.deBruijn64tab", "internal/bytealg.MaxLen", "interlocutor/fold.noughts", "strconv.ErrSyntax", "strconv.ErrRange"], apart := false, laid := [("math/bits.deBruijn32tab", laid_math_bits_deBruijn32tab), ("math/bits.deBruijn64tab", laid_math_bits_deBruijn64tab), ("internal/strconv.uint64pow10", laid_internal_strconv_uint64pow10), ("strconv.ErrRange", laid_strconv_ErrRange), ("strconv.ErrSyntax", laid_strconv_ErrSyntax), ("interlocutor/act.fields", laid_interlocutor_act_fields), ("interlocutor/fold.noughts", laid_interlocutor_fold_noughts)], narrowed := true }
def RenderAllUptoSaid : Prop := renderAllUptoRow.holds Tryz.pinned (OpenSpec.upto renderAllSpec)

/-- 'interlocutorlaw11.RenderKnown', WHERE WHAT IT READS IS OF BULK AT MOST 1048576: true; the input reads as it did. -/
def renderKnownUptoRow : OpenClaim := { program := "ytannndpamhgknaagreatdoor", sum := "b2eb22f931efb9e437cc655853fd417c99322c8df3ec0227615c8da8f9cfe7ca", func := "interlocutor/interlocutorlaw11.RenderKnown", spec := "renderKnown", inPlace := ["internal/abi.NoEscape", "internal/bytealg.MakeNoZero", "internal/bytealg.IndexByteString", "internal/bytealg.IndexString"], unfollowed := true, recurses := true, named := ["interlocutor/act.fields", "internal/strconv.uint64pow10", "math/bits.deBruijn32tab", "math/bits.deBruijn64tab", "internal/bytealg.MaxLen", "interlocutor/fold.noughts", "strconv.ErrSyntax", "strconv.ErrRange"], apart := false, laid := [("math/bits.deBruijn32tab", laid_math_bits_deBruijn32tab), ("math/bits.deBruijn64tab", laid_math_bits_deBruijn64tab), ("internal/strconv.uint64pow10", laid_internal_strconv_uint64pow10), ("strconv.ErrRange", laid_strconv_ErrRange), ("strconv.ErrSyntax", laid_strconv_ErrSyntax), ("interlocutor/act.fields", laid_interlocutor_act_fields), ("interlocutor/fold.noughts", laid_interlocutor_fold_noughts)], narrowed := true }
def RenderKnownUptoSaid : Prop := renderKnownUptoRow.holds Tryz.pinned (OpenSpec.upto renderKnownSpec)

/-- 'interlocutorlaw11.RenderDigits', WHERE WHAT IT READS IS OF BULK AT MOST 1048576: true; the input reads as it did. -/
def renderDigitsUptoRow : OpenClaim := { program := "ytannndpamhgknaagreatdoor", sum := "b2eb22f931efb9e437cc655853fd417c99322c8df3ec0227615c8da8f9cfe7ca", func := "interlocutor/interlocutorlaw11.RenderDigits", spec := "renderDigits", inPlace := ["internal/abi.NoEscape", "internal/bytealg.MakeNoZero", "internal/bytealg.IndexByteString", "internal/bytealg.IndexString"], unfollowed := true, recurses := true, named := ["interlocutor/act.fields", "internal/strconv.uint64pow10", "math/bits.deBruijn32tab", "math/bits.deBruijn64tab", "internal/bytealg.MaxLen", "interlocutor/fold.noughts", "strconv.ErrSyntax", "strconv.ErrRange"], apart := false, laid := [("math/bits.deBruijn32tab", laid_math_bits_deBruijn32tab), ("math/bits.deBruijn64tab", laid_math_bits_deBruijn64tab), ("internal/strconv.uint64pow10", laid_internal_strconv_uint64pow10), ("strconv.ErrRange", laid_strconv_ErrRange), ("strconv.ErrSyntax", laid_strconv_ErrSyntax), ("interlocutor/act.fields", laid_interlocutor_act_fields), ("interlocutor/fold.noughts", laid_interlocutor_fold_noughts)], narrowed := true }
def RenderDigitsUptoSaid : Prop := renderDigitsUptoRow.holds Tryz.pinned (OpenSpec.upto renderDigitsSpec)

/-- 'interlocutorlaw11.RenderLong', WHERE WHAT IT READS IS OF BULK AT MOST 1048576: true; the input reads as it did. -/
def renderLongUptoRow : OpenClaim := { program := "ytannndpamhgknaagreatdoor", sum := "b2eb22f931efb9e437cc655853fd417c99322c8df3ec0227615c8da8f9cfe7ca", func := "interlocutor/interlocutorlaw11.RenderLong", spec := "renderLong", inPlace := ["internal/abi.NoEscape", "internal/bytealg.MakeNoZero", "internal/bytealg.IndexByteString", "internal/bytealg.IndexString"], unfollowed := true, recurses := true, named := ["interlocutor/act.fields", "internal/strconv.uint64pow10", "math/bits.deBruijn32tab", "math/bits.deBruijn64tab", "internal/bytealg.MaxLen", "interlocutor/fold.noughts", "strconv.ErrSyntax", "strconv.ErrRange"], apart := false, laid := [("math/bits.deBruijn32tab", laid_math_bits_deBruijn32tab), ("math/bits.deBruijn64tab", laid_math_bits_deBruijn64tab), ("internal/strconv.uint64pow10", laid_internal_strconv_uint64pow10), ("strconv.ErrRange", laid_strconv_ErrRange), ("strconv.ErrSyntax", laid_strconv_ErrSyntax), ("interlocutor/act.fields", laid_interlocutor_act_fields), ("interlocutor/fold.noughts", laid_interlocutor_fold_noughts)], narrowed := true }
def RenderLongUptoSaid : Prop := renderLongUptoRow.holds Tryz.pinned (OpenSpec.upto renderLongSpec)

/-- 'interlocutorlaw11.RenderRange', WHERE WHAT IT READS IS OF BULK AT MOST 1048576: true; the input reads as it did. -/
def renderRangeUptoRow : OpenClaim := { program := "ytannndpamhgknaagreatdoor", sum := "b2eb22f931efb9e437cc655853fd417c99322c8df3ec0227615c8da8f9cfe7ca", func := "interlocutor/interlocutorlaw11.RenderRange", spec := "renderRange", inPlace := ["internal/abi.NoEscape", "internal/bytealg.MakeNoZero", "internal/bytealg.IndexByteString", "internal/bytealg.IndexString"], unfollowed := true, recurses := true, named := ["interlocutor/act.fields", "internal/strconv.uint64pow10", "math/bits.deBruijn32tab", "math/bits.deBruijn64tab", "internal/bytealg.MaxLen", "interlocutor/fold.noughts", "strconv.ErrSyntax", "strconv.ErrRange"], apart := false, laid := [("math/bits.deBruijn32tab", laid_math_bits_deBruijn32tab), ("math/bits.deBruijn64tab", laid_math_bits_deBruijn64tab), ("internal/strconv.uint64pow10", laid_internal_strconv_uint64pow10), ("strconv.ErrRange", laid_strconv_ErrRange), ("strconv.ErrSyntax", laid_strconv_ErrSyntax), ("interlocutor/act.fields", laid_interlocutor_act_fields), ("interlocutor/fold.noughts", laid_interlocutor_fold_noughts)], narrowed := true }
def RenderRangeUptoSaid : Prop := renderRangeUptoRow.holds Tryz.pinned (OpenSpec.upto renderRangeSpec)

/-- 'interlocutorlaw11.RenderParts', WHERE WHAT IT READS IS OF BULK AT MOST 1048576: true; the input reads as it did. -/
def renderPartsUptoRow : OpenClaim := { program := "ytannndpamhgknaagreatdoor", sum := "b2eb22f931efb9e437cc655853fd417c99322c8df3ec0227615c8da8f9cfe7ca", func := "interlocutor/interlocutorlaw11.RenderParts", spec := "renderParts", inPlace := ["internal/abi.NoEscape", "internal/bytealg.MakeNoZero", "internal/bytealg.IndexByteString", "internal/bytealg.IndexString"], unfollowed := true, recurses := true, named := ["interlocutor/act.fields", "internal/strconv.uint64pow10", "math/bits.deBruijn32tab", "math/bits.deBruijn64tab", "internal/bytealg.MaxLen", "interlocutor/fold.noughts", "strconv.ErrSyntax", "strconv.ErrRange"], apart := false, laid := [("math/bits.deBruijn32tab", laid_math_bits_deBruijn32tab), ("math/bits.deBruijn64tab", laid_math_bits_deBruijn64tab), ("internal/strconv.uint64pow10", laid_internal_strconv_uint64pow10), ("strconv.ErrRange", laid_strconv_ErrRange), ("strconv.ErrSyntax", laid_strconv_ErrSyntax), ("interlocutor/act.fields", laid_interlocutor_act_fields), ("interlocutor/fold.noughts", laid_interlocutor_fold_noughts)], narrowed := true }
def RenderPartsUptoSaid : Prop := renderPartsUptoRow.holds Tryz.pinned (OpenSpec.upto renderPartsSpec)

/-- 'interlocutorlaw11.RenderWidths', WHERE WHAT IT READS IS OF BULK AT MOST 1048576: true; the input reads as it did. -/
def renderWidthsUptoRow : OpenClaim := { program := "ytannndpamhgknaagreatdoor", sum := "b2eb22f931efb9e437cc655853fd417c99322c8df3ec0227615c8da8f9cfe7ca", func := "interlocutor/interlocutorlaw11.RenderWidths", spec := "renderWidths", inPlace := ["internal/abi.NoEscape", "internal/bytealg.MakeNoZero", "internal/bytealg.IndexByteString", "internal/bytealg.IndexString"], unfollowed := true, recurses := true, named := ["interlocutor/act.fields", "internal/strconv.uint64pow10", "math/bits.deBruijn32tab", "math/bits.deBruijn64tab", "internal/bytealg.MaxLen", "interlocutor/fold.noughts", "strconv.ErrSyntax", "strconv.ErrRange"], apart := false, laid := [("math/bits.deBruijn32tab", laid_math_bits_deBruijn32tab), ("math/bits.deBruijn64tab", laid_math_bits_deBruijn64tab), ("internal/strconv.uint64pow10", laid_internal_strconv_uint64pow10), ("strconv.ErrRange", laid_strconv_ErrRange), ("strconv.ErrSyntax", laid_strconv_ErrSyntax), ("interlocutor/act.fields", laid_interlocutor_act_fields), ("interlocutor/fold.noughts", laid_interlocutor_fold_noughts)], narrowed := true }
def RenderWidthsUptoSaid : Prop := renderWidthsUptoRow.holds Tryz.pinned (OpenSpec.upto renderWidthsSpec)

/-- 'interlocutorlaw11.RenderDurs', WHERE WHAT IT READS IS OF BULK AT MOST 1048576: true; the input reads as it did. -/
def renderDursUptoRow : OpenClaim := { program := "ytannndpamhgknaagreatdoor", sum := "b2eb22f931efb9e437cc655853fd417c99322c8df3ec0227615c8da8f9cfe7ca", func := "interlocutor/interlocutorlaw11.RenderDurs", spec := "renderDurs", inPlace := ["internal/abi.NoEscape", "internal/bytealg.MakeNoZero", "internal/bytealg.IndexByteString", "internal/bytealg.IndexString"], unfollowed := true, recurses := true, named := ["interlocutor/act.fields", "internal/strconv.uint64pow10", "math/bits.deBruijn32tab", "math/bits.deBruijn64tab", "internal/bytealg.MaxLen", "interlocutor/fold.noughts", "strconv.ErrSyntax", "strconv.ErrRange"], apart := false, laid := [("math/bits.deBruijn32tab", laid_math_bits_deBruijn32tab), ("math/bits.deBruijn64tab", laid_math_bits_deBruijn64tab), ("internal/strconv.uint64pow10", laid_internal_strconv_uint64pow10), ("strconv.ErrRange", laid_strconv_ErrRange), ("strconv.ErrSyntax", laid_strconv_ErrSyntax), ("interlocutor/act.fields", laid_interlocutor_act_fields), ("interlocutor/fold.noughts", laid_interlocutor_fold_noughts)], narrowed := true }
def RenderDursUptoSaid : Prop := renderDursUptoRow.holds Tryz.pinned (OpenSpec.upto renderDursSpec)

/-- 'interlocutorlaw11.RenderWords', WHERE WHAT IT READS IS OF BULK AT MOST 1048576: true; the input reads as it did. -/
def renderWordsUptoRow : OpenClaim := { program := "ytannndpamhgknaagreatdoor", sum := "b2eb22f931efb9e437cc655853fd417c99322c8df3ec0227615c8da8f9cfe7ca", func := "interlocutor/interlocutorlaw11.RenderWords", spec := "renderWords", inPlace := ["internal/abi.NoEscape", "internal/bytealg.MakeNoZero", "internal/bytealg.IndexByteString", "internal/bytealg.IndexString"], unfollowed := true, recurses := true, named := ["interlocutor/act.fields", "internal/strconv.uint64pow10", "math/bits.deBruijn32tab", "math/bits.deBruijn64tab", "internal/bytealg.MaxLen", "interlocutor/fold.noughts", "strconv.ErrSyntax", "strconv.ErrRange"], apart := false, laid := [("math/bits.deBruijn32tab", laid_math_bits_deBruijn32tab), ("math/bits.deBruijn64tab", laid_math_bits_deBruijn64tab), ("internal/strconv.uint64pow10", laid_internal_strconv_uint64pow10), ("strconv.ErrRange", laid_strconv_ErrRange), ("strconv.ErrSyntax", laid_strconv_ErrSyntax), ("interlocutor/act.fields", laid_interlocutor_act_fields), ("interlocutor/fold.noughts", laid_interlocutor_fold_noughts)], narrowed := true }
def RenderWordsUptoSaid : Prop := renderWordsUptoRow.holds Tryz.pinned (OpenSpec.upto renderWordsSpec)

/-- 'interlocutorlaw11.RenderOwn', WHERE WHAT IT READS IS OF BULK AT MOST 1048576: true; the input reads as it did. -/
def renderOwnUptoRow : OpenClaim := { program := "ytannndpamhgknaagreatdoor", sum := "b2eb22f931efb9e437cc655853fd417c99322c8df3ec0227615c8da8f9cfe7ca", func := "interlocutor/interlocutorlaw11.RenderOwn", spec := "renderOwn", inPlace := ["internal/abi.NoEscape", "internal/bytealg.MakeNoZero", "internal/bytealg.IndexByteString", "internal/bytealg.IndexString"], unfollowed := true, recurses := true, named := ["interlocutor/act.fields", "internal/strconv.uint64pow10", "math/bits.deBruijn32tab", "math/bits.deBruijn64tab", "internal/bytealg.MaxLen", "interlocutor/fold.noughts", "strconv.ErrSyntax", "strconv.ErrRange"], apart := false, laid := [("math/bits.deBruijn32tab", laid_math_bits_deBruijn32tab), ("math/bits.deBruijn64tab", laid_math_bits_deBruijn64tab), ("internal/strconv.uint64pow10", laid_internal_strconv_uint64pow10), ("strconv.ErrRange", laid_strconv_ErrRange), ("strconv.ErrSyntax", laid_strconv_ErrSyntax), ("interlocutor/act.fields", laid_interlocutor_act_fields), ("interlocutor/fold.noughts", laid_interlocutor_fold_noughts)], narrowed := true }
def RenderOwnUptoSaid : Prop := renderOwnUptoRow.holds Tryz.pinned (OpenSpec.upto renderOwnSpec)

end Rows
end Go.Proofs.YtannndpamhgknaaGreatDoor
