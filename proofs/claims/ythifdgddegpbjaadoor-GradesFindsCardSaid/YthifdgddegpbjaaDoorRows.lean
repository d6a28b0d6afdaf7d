/-
  NARROWER THAN 'FOR EVERY INPUT', by the rows' own cells (each row's printed sentence says how): GradesReads: laid · GradesMeasures: laid · GradesDeviates: laid · GradesFinds: laid · GradesGrows: laid · GradesMirrors: laid · GradesReturns: laid · GradesBounds: laid.
  DERIVED. THE GIVEN ROWS OF THIS SEAT. 8 by the template 'for every input the law returns true; each argument reads behind the call as it read before'; 0 by the template 'total and deterministic' (their statements: YthifdgddegpbjaaDoorTotals.lean).
  GIVEN WITH THE SEED: the statements are not yours to turn. If you find one false, say at which input.
  Laid BY PROGRAM, IN A SANDBOX (cutbox-rows.mjs): the forced cells as the released guide's own fill.sh prints them over the translation 014c2976f42ef769… (all of the seat's roots in one cut). By AI agents, Wed Nov 11 2026. No macro, syntax, notation, axiom, sorry.
-/
import Derived.Test.YthifdgddegpbjaaDoorChecked
import GoSem.PinnedTables
import GoSem.Claim
import GoSem.ClaimJoined
import GoSem.ClaimMapViews
import Derived.JoinedTies
import Derived.KernelRfl
namespace Go.Proofs.YthifdgddegpbjaaDoor
/- THE CELL 'sum', in the pinned program and in every row, IS THE sha256 OF THE DUMP (.gsa) THAT YthifdgddegpbjaaDoorProg.lean LOADS. Nothing in Lean hashes anything: it is a label: what it is worth is what the hold of that sum in a sandbox is worth. -/
noncomputable def Tryd.pinned : Pinned := { name := "ythifdgddegpbjaadoor", sum := "014c2976f42ef7696c721b9aed44fd6d5032f6df4948c906fce30d85f784fe86", checked := Tryd.checked }
namespace Rows
def none {H : Type} : Left H := { results := [], args := [] }

/- WHAT THE LISTED PACKAGE-LEVEL VARIABLES READ AS WHEN THE CALL BEGINS. Each datum BY PROGRAM (the guide's laid-datum.mjs) off the statement by which the dump's own 'gosem.cut.vars' lays the variable. In a bare row this is a premise. The card (YthifdgddegpbjaaDoorCards.lean) ties it to the program's text. -/
def laid_math_bits_deBruijn32tab {H : Type} : DataW H := .agg [.lit (.int .u8 0), .lit (.int .u8 1), .lit (.int .u8 28), .lit (.int .u8 2), .lit (.int .u8 29), .lit (.int .u8 14), .lit (.int .u8 24), .lit (.int .u8 3), .lit (.int .u8 30), .lit (.int .u8 22), .lit (.int .u8 20), .lit (.int .u8 15), .lit (.int .u8 25), .lit (.int .u8 17), .lit (.int .u8 4), .lit (.int .u8 8), .lit (.int .u8 31), .lit (.int .u8 27), .lit (.int .u8 13), .lit (.int .u8 23), .lit (.int .u8 21), .lit (.int .u8 19), .lit (.int .u8 16), .lit (.int .u8 7), .lit (.int .u8 26), .lit (.int .u8 12), .lit (.int .u8 18), .lit (.int .u8 6), .lit (.int .u8 11), .lit (.int .u8 5), .lit (.int .u8 10), .lit (.int .u8 9)]
def laid_math_bits_deBruijn64tab {H : Type} : DataW H := .agg [.lit (.int .u8 0), .lit (.int .u8 1), .lit (.int .u8 56), .lit (.int .u8 2), .lit (.int .u8 57), .lit (.int .u8 49), .lit (.int .u8 28), .lit (.int .u8 3), .lit (.int .u8 61), .lit (.int .u8 58), .lit (.int .u8 42), .lit (.int .u8 50), .lit (.int .u8 38), .lit (.int .u8 29), .lit (.int .u8 17), .lit (.int .u8 4), .lit (.int .u8 62), .lit (.int .u8 47), .lit (.int .u8 59), .lit (.int .u8 36), .lit (.int .u8 45), .lit (.int .u8 43), .lit (.int .u8 51), .lit (.int .u8 22), .lit (.int .u8 53), .lit (.int .u8 39), .lit (.int .u8 33), .lit (.int .u8 30), .lit (.int .u8 24), .lit (.int .u8 18), .lit (.int .u8 12), .lit (.int .u8 5), .lit (.int .u8 63), .lit (.int .u8 55), .lit (.int .u8 48), .lit (.int .u8 27), .lit (.int .u8 60), .lit (.int .u8 41), .lit (.int .u8 37), .lit (.int .u8 16), .lit (.int .u8 46), .lit (.int .u8 35), .lit (.int .u8 44), .lit (.int .u8 21), .lit (.int .u8 52), .lit (.int .u8 32), .lit (.int .u8 23), .lit (.int .u8 11), .lit (.int .u8 54), .lit (.int .u8 26), .lit (.int .u8 40), .lit (.int .u8 15), .lit (.int .u8 34), .lit (.int .u8 20), .lit (.int .u8 31), .lit (.int .u8 10), .lit (.int .u8 25), .lit (.int .u8 14), .lit (.int .u8 19), .lit (.int .u8 9), .lit (.int .u8 13), .lit (.int .u8 8), .lit (.int .u8 7), .lit (.int .u8 6)]
def laid_internal_strconv_uint64pow10 {H : Type} : DataW H := .agg [.lit (.int .u64 1), .lit (.int .u64 10), .lit (.int .u64 100), .lit (.int .u64 1000), .lit (.int .u64 10000), .lit (.int .u64 100000), .lit (.int .u64 1000000), .lit (.int .u64 10000000), .lit (.int .u64 100000000), .lit (.int .u64 1000000000), .lit (.int .u64 10000000000), .lit (.int .u64 100000000000), .lit (.int .u64 1000000000000), .lit (.int .u64 10000000000000), .lit (.int .u64 100000000000000), .lit (.int .u64 1000000000000000), .lit (.int .u64 10000000000000000), .lit (.int .u64 100000000000000000), .lit (.int .u64 1000000000000000000), .lit (.int .u64 10000000000000000000)]
def laid_unicode_utf8_acceptRanges {H : Type} : DataW H := .agg [.agg [.lit (.int .u8 128), .lit (.int .u8 191)], .agg [.lit (.int .u8 160), .lit (.int .u8 191)], .agg [.lit (.int .u8 128), .lit (.int .u8 159)], .agg [.lit (.int .u8 144), .lit (.int .u8 191)], .agg [.lit (.int .u8 128), .lit (.int .u8 143)], .agg [.lit (.int .u8 0), .lit (.int .u8 0)], .agg [.lit (.int .u8 0), .lit (.int .u8 0)], .agg [.lit (.int .u8 0), .lit (.int .u8 0)], .agg [.lit (.int .u8 0), .lit (.int .u8 0)], .agg [.lit (.int .u8 0), .lit (.int .u8 0)], .agg [.lit (.int .u8 0), .lit (.int .u8 0)], .agg [.lit (.int .u8 0), .lit (.int .u8 0)], .agg [.lit (.int .u8 0), .lit (.int .u8 0)], .agg [.lit (.int .u8 0), .lit (.int .u8 0)], .agg [.lit (.int .u8 0), .lit (.int .u8 0)], .agg [.lit (.int .u8 0), .lit (.int .u8 0)]]
def laid_strconv_ErrRange {H : Type} : DataW H := .iface "*errors.errorString" (.ptr (.agg [.lit (.string [118, 97, 108, 117, 101, 32, 111, 117, 116, 32, 111, 102, 32, 114, 97, 110, 103, 101])]))
def laid_strconv_ErrSyntax {H : Type} : DataW H := .iface "*errors.errorString" (.ptr (.agg [.lit (.string [105, 110, 118, 97, 108, 105, 100, 32, 115, 121, 110, 116, 97, 120])]))
def laid_metrolab_grades_ends {H : Type} : DataW H := .agg [.lit (.int .i64 3000), .lit (.int .i64 6000), .lit (.int .i64 10000), .lit (.int .i64 18000), .lit (.int .i64 30000), .lit (.int .i64 50000), .lit (.int .i64 80000), .lit (.int .i64 100000)]
def laid_metrolab_grades_bases {H : Type} : DataW H := .agg [.lit (.int .i64 6), .lit (.int .i64 8), .lit (.int .i64 9), .lit (.int .i64 11), .lit (.int .i64 13), .lit (.int .i64 16), .lit (.int .i64 19), .lit (.int .i64 22)]
def laid_metrolab_grades_factors {H : Type} : DataW H := .agg [.lit (.int .i64 7), .lit (.int .i64 10), .lit (.int .i64 16), .lit (.int .i64 25), .lit (.int .i64 40), .lit (.int .i64 64), .lit (.int .i64 100), .lit (.int .i64 160)]
/-- One of Go's own tables, pinned by name: the form's constant. -/
def laid_unicode_CaseRanges : DataW Unit := Go.Pinned.caseRanges
/-- One of Go's own tables, pinned by name: the form's constant. -/
def laid_unicode_utf8_first : DataW Unit := Go.Pinned.utf8First

/-- 'metrolablaw15.GradesReads': WHATEVER THE INPUT: true; the input reads as it did. -/
def gradesReadsSpec : ChangeSpec := { name := "gradesReads", fn := fun _ => fun
  | [d1, d2] => { results := [.lit (.bool true)], args := [d1, d2] }
  | _ => none }
def gradesReadsRow : OpenClaim := { program := "ythifdgddegpbjaadoor", sum := "014c2976f42ef7696c721b9aed44fd6d5032f6df4948c906fce30d85f784fe86", func := "metrolab/metrolablaw15.GradesReads", spec := "gradesReads", inPlace := ["internal/abi.NoEscape", "internal/bytealg.MakeNoZero", "internal/bytealg.IndexByteString", "internal/bytealg.IndexString"], unfollowed := true, recurses := true, named := ["unicode/utf8.first", "unicode/utf8.acceptRanges", "unicode.CaseRanges", "internal/bytealg.MaxLen", "strconv.ErrSyntax", "strconv.ErrRange", "internal/strconv.uint64pow10", "math/bits.deBruijn32tab", "math/bits.deBruijn64tab", "metrolab/grades.bases", "metrolab/grades.factors", "metrolab/grades.ends"], apart := false, laid := [("math/bits.deBruijn32tab", laid_math_bits_deBruijn32tab), ("math/bits.deBruijn64tab", laid_math_bits_deBruijn64tab), ("internal/strconv.uint64pow10", laid_internal_strconv_uint64pow10), ("unicode/utf8.acceptRanges", laid_unicode_utf8_acceptRanges), ("strconv.ErrRange", laid_strconv_ErrRange), ("strconv.ErrSyntax", laid_strconv_ErrSyntax), ("metrolab/grades.ends", laid_metrolab_grades_ends), ("metrolab/grades.bases", laid_metrolab_grades_bases), ("metrolab/grades.factors", laid_metrolab_grades_factors), ("unicode.CaseRanges", laid_unicode_CaseRanges), ("unicode/utf8.first", laid_unicode_utf8_first)] }
def GradesReadsSaid : Prop := gradesReadsRow.holds Tryd.pinned (OpenSpec.ofChange gradesReadsSpec)

/-- ITS FALSE NEIGHBOUR: 'it returns false'. Refute it at one input. -/
def gradesReadsWrong : ChangeSpec := { name := "gradesReads", fn := fun _ => fun
  | [d1, d2] => { results := [.lit (.bool false)], args := [d1, d2] }
  | _ => none }
def GradesReadsWrongFalsely : Prop := gradesReadsRow.holds Tryd.pinned (OpenSpec.ofChange gradesReadsWrong)

/-- 'metrolablaw15.GradesMeasures': WHATEVER THE INPUT: true; the input reads as it did. -/
def gradesMeasuresSpec : ChangeSpec := { name := "gradesMeasures", fn := fun _ => fun
  | [d1, d2] => { results := [.lit (.bool true)], args := [d1, d2] }
  | _ => none }
def gradesMeasuresRow : OpenClaim := { program := "ythifdgddegpbjaadoor", sum := "014c2976f42ef7696c721b9aed44fd6d5032f6df4948c906fce30d85f784fe86", func := "metrolab/metrolablaw15.GradesMeasures", spec := "gradesMeasures", inPlace := ["internal/abi.NoEscape", "internal/bytealg.MakeNoZero", "internal/bytealg.IndexByteString", "internal/bytealg.IndexString"], unfollowed := true, recurses := true, named := ["metrolab/grades.ends", "metrolab/grades.bases", "metrolab/grades.factors", "unicode/utf8.first", "unicode/utf8.acceptRanges", "unicode.CaseRanges", "internal/bytealg.MaxLen", "strconv.ErrSyntax", "strconv.ErrRange", "internal/strconv.uint64pow10", "math/bits.deBruijn32tab", "math/bits.deBruijn64tab"], apart := false, laid := [("math/bits.deBruijn32tab", laid_math_bits_deBruijn32tab), ("math/bits.deBruijn64tab", laid_math_bits_deBruijn64tab), ("internal/strconv.uint64pow10", laid_internal_strconv_uint64pow10), ("unicode/utf8.acceptRanges", laid_unicode_utf8_acceptRanges), ("strconv.ErrRange", laid_strconv_ErrRange), ("strconv.ErrSyntax", laid_strconv_ErrSyntax), ("metrolab/grades.ends", laid_metrolab_grades_ends), ("metrolab/grades.bases", laid_metrolab_grades_bases), ("metrolab/grades.factors", laid_metrolab_grades_factors), ("unicode.CaseRanges", laid_unicode_CaseRanges), ("unicode/utf8.first", laid_unicode_utf8_first)] }
def GradesMeasuresSaid : Prop := gradesMeasuresRow.holds Tryd.pinned (OpenSpec.ofChange gradesMeasuresSpec)

/-- ITS FALSE NEIGHBOUR: 'it returns false'. Refute it at one input. -/
def gradesMeasuresWrong : ChangeSpec := { name := "gradesMeasures", fn := fun _ => fun
  | [d1, d2] => { results := [.lit (.bool false)], args := [d1, d2] }
  | _ => none }
def GradesMeasuresWrongFalsely : Prop := gradesMeasuresRow.holds Tryd.pinned (OpenSpec.ofChange gradesMeasuresWrong)

/-- 'metrolablaw15.GradesDeviates': WHATEVER THE INPUT: true; the input reads as it did. -/
def gradesDeviatesSpec : ChangeSpec := { name := "gradesDeviates", fn := fun _ => fun
  | [d1, d2] => { results := [.lit (.bool true)], args := [d1, d2] }
  | _ => none }
def gradesDeviatesRow : OpenClaim := { program := "ythifdgddegpbjaadoor", sum := "014c2976f42ef7696c721b9aed44fd6d5032f6df4948c906fce30d85f784fe86", func := "metrolab/metrolablaw15.GradesDeviates", spec := "gradesDeviates", inPlace := ["internal/abi.NoEscape", "internal/bytealg.MakeNoZero", "internal/bytealg.IndexByteString", "internal/bytealg.IndexString"], unfollowed := true, recurses := true, named := ["metrolab/grades.bases", "metrolab/grades.factors", "metrolab/grades.ends", "unicode/utf8.first", "unicode/utf8.acceptRanges", "unicode.CaseRanges", "internal/bytealg.MaxLen", "strconv.ErrSyntax", "strconv.ErrRange", "internal/strconv.uint64pow10", "math/bits.deBruijn32tab", "math/bits.deBruijn64tab"], apart := false, laid := [("math/bits.deBruijn32tab", laid_math_bits_deBruijn32tab), ("math/bits.deBruijn64tab", laid_math_bits_deBruijn64tab), ("internal/strconv.uint64pow10", laid_internal_strconv_uint64pow10), ("unicode/utf8.acceptRanges", laid_unicode_utf8_acceptRanges), ("strconv.ErrRange", laid_strconv_ErrRange), ("strconv.ErrSyntax", laid_strconv_ErrSyntax), ("metrolab/grades.ends", laid_metrolab_grades_ends), ("metrolab/grades.bases", laid_metrolab_grades_bases), ("metrolab/grades.factors", laid_metrolab_grades_factors), ("unicode.CaseRanges", laid_unicode_CaseRanges), ("unicode/utf8.first", laid_unicode_utf8_first)] }
def GradesDeviatesSaid : Prop := gradesDeviatesRow.holds Tryd.pinned (OpenSpec.ofChange gradesDeviatesSpec)

/-- ITS FALSE NEIGHBOUR: 'it returns false'. Refute it at one input. -/
def gradesDeviatesWrong : ChangeSpec := { name := "gradesDeviates", fn := fun _ => fun
  | [d1, d2] => { results := [.lit (.bool false)], args := [d1, d2] }
  | _ => none }
def GradesDeviatesWrongFalsely : Prop := gradesDeviatesRow.holds Tryd.pinned (OpenSpec.ofChange gradesDeviatesWrong)

/-- 'metrolablaw15.GradesFinds': WHATEVER THE INPUT: true; the input reads as it did. -/
def gradesFindsSpec : ChangeSpec := { name := "gradesFinds", fn := fun _ => fun
  | [d1, d2, d3] => { results := [.lit (.bool true)], args := [d1, d2, d3] }
  | _ => none }
def gradesFindsRow : OpenClaim := { program := "ythifdgddegpbjaadoor", sum := "014c2976f42ef7696c721b9aed44fd6d5032f6df4948c906fce30d85f784fe86", func := "metrolab/metrolablaw15.GradesFinds", spec := "gradesFinds", inPlace := ["internal/abi.NoEscape", "internal/bytealg.MakeNoZero", "internal/bytealg.IndexByteString", "internal/bytealg.IndexString"], unfollowed := true, recurses := true, named := ["metrolab/grades.bases", "metrolab/grades.factors", "metrolab/grades.ends", "unicode/utf8.first", "unicode/utf8.acceptRanges", "unicode.CaseRanges", "internal/bytealg.MaxLen", "strconv.ErrSyntax", "strconv.ErrRange", "internal/strconv.uint64pow10", "math/bits.deBruijn32tab", "math/bits.deBruijn64tab"], apart := false, laid := [("math/bits.deBruijn32tab", laid_math_bits_deBruijn32tab), ("math/bits.deBruijn64tab", laid_math_bits_deBruijn64tab), ("internal/strconv.uint64pow10", laid_internal_strconv_uint64pow10), ("unicode/utf8.acceptRanges", laid_unicode_utf8_acceptRanges), ("strconv.ErrRange", laid_strconv_ErrRange), ("strconv.ErrSyntax", laid_strconv_ErrSyntax), ("metrolab/grades.ends", laid_metrolab_grades_ends), ("metrolab/grades.bases", laid_metrolab_grades_bases), ("metrolab/grades.factors", laid_metrolab_grades_factors), ("unicode.CaseRanges", laid_unicode_CaseRanges), ("unicode/utf8.first", laid_unicode_utf8_first)] }
def GradesFindsSaid : Prop := gradesFindsRow.holds Tryd.pinned (OpenSpec.ofChange gradesFindsSpec)

/-- ITS FALSE NEIGHBOUR: 'it returns false'. Refute it at one input. -/
def gradesFindsWrong : ChangeSpec := { name := "gradesFinds", fn := fun _ => fun
  | [d1, d2, d3] => { results := [.lit (.bool false)], args := [d1, d2, d3] }
  | _ => none }
def GradesFindsWrongFalsely : Prop := gradesFindsRow.holds Tryd.pinned (OpenSpec.ofChange gradesFindsWrong)

/-- 'metrolablaw15.GradesGrows': WHATEVER THE INPUT: true; the input reads as it did. -/
def gradesGrowsSpec : ChangeSpec := { name := "gradesGrows", fn := fun _ => fun
  | [d1, d2, d3] => { results := [.lit (.bool true)], args := [d1, d2, d3] }
  | _ => none }
def gradesGrowsRow : OpenClaim := { program := "ythifdgddegpbjaadoor", sum := "014c2976f42ef7696c721b9aed44fd6d5032f6df4948c906fce30d85f784fe86", func := "metrolab/metrolablaw15.GradesGrows", spec := "gradesGrows", inPlace := ["internal/abi.NoEscape", "internal/bytealg.MakeNoZero", "internal/bytealg.IndexByteString", "internal/bytealg.IndexString"], unfollowed := true, recurses := true, named := ["unicode/utf8.first", "unicode/utf8.acceptRanges", "unicode.CaseRanges", "internal/bytealg.MaxLen", "strconv.ErrSyntax", "strconv.ErrRange", "internal/strconv.uint64pow10", "math/bits.deBruijn32tab", "math/bits.deBruijn64tab", "metrolab/grades.bases", "metrolab/grades.factors", "metrolab/grades.ends"], apart := false, laid := [("math/bits.deBruijn32tab", laid_math_bits_deBruijn32tab), ("math/bits.deBruijn64tab", laid_math_bits_deBruijn64tab), ("internal/strconv.uint64pow10", laid_internal_strconv_uint64pow10), ("unicode/utf8.acceptRanges", laid_unicode_utf8_acceptRanges), ("strconv.ErrRange", laid_strconv_ErrRange), ("strconv.ErrSyntax", laid_strconv_ErrSyntax), ("metrolab/grades.ends", laid_metrolab_grades_ends), ("metrolab/grades.bases", laid_metrolab_grades_bases), ("metrolab/grades.factors", laid_metrolab_grades_factors), ("unicode.CaseRanges", laid_unicode_CaseRanges), ("unicode/utf8.first", laid_unicode_utf8_first)] }
def GradesGrowsSaid : Prop := gradesGrowsRow.holds Tryd.pinned (OpenSpec.ofChange gradesGrowsSpec)

/-- ITS FALSE NEIGHBOUR: 'it returns false'. Refute it at one input. -/
def gradesGrowsWrong : ChangeSpec := { name := "gradesGrows", fn := fun _ => fun
  | [d1, d2, d3] => { results := [.lit (.bool false)], args := [d1, d2, d3] }
  | _ => none }
def GradesGrowsWrongFalsely : Prop := gradesGrowsRow.holds Tryd.pinned (OpenSpec.ofChange gradesGrowsWrong)

/-- 'metrolablaw15.GradesMirrors': WHATEVER THE INPUT: true; the input reads as it did. -/
def gradesMirrorsSpec : ChangeSpec := { name := "gradesMirrors", fn := fun _ => fun
  | [d1, d2] => { results := [.lit (.bool true)], args := [d1, d2] }
  | _ => none }
def gradesMirrorsRow : OpenClaim := { program := "ythifdgddegpbjaadoor", sum := "014c2976f42ef7696c721b9aed44fd6d5032f6df4948c906fce30d85f784fe86", func := "metrolab/metrolablaw15.GradesMirrors", spec := "gradesMirrors", inPlace := ["internal/abi.NoEscape", "internal/bytealg.MakeNoZero", "internal/bytealg.IndexByteString", "internal/bytealg.IndexString"], unfollowed := true, recurses := true, named := ["unicode/utf8.first", "unicode/utf8.acceptRanges", "unicode.CaseRanges", "internal/bytealg.MaxLen", "strconv.ErrSyntax", "strconv.ErrRange", "internal/strconv.uint64pow10", "math/bits.deBruijn32tab", "math/bits.deBruijn64tab", "metrolab/grades.bases", "metrolab/grades.factors", "metrolab/grades.ends"], apart := false, laid := [("math/bits.deBruijn32tab", laid_math_bits_deBruijn32tab), ("math/bits.deBruijn64tab", laid_math_bits_deBruijn64tab), ("internal/strconv.uint64pow10", laid_internal_strconv_uint64pow10), ("unicode/utf8.acceptRanges", laid_unicode_utf8_acceptRanges), ("strconv.ErrRange", laid_strconv_ErrRange), ("strconv.ErrSyntax", laid_strconv_ErrSyntax), ("metrolab/grades.ends", laid_metrolab_grades_ends), ("metrolab/grades.bases", laid_metrolab_grades_bases), ("metrolab/grades.factors", laid_metrolab_grades_factors), ("unicode.CaseRanges", laid_unicode_CaseRanges), ("unicode/utf8.first", laid_unicode_utf8_first)] }
def GradesMirrorsSaid : Prop := gradesMirrorsRow.holds Tryd.pinned (OpenSpec.ofChange gradesMirrorsSpec)

/-- ITS FALSE NEIGHBOUR: 'it returns false'. Refute it at one input. -/
def gradesMirrorsWrong : ChangeSpec := { name := "gradesMirrors", fn := fun _ => fun
  | [d1, d2] => { results := [.lit (.bool false)], args := [d1, d2] }
  | _ => none }
def GradesMirrorsWrongFalsely : Prop := gradesMirrorsRow.holds Tryd.pinned (OpenSpec.ofChange gradesMirrorsWrong)

/-- 'metrolablaw15.GradesReturns': WHATEVER THE INPUT: true; the input reads as it did. -/
def gradesReturnsSpec : ChangeSpec := { name := "gradesReturns", fn := fun _ => fun
  | [d1, d2] => { results := [.lit (.bool true)], args := [d1, d2] }
  | _ => none }
def gradesReturnsRow : OpenClaim := { program := "ythifdgddegpbjaadoor", sum := "014c2976f42ef7696c721b9aed44fd6d5032f6df4948c906fce30d85f784fe86", func := "metrolab/metrolablaw15.GradesReturns", spec := "gradesReturns", inPlace := ["internal/abi.NoEscape", "internal/bytealg.MakeNoZero", "internal/bytealg.IndexByteString", "internal/bytealg.IndexString"], unfollowed := true, recurses := true, named := ["unicode/utf8.first", "unicode/utf8.acceptRanges", "unicode.CaseRanges", "internal/bytealg.MaxLen", "strconv.ErrSyntax", "strconv.ErrRange", "internal/strconv.uint64pow10", "math/bits.deBruijn32tab", "math/bits.deBruijn64tab", "metrolab/grades.bases", "metrolab/grades.factors", "metrolab/grades.ends"], apart := false, laid := [("math/bits.deBruijn32tab", laid_math_bits_deBruijn32tab), ("math/bits.deBruijn64tab", laid_math_bits_deBruijn64tab), ("internal/strconv.uint64pow10", laid_internal_strconv_uint64pow10), ("unicode/utf8.acceptRanges", laid_unicode_utf8_acceptRanges), ("strconv.ErrRange", laid_strconv_ErrRange), ("strconv.ErrSyntax", laid_strconv_ErrSyntax), ("metrolab/grades.ends", laid_metrolab_grades_ends), ("metrolab/grades.bases", laid_metrolab_grades_bases), ("metrolab/grades.factors", laid_metrolab_grades_factors), ("unicode.CaseRanges", laid_unicode_CaseRanges), ("unicode/utf8.first", laid_unicode_utf8_first)] }
def GradesReturnsSaid : Prop := gradesReturnsRow.holds Tryd.pinned (OpenSpec.ofChange gradesReturnsSpec)

/-- ITS FALSE NEIGHBOUR: 'it returns false'. Refute it at one input. -/
def gradesReturnsWrong : ChangeSpec := { name := "gradesReturns", fn := fun _ => fun
  | [d1, d2] => { results := [.lit (.bool false)], args := [d1, d2] }
  | _ => none }
def GradesReturnsWrongFalsely : Prop := gradesReturnsRow.holds Tryd.pinned (OpenSpec.ofChange gradesReturnsWrong)

/-- 'metrolablaw15.GradesBounds': WHATEVER THE INPUT: true; the input reads as it did. -/
def gradesBoundsSpec : ChangeSpec := { name := "gradesBounds", fn := fun _ => fun
  | [d1, d2] => { results := [.lit (.bool true)], args := [d1, d2] }
  | _ => none }
def gradesBoundsRow : OpenClaim := { program := "ythifdgddegpbjaadoor", sum := "014c2976f42ef7696c721b9aed44fd6d5032f6df4948c906fce30d85f784fe86", func := "metrolab/metrolablaw15.GradesBounds", spec := "gradesBounds", inPlace := ["internal/abi.NoEscape", "internal/bytealg.MakeNoZero", "internal/bytealg.IndexByteString", "internal/bytealg.IndexString"], unfollowed := true, recurses := true, named := ["unicode/utf8.first", "unicode/utf8.acceptRanges", "unicode.CaseRanges", "internal/bytealg.MaxLen", "strconv.ErrSyntax", "strconv.ErrRange", "internal/strconv.uint64pow10", "math/bits.deBruijn32tab", "math/bits.deBruijn64tab", "metrolab/grades.bases", "metrolab/grades.factors", "metrolab/grades.ends"], apart := false, laid := [("math/bits.deBruijn32tab", laid_math_bits_deBruijn32tab), ("math/bits.deBruijn64tab", laid_math_bits_deBruijn64tab), ("internal/strconv.uint64pow10", laid_internal_strconv_uint64pow10), ("unicode/utf8.acceptRanges", laid_unicode_utf8_acceptRanges), ("strconv.ErrRange", laid_strconv_ErrRange), ("strconv.ErrSyntax", laid_strconv_ErrSyntax), ("metrolab/grades.ends", laid_metrolab_grades_ends), ("metrolab/grades.bases", laid_metrolab_grades_bases), ("metrolab/grades.factors", laid_metrolab_grades_factors), ("unicode.CaseRanges", laid_unicode_CaseRanges), ("unicode/utf8.first", laid_unicode_utf8_first)] }
def GradesBoundsSaid : Prop := gradesBoundsRow.holds Tryd.pinned (OpenSpec.ofChange gradesBoundsSpec)

/-- ITS FALSE NEIGHBOUR: 'it returns false'. Refute it at one input. -/
def gradesBoundsWrong : ChangeSpec := { name := "gradesBounds", fn := fun _ => fun
  | [d1, d2] => { results := [.lit (.bool false)], args := [d1, d2] }
  | _ => none }
def GradesBoundsWrongFalsely : Prop := gradesBoundsRow.holds Tryd.pinned (OpenSpec.ofChange gradesBoundsWrong)

/- THE SECOND FORM. 'bulk': how many values and letters a reading holds, each counted each time it is reached (what is shared counts as often as it is met; a slice's spare places count too). A statement '..UptoSaid' is the law's where the arguments, and the package variables that the reading takes, are together of bulk at most 1048576: NARROWER than '..Said'. Prove '..Said' where nothing that the law and all that it calls make is longer than what came in: it says more and counts as full. Else prove '..UptoSaid'. A law counts once. -/
mutual
def uptoBulk {H : Type} : DataW H → Nat
  | .lit (.string bytes) => bytes.length + 1
  | .lit _ => 1
  | .nil => 1
  | .ptr d => uptoBulk d + 1
  | .slice elems spare => uptoBulkAll elems + uptoBulkAll spare + 1
  | .agg parts => uptoBulkAll parts + 1
  | .iface _ d => uptoBulk d + 1
  | .map entries => uptoBulkEntries entries + 1
  | .held _ => 1
def uptoBulkAll {H : Type} : List (DataW H) → Nat
  | [] => 0
  | d :: r => uptoBulk d + uptoBulkAll r
def uptoBulkEntries {H : Type} : List (Lit × DataW H) → Nat
  | [] => 0
  | x :: r => uptoBulkEntry x + uptoBulkEntries r
def uptoBulkEntry {H : Type} : Lit × DataW H → Nat
  | (.string bytes, d) => bytes.length + uptoBulk d + 1
  | (_, d) => uptoBulk d + 1
 end
def uptoSmall : (H : Type) → List (DataW H) → Bool := fun _ ds => decide (uptoBulkAll ds ≤ 1048576)
def OpenSpec.upto (s : _root_.Go.ChangeSpec) : _root_.Go.OpenSpec := { _root_.Go.OpenSpec.ofChange s with cond := some uptoSmall }

/-- 'metrolablaw15.GradesReads', WHERE WHAT IT READS IS OF BULK AT MOST 1048576: true; the input reads as it did. -/
def gradesReadsUptoRow : OpenClaim := { program := "ythifdgddegpbjaadoor", sum := "014c2976f42ef7696c721b9aed44fd6d5032f6df4948c906fce30d85f784fe86", func := "metrolab/metrolablaw15.GradesReads", spec := "gradesReads", inPlace := ["internal/abi.NoEscape", "internal/bytealg.MakeNoZero", "internal/bytealg.IndexByteString", "internal/bytealg.IndexString"], unfollowed := true, recurses := true, named := ["unicode/utf8.first", "unicode/utf8.acceptRanges", "unicode.CaseRanges", "internal/bytealg.MaxLen", "strconv.ErrSyntax", "strconv.ErrRange", "internal/strconv.uint64pow10", "math/bits.deBruijn32tab", "math/bits.deBruijn64tab", "metrolab/grades.bases", "metrolab/grades.factors", "metrolab/grades.ends"], apart := false, laid := [("math/bits.deBruijn32tab", laid_math_bits_deBruijn32tab), ("math/bits.deBruijn64tab", laid_math_bits_deBruijn64tab), ("internal/strconv.uint64pow10", laid_internal_strconv_uint64pow10), ("unicode/utf8.acceptRanges", laid_unicode_utf8_acceptRanges), ("strconv.ErrRange", laid_strconv_ErrRange), ("strconv.ErrSyntax", laid_strconv_ErrSyntax), ("metrolab/grades.ends", laid_metrolab_grades_ends), ("metrolab/grades.bases", laid_metrolab_grades_bases), ("metrolab/grades.factors", laid_metrolab_grades_factors), ("unicode.CaseRanges", laid_unicode_CaseRanges), ("unicode/utf8.first", laid_unicode_utf8_first)], narrowed := true }
def GradesReadsUptoSaid : Prop := gradesReadsUptoRow.holds Tryd.pinned (OpenSpec.upto gradesReadsSpec)

/-- 'metrolablaw15.GradesMeasures', WHERE WHAT IT READS IS OF BULK AT MOST 1048576: true; the input reads as it did. -/
def gradesMeasuresUptoRow : OpenClaim := { program := "ythifdgddegpbjaadoor", sum := "014c2976f42ef7696c721b9aed44fd6d5032f6df4948c906fce30d85f784fe86", func := "metrolab/metrolablaw15.GradesMeasures", spec := "gradesMeasures", inPlace := ["internal/abi.NoEscape", "internal/bytealg.MakeNoZero", "internal/bytealg.IndexByteString", "internal/bytealg.IndexString"], unfollowed := true, recurses := true, named := ["metrolab/grades.ends", "metrolab/grades.bases", "metrolab/grades.factors", "unicode/utf8.first", "unicode/utf8.acceptRanges", "unicode.CaseRanges", "internal/bytealg.MaxLen", "strconv.ErrSyntax", "strconv.ErrRange", "internal/strconv.uint64pow10", "math/bits.deBruijn32tab", "math/bits.deBruijn64tab"], apart := false, laid := [("math/bits.deBruijn32tab", laid_math_bits_deBruijn32tab), ("math/bits.deBruijn64tab", laid_math_bits_deBruijn64tab), ("internal/strconv.uint64pow10", laid_internal_strconv_uint64pow10), ("unicode/utf8.acceptRanges", laid_unicode_utf8_acceptRanges), ("strconv.ErrRange", laid_strconv_ErrRange), ("strconv.ErrSyntax", laid_strconv_ErrSyntax), ("metrolab/grades.ends", laid_metrolab_grades_ends), ("metrolab/grades.bases", laid_metrolab_grades_bases), ("metrolab/grades.factors", laid_metrolab_grades_factors), ("unicode.CaseRanges", laid_unicode_CaseRanges), ("unicode/utf8.first", laid_unicode_utf8_first)], narrowed := true }
def GradesMeasuresUptoSaid : Prop := gradesMeasuresUptoRow.holds Tryd.pinned (OpenSpec.upto gradesMeasuresSpec)

/-- 'metrolablaw15.GradesDeviates', WHERE WHAT IT READS IS OF BULK AT MOST 1048576: true; the input reads as it did. -/
def gradesDeviatesUptoRow : OpenClaim := { program := "ythifdgddegpbjaadoor", sum := "014c2976f42ef7696c721b9aed44fd6d5032f6df4948c906fce30d85f784fe86", func := "metrolab/metrolablaw15.GradesDeviates", spec := "gradesDeviates", inPlace := ["internal/abi.NoEscape", "internal/bytealg.MakeNoZero", "internal/bytealg.IndexByteString", "internal/bytealg.IndexString"], unfollowed := true, recurses := true, named := ["metrolab/grades.bases", "metrolab/grades.factors", "metrolab/grades.ends", "unicode/utf8.first", "unicode/utf8.acceptRanges", "unicode.CaseRanges", "internal/bytealg.MaxLen", "strconv.ErrSyntax", "strconv.ErrRange", "internal/strconv.uint64pow10", "math/bits.deBruijn32tab", "math/bits.deBruijn64tab"], apart := false, laid := [("math/bits.deBruijn32tab", laid_math_bits_deBruijn32tab), ("math/bits.deBruijn64tab", laid_math_bits_deBruijn64tab), ("internal/strconv.uint64pow10", laid_internal_strconv_uint64pow10), ("unicode/utf8.acceptRanges", laid_unicode_utf8_acceptRanges), ("strconv.ErrRange", laid_strconv_ErrRange), ("strconv.ErrSyntax", laid_strconv_ErrSyntax), ("metrolab/grades.ends", laid_metrolab_grades_ends), ("metrolab/grades.bases", laid_metrolab_grades_bases), ("metrolab/grades.factors", laid_metrolab_grades_factors), ("unicode.CaseRanges", laid_unicode_CaseRanges), ("unicode/utf8.first", laid_unicode_utf8_first)], narrowed := true }
def GradesDeviatesUptoSaid : Prop := gradesDeviatesUptoRow.holds Tryd.pinned (OpenSpec.upto gradesDeviatesSpec)

/-- 'metrolablaw15.GradesFinds', WHERE WHAT IT READS IS OF BULK AT MOST 1048576: true; the input reads as it did. -/
def gradesFindsUptoRow : OpenClaim := { program := "ythifdgddegpbjaadoor", sum := "014c2976f42ef7696c721b9aed44fd6d5032f6df4948c906fce30d85f784fe86", func := "metrolab/metrolablaw15.GradesFinds", spec := "gradesFinds", inPlace := ["internal/abi.NoEscape", "internal/bytealg.MakeNoZero", "internal/bytealg.IndexByteString", "internal/bytealg.IndexString"], unfollowed := true, recurses := true, named := ["metrolab/grades.bases", "metrolab/grades.factors", "metrolab/grades.ends", "unicode/utf8.first", "unicode/utf8.acceptRanges", "unicode.CaseRanges", "internal/bytealg.MaxLen", "strconv.ErrSyntax", "strconv.ErrRange", "internal/strconv.uint64pow10", "math/bits.deBruijn32tab", "math/bits.deBruijn64tab"], apart := false, laid := [("math/bits.deBruijn32tab", laid_math_bits_deBruijn32tab), ("math/bits.deBruijn64tab", laid_math_bits_deBruijn64tab), ("internal/strconv.uint64pow10", laid_internal_strconv_uint64pow10), ("unicode/utf8.acceptRanges", laid_unicode_utf8_acceptRanges), ("strconv.ErrRange", laid_strconv_ErrRange), ("strconv.ErrSyntax", laid_strconv_ErrSyntax), ("metrolab/grades.ends", laid_metrolab_grades_ends), ("metrolab/grades.bases", laid_metrolab_grades_bases), ("metrolab/grades.factors", laid_metrolab_grades_factors), ("unicode.CaseRanges", laid_unicode_CaseRanges), ("unicode/utf8.first", laid_unicode_utf8_first)], narrowed := true }
def GradesFindsUptoSaid : Prop := gradesFindsUptoRow.holds Tryd.pinned (OpenSpec.upto gradesFindsSpec)

/-- 'metrolablaw15.GradesGrows', WHERE WHAT IT READS IS OF BULK AT MOST 1048576: true; the input reads as it did. -/
def gradesGrowsUptoRow : OpenClaim := { program := "ythifdgddegpbjaadoor", sum := "014c2976f42ef7696c721b9aed44fd6d5032f6df4948c906fce30d85f784fe86", func := "metrolab/metrolablaw15.GradesGrows", spec := "gradesGrows", inPlace := ["internal/abi.NoEscape", "internal/bytealg.MakeNoZero", "internal/bytealg.IndexByteString", "internal/bytealg.IndexString"], unfollowed := true, recurses := true, named := ["unicode/utf8.first", "unicode/utf8.acceptRanges", "unicode.CaseRanges", "internal/bytealg.MaxLen", "strconv.ErrSyntax", "strconv.ErrRange", "internal/strconv.uint64pow10", "math/bits.deBruijn32tab", "math/bits.deBruijn64tab", "metrolab/grades.bases", "metrolab/grades.factors", "metrolab/grades.ends"], apart := false, laid := [("math/bits.deBruijn32tab", laid_math_bits_deBruijn32tab), ("math/bits.deBruijn64tab", laid_math_bits_deBruijn64tab), ("internal/strconv.uint64pow10", laid_internal_strconv_uint64pow10), ("unicode/utf8.acceptRanges", laid_unicode_utf8_acceptRanges), ("strconv.ErrRange", laid_strconv_ErrRange), ("strconv.ErrSyntax", laid_strconv_ErrSyntax), ("metrolab/grades.ends", laid_metrolab_grades_ends), ("metrolab/grades.bases", laid_metrolab_grades_bases), ("metrolab/grades.factors", laid_metrolab_grades_factors), ("unicode.CaseRanges", laid_unicode_CaseRanges), ("unicode/utf8.first", laid_unicode_utf8_first)], narrowed := true }
def GradesGrowsUptoSaid : Prop := gradesGrowsUptoRow.holds Tryd.pinned (OpenSpec.upto gradesGrowsSpec)

/-- 'metrolablaw15.GradesMirrors', WHERE WHAT IT READS IS OF BULK AT MOST 1048576: true; the input reads as it did. -/
def gradesMirrorsUptoRow : OpenClaim := { program := "ythifdgddegpbjaadoor", sum := "014c2976f42ef7696c721b9aed44fd6d5032f6df4948c906fce30d85f784fe86", func := "metrolab/metrolablaw15.GradesMirrors", spec := "gradesMirrors", inPlace := ["internal/abi.NoEscape", "internal/bytealg.MakeNoZero", "internal/bytealg.IndexByteString", "internal/bytealg.IndexString"], unfollowed := true, recurses := true, named := ["unicode/utf8.first", "unicode/utf8.acceptRanges", "unicode.CaseRanges", "internal/bytealg.MaxLen", "strconv.ErrSyntax", "strconv.ErrRange", "internal/strconv.uint64pow10", "math/bits.deBruijn32tab", "math/bits.deBruijn64tab", "metrolab/grades.bases", "metrolab/grades.factors", "metrolab/grades.ends"], apart := false, laid := [("math/bits.deBruijn32tab", laid_math_bits_deBruijn32tab), ("math/bits.deBruijn64tab", laid_math_bits_deBruijn64tab), ("internal/strconv.uint64pow10", laid_internal_strconv_uint64pow10), ("unicode/utf8.acceptRanges", laid_unicode_utf8_acceptRanges), ("strconv.ErrRange", laid_strconv_ErrRange), ("strconv.ErrSyntax", laid_strconv_ErrSyntax), ("metrolab/grades.ends", laid_metrolab_grades_ends), ("metrolab/grades.bases", laid_metrolab_grades_bases), ("metrolab/grades.factors", laid_metrolab_grades_factors), ("unicode.CaseRanges", laid_unicode_CaseRanges), ("unicode/utf8.first", laid_unicode_utf8_first)], narrowed := true }
def GradesMirrorsUptoSaid : Prop := gradesMirrorsUptoRow.holds Tryd.pinned (OpenSpec.upto gradesMirrorsSpec)

/-- 'metrolablaw15.GradesReturns', WHERE WHAT IT READS IS OF BULK AT MOST 1048576: true; the input reads as it did. -/
def gradesReturnsUptoRow : OpenClaim := { program := "ythifdgddegpbjaadoor", sum := "014c2976f42ef7696c721b9aed44fd6d5032f6df4948c906fce30d85f784fe86", func := "metrolab/metrolablaw15.GradesReturns", spec := "gradesReturns", inPlace := ["internal/abi.NoEscape", "internal/bytealg.MakeNoZero", "internal/bytealg.IndexByteString", "internal/bytealg.IndexString"], unfollowed := true, recurses := true, named := ["unicode/utf8.first", "unicode/utf8.acceptRanges", "unicode.CaseRanges", "internal/bytealg.MaxLen", "strconv.ErrSyntax", "strconv.ErrRange", "internal/strconv.uint64pow10", "math/bits.deBruijn32tab", "math/bits.deBruijn64tab", "metrolab/grades.bases", "metrolab/grades.factors", "metrolab/grades.ends"], apart := false, laid := [("math/bits.deBruijn32tab", laid_math_bits_deBruijn32tab), ("math/bits.deBruijn64tab", laid_math_bits_deBruijn64tab), ("internal/strconv.uint64pow10", laid_internal_strconv_uint64pow10), ("unicode/utf8.acceptRanges", laid_unicode_utf8_acceptRanges), ("strconv.ErrRange", laid_strconv_ErrRange), ("strconv.ErrSyntax", laid_strconv_ErrSyntax), ("metrolab/grades.ends", laid_metrolab_grades_ends), ("metrolab/grades.bases", laid_metrolab_grades_bases), ("metrolab/grades.factors", laid_metrolab_grades_factors), ("unicode.CaseRanges", laid_unicode_CaseRanges), ("unicode/utf8.first", laid_unicode_utf8_first)], narrowed := true }
def GradesReturnsUptoSaid : Prop := gradesReturnsUptoRow.holds Tryd.pinned (OpenSpec.upto gradesReturnsSpec)

/-- 'metrolablaw15.GradesBounds', WHERE WHAT IT READS IS OF BULK AT MOST 1048576: true; the input reads as it did. -/
def gradesBoundsUptoRow : OpenClaim := { program := "ythifdgddegpbjaadoor", sum := "014c2976f42ef7696c721b9aed44fd6d5032f6df4948c906fce30d85f784fe86", func := "metrolab/metrolablaw15.GradesBounds", spec := "gradesBounds", inPlace := ["internal/abi.NoEscape", "internal/bytealg.MakeNoZero", "internal/bytealg.IndexByteString", "internal/bytealg.IndexString"], unfollowed := true, recurses := true, named := ["unicode/utf8.first", "unicode/utf8.acceptRanges", "unicode.CaseRanges", "internal/bytealg.MaxLen", "strconv.ErrSyntax", "strconv.ErrRange", "internal/strconv.uint64pow10", "math/bits.deBruijn32tab", "math/bits.deBruijn64tab", "metrolab/grades.bases", "metrolab/grades.factors", "metrolab/grades.ends"], apart := false, laid := [("math/bits.deBruijn32tab", laid_math_bits_deBruijn32tab), ("math/bits.deBruijn64tab", laid_math_bits_deBruijn64tab), ("internal/strconv.uint64pow10", laid_internal_strconv_uint64pow10), ("unicode/utf8.acceptRanges", laid_unicode_utf8_acceptRanges), ("strconv.ErrRange", laid_strconv_ErrRange), ("strconv.ErrSyntax", laid_strconv_ErrSyntax), ("metrolab/grades.ends", laid_metrolab_grades_ends), ("metrolab/grades.bases", laid_metrolab_grades_bases), ("metrolab/grades.factors", laid_metrolab_grades_factors), ("unicode.CaseRanges", laid_unicode_CaseRanges), ("unicode/utf8.first", laid_unicode_utf8_first)], narrowed := true }
def GradesBoundsUptoSaid : Prop := gradesBoundsUptoRow.holds Tryd.pinned (OpenSpec.upto gradesBoundsSpec)

end Rows
end Go.Proofs.YthifdgddegpbjaaDoor
