/-
  NARROWER THAN 'FOR EVERY INPUT', by the rows' own cells (each row's printed sentence says how): CodecDecode: laid · CodecTable: laid · CodecAscii: laid · StreamOpen: laid · StreamCanon: laid · ScriptActs: laid · ScriptPair: laid · ScriptRooms: laid.
  DERIVED. THE GIVEN ROWS OF THIS SEAT. 8 by the template 'for every input the law returns true; each argument reads behind the call as it read before'; 0 by the template 'total and deterministic' (their statements: YtncpokioagpclaaGreatDoorTotals.lean).
  GIVEN WITH THE SEED: the statements are not yours to turn. If you find one false, say at which input.
  Laid BY PROGRAM, IN A SANDBOX (cutbox-rows.mjs): the forced cells as the released guide's own fill.sh prints them over the translation 7e1a19ee28373cbb… (all of the seat's roots in one cut). By AI agents, Wed Nov 11 2026. No macro, syntax, notation, axiom, sorry.
-/
import Derived.Test.YtncpokioagpclaaGreatDoorChecked
import GoSem.PinnedTables
import GoSem.Claim
import GoSem.ClaimJoined
import GoSem.ClaimMapViews
import Derived.JoinedTies
import Derived.KernelRfl
namespace Go.Proofs.YtncpokioagpclaaGreatDoor
/- THE CELL 'sum', in the pinned program and in every row, IS THE sha256 OF THE DUMP (.gsa) THAT YtncpokioagpclaaGreatDoorProg.lean LOADS. Nothing in Lean hashes anything: it is a label: what it is worth is what the hold of that sum in a sandbox is worth. -/
noncomputable def Tryz.pinned : Pinned := { name := "ytncpokioagpclaagreatdoor", sum := "7e1a19ee28373cbb543f22185c9fc70ec25534cce6f96b955edd591b4656777b", checked := Tryz.checked }
namespace Rows
def none {H : Type} : Left H := { results := [], args := [] }

/- WHAT THE LISTED PACKAGE-LEVEL VARIABLES READ AS WHEN THE CALL BEGINS. Each datum BY PROGRAM (the guide's laid-datum.mjs) off the statement by which the dump's own 'gosem.cut.vars' lays the variable. In a bare row this is a premise. The card (YtncpokioagpclaaGreatDoorCards.lean) ties it to the program's text. -/
def laid_lontar_viet_rows {H : Type} : DataW H := .agg [.agg [.lit (.int .i64 97), .lit (.int .i64 0), .agg [.lit (.int .i64 97), .lit (.int .i64 224), .lit (.int .i64 225), .lit (.int .i64 7843), .lit (.int .i64 227), .lit (.int .i64 7841)]], .agg [.lit (.int .i64 97), .lit (.int .i64 1), .agg [.lit (.int .i64 259), .lit (.int .i64 7857), .lit (.int .i64 7855), .lit (.int .i64 7859), .lit (.int .i64 7861), .lit (.int .i64 7863)]], .agg [.lit (.int .i64 97), .lit (.int .i64 2), .agg [.lit (.int .i64 226), .lit (.int .i64 7847), .lit (.int .i64 7845), .lit (.int .i64 7849), .lit (.int .i64 7851), .lit (.int .i64 7853)]], .agg [.lit (.int .i64 101), .lit (.int .i64 0), .agg [.lit (.int .i64 101), .lit (.int .i64 232), .lit (.int .i64 233), .lit (.int .i64 7867), .lit (.int .i64 7869), .lit (.int .i64 7865)]], .agg [.lit (.int .i64 101), .lit (.int .i64 2), .agg [.lit (.int .i64 234), .lit (.int .i64 7873), .lit (.int .i64 7871), .lit (.int .i64 7875), .lit (.int .i64 7877), .lit (.int .i64 7879)]], .agg [.lit (.int .i64 105), .lit (.int .i64 0), .agg [.lit (.int .i64 105), .lit (.int .i64 236), .lit (.int .i64 237), .lit (.int .i64 7881), .lit (.int .i64 297), .lit (.int .i64 7883)]], .agg [.lit (.int .i64 111), .lit (.int .i64 0), .agg [.lit (.int .i64 111), .lit (.int .i64 242), .lit (.int .i64 243), .lit (.int .i64 7887), .lit (.int .i64 245), .lit (.int .i64 7885)]], .agg [.lit (.int .i64 111), .lit (.int .i64 2), .agg [.lit (.int .i64 244), .lit (.int .i64 7891), .lit (.int .i64 7889), .lit (.int .i64 7893), .lit (.int .i64 7895), .lit (.int .i64 7897)]], .agg [.lit (.int .i64 111), .lit (.int .i64 3), .agg [.lit (.int .i64 417), .lit (.int .i64 7901), .lit (.int .i64 7899), .lit (.int .i64 7903), .lit (.int .i64 7905), .lit (.int .i64 7907)]], .agg [.lit (.int .i64 117), .lit (.int .i64 0), .agg [.lit (.int .i64 117), .lit (.int .i64 249), .lit (.int .i64 250), .lit (.int .i64 7911), .lit (.int .i64 361), .lit (.int .i64 7909)]], .agg [.lit (.int .i64 117), .lit (.int .i64 3), .agg [.lit (.int .i64 432), .lit (.int .i64 7915), .lit (.int .i64 7913), .lit (.int .i64 7917), .lit (.int .i64 7919), .lit (.int .i64 7921)]], .agg [.lit (.int .i64 121), .lit (.int .i64 0), .agg [.lit (.int .i64 121), .lit (.int .i64 7923), .lit (.int .i64 253), .lit (.int .i64 7927), .lit (.int .i64 7929), .lit (.int .i64 7925)]], .agg [.lit (.int .i64 100), .lit (.int .i64 0), .agg [.lit (.int .i64 100), .lit (.int .i64 0), .lit (.int .i64 0), .lit (.int .i64 0), .lit (.int .i64 0), .lit (.int .i64 0)]], .agg [.lit (.int .i64 100), .lit (.int .i64 4), .agg [.lit (.int .i64 273), .lit (.int .i64 0), .lit (.int .i64 0), .lit (.int .i64 0), .lit (.int .i64 0), .lit (.int .i64 0)]]]
def laid_unicode_utf8_acceptRanges {H : Type} : DataW H := .agg [.agg [.lit (.int .u8 128), .lit (.int .u8 191)], .agg [.lit (.int .u8 160), .lit (.int .u8 191)], .agg [.lit (.int .u8 128), .lit (.int .u8 159)], .agg [.lit (.int .u8 144), .lit (.int .u8 191)], .agg [.lit (.int .u8 128), .lit (.int .u8 143)], .agg [.lit (.int .u8 0), .lit (.int .u8 0)], .agg [.lit (.int .u8 0), .lit (.int .u8 0)], .agg [.lit (.int .u8 0), .lit (.int .u8 0)], .agg [.lit (.int .u8 0), .lit (.int .u8 0)], .agg [.lit (.int .u8 0), .lit (.int .u8 0)], .agg [.lit (.int .u8 0), .lit (.int .u8 0)], .agg [.lit (.int .u8 0), .lit (.int .u8 0)], .agg [.lit (.int .u8 0), .lit (.int .u8 0)], .agg [.lit (.int .u8 0), .lit (.int .u8 0)], .agg [.lit (.int .u8 0), .lit (.int .u8 0)], .agg [.lit (.int .u8 0), .lit (.int .u8 0)]]
def laid_lontar_tamil_consonants {H : Type} : DataW H := .agg [.lit (.int .i64 2965), .lit (.int .i64 2969), .lit (.int .i64 2970), .lit (.int .i64 2974), .lit (.int .i64 2975), .lit (.int .i64 2979), .lit (.int .i64 2980), .lit (.int .i64 2984), .lit (.int .i64 2986), .lit (.int .i64 2990), .lit (.int .i64 2991), .lit (.int .i64 2992), .lit (.int .i64 2994), .lit (.int .i64 2997), .lit (.int .i64 2996), .lit (.int .i64 2995), .lit (.int .i64 2993), .lit (.int .i64 2985), .lit (.int .i64 2972), .lit (.int .i64 2999), .lit (.int .i64 3000), .lit (.int .i64 3001)]
def laid_lontar_tcvn_high {H : Type} : DataW H := .agg [.lit (.int .u16 0), .lit (.int .u16 258), .lit (.int .u16 194), .lit (.int .u16 202), .lit (.int .u16 212), .lit (.int .u16 416), .lit (.int .u16 431), .lit (.int .u16 272), .lit (.int .u16 259), .lit (.int .u16 226), .lit (.int .u16 234), .lit (.int .u16 244), .lit (.int .u16 417), .lit (.int .u16 432), .lit (.int .u16 273), .lit (.int .u16 0), .lit (.int .u16 0), .lit (.int .u16 0), .lit (.int .u16 0), .lit (.int .u16 0), .lit (.int .u16 0), .lit (.int .u16 224), .lit (.int .u16 7843), .lit (.int .u16 227), .lit (.int .u16 225), .lit (.int .u16 7841), .lit (.int .u16 0), .lit (.int .u16 7857), .lit (.int .u16 7859), .lit (.int .u16 7861), .lit (.int .u16 7855), .lit (.int .u16 0), .lit (.int .u16 0), .lit (.int .u16 0), .lit (.int .u16 0), .lit (.int .u16 0), .lit (.int .u16 0), .lit (.int .u16 0), .lit (.int .u16 7863), .lit (.int .u16 7847), .lit (.int .u16 7849), .lit (.int .u16 7851), .lit (.int .u16 7845), .lit (.int .u16 7853), .lit (.int .u16 232), .lit (.int .u16 0), .lit (.int .u16 7867), .lit (.int .u16 7869), .lit (.int .u16 233), .lit (.int .u16 7865), .lit (.int .u16 7873), .lit (.int .u16 7875), .lit (.int .u16 7877), .lit (.int .u16 7871), .lit (.int .u16 7879), .lit (.int .u16 236), .lit (.int .u16 7881), .lit (.int .u16 0), .lit (.int .u16 0), .lit (.int .u16 0), .lit (.int .u16 297), .lit (.int .u16 237), .lit (.int .u16 7883), .lit (.int .u16 242), .lit (.int .u16 0), .lit (.int .u16 7887), .lit (.int .u16 245), .lit (.int .u16 243), .lit (.int .u16 7885), .lit (.int .u16 7891), .lit (.int .u16 7893), .lit (.int .u16 7895), .lit (.int .u16 7889), .lit (.int .u16 7897), .lit (.int .u16 7901), .lit (.int .u16 7903), .lit (.int .u16 7905), .lit (.int .u16 7899), .lit (.int .u16 7907), .lit (.int .u16 249), .lit (.int .u16 0), .lit (.int .u16 7911), .lit (.int .u16 361), .lit (.int .u16 250), .lit (.int .u16 7909), .lit (.int .u16 7915), .lit (.int .u16 7917), .lit (.int .u16 7919), .lit (.int .u16 7913), .lit (.int .u16 7921), .lit (.int .u16 7923), .lit (.int .u16 7927), .lit (.int .u16 7929), .lit (.int .u16 253), .lit (.int .u16 7925), .lit (.int .u16 0)]
def laid_lontar_viscii_high {H : Type} : DataW H := .agg [.lit (.int .u16 7840), .lit (.int .u16 7854), .lit (.int .u16 7856), .lit (.int .u16 7862), .lit (.int .u16 7844), .lit (.int .u16 7846), .lit (.int .u16 7848), .lit (.int .u16 7852), .lit (.int .u16 7868), .lit (.int .u16 7864), .lit (.int .u16 7870), .lit (.int .u16 7872), .lit (.int .u16 7874), .lit (.int .u16 7876), .lit (.int .u16 7878), .lit (.int .u16 7888), .lit (.int .u16 7890), .lit (.int .u16 7892), .lit (.int .u16 7894), .lit (.int .u16 7896), .lit (.int .u16 7906), .lit (.int .u16 7898), .lit (.int .u16 7900), .lit (.int .u16 7902), .lit (.int .u16 7882), .lit (.int .u16 7886), .lit (.int .u16 7884), .lit (.int .u16 7880), .lit (.int .u16 7910), .lit (.int .u16 360), .lit (.int .u16 7908), .lit (.int .u16 7922), .lit (.int .u16 213), .lit (.int .u16 7855), .lit (.int .u16 7857), .lit (.int .u16 7863), .lit (.int .u16 7845), .lit (.int .u16 7847), .lit (.int .u16 7849), .lit (.int .u16 7853), .lit (.int .u16 7869), .lit (.int .u16 7865), .lit (.int .u16 7871), .lit (.int .u16 7873), .lit (.int .u16 7875), .lit (.int .u16 7877), .lit (.int .u16 7879), .lit (.int .u16 7889), .lit (.int .u16 7891), .lit (.int .u16 7893), .lit (.int .u16 7895), .lit (.int .u16 7904), .lit (.int .u16 416), .lit (.int .u16 7897), .lit (.int .u16 7901), .lit (.int .u16 7903), .lit (.int .u16 7883), .lit (.int .u16 7920), .lit (.int .u16 7912), .lit (.int .u16 7914), .lit (.int .u16 7916), .lit (.int .u16 417), .lit (.int .u16 7899), .lit (.int .u16 431), .lit (.int .u16 192), .lit (.int .u16 193), .lit (.int .u16 194), .lit (.int .u16 195), .lit (.int .u16 7842), .lit (.int .u16 258), .lit (.int .u16 7859), .lit (.int .u16 7861), .lit (.int .u16 200), .lit (.int .u16 201), .lit (.int .u16 202), .lit (.int .u16 7866), .lit (.int .u16 204), .lit (.int .u16 205), .lit (.int .u16 296), .lit (.int .u16 7923), .lit (.int .u16 272), .lit (.int .u16 7913), .lit (.int .u16 210), .lit (.int .u16 211), .lit (.int .u16 212), .lit (.int .u16 7841), .lit (.int .u16 7927), .lit (.int .u16 7915), .lit (.int .u16 7917), .lit (.int .u16 217), .lit (.int .u16 218), .lit (.int .u16 7929), .lit (.int .u16 7925), .lit (.int .u16 221), .lit (.int .u16 7905), .lit (.int .u16 432), .lit (.int .u16 224), .lit (.int .u16 225), .lit (.int .u16 226), .lit (.int .u16 227), .lit (.int .u16 7843), .lit (.int .u16 259), .lit (.int .u16 7919), .lit (.int .u16 7851), .lit (.int .u16 232), .lit (.int .u16 233), .lit (.int .u16 234), .lit (.int .u16 7867), .lit (.int .u16 236), .lit (.int .u16 237), .lit (.int .u16 297), .lit (.int .u16 7881), .lit (.int .u16 273), .lit (.int .u16 7921), .lit (.int .u16 242), .lit (.int .u16 243), .lit (.int .u16 244), .lit (.int .u16 245), .lit (.int .u16 7887), .lit (.int .u16 7885), .lit (.int .u16 7909), .lit (.int .u16 249), .lit (.int .u16 250), .lit (.int .u16 361), .lit (.int .u16 7911), .lit (.int .u16 253), .lit (.int .u16 7907), .lit (.int .u16 7918)]
def laid_lontar_vni_signs {H : Type} : DataW H := .agg [.agg [.lit (.int .u8 0), .lit (.int .u8 248), .lit (.int .u8 249), .lit (.int .u8 251), .lit (.int .u8 245), .lit (.int .u8 239)], .agg [.lit (.int .u8 234), .lit (.int .u8 232), .lit (.int .u8 233), .lit (.int .u8 250), .lit (.int .u8 252), .lit (.int .u8 235)], .agg [.lit (.int .u8 226), .lit (.int .u8 224), .lit (.int .u8 225), .lit (.int .u8 229), .lit (.int .u8 227), .lit (.int .u8 228)], .agg [.lit (.int .u8 0), .lit (.int .u8 248), .lit (.int .u8 249), .lit (.int .u8 251), .lit (.int .u8 245), .lit (.int .u8 239)]]
/-- One of Go's own tables, pinned by name: the form's constant. -/
def laid_unicode_CaseRanges : DataW Unit := Go.Pinned.caseRanges
/-- One of Go's own tables, pinned by name: the form's constant. -/
def laid_unicode_utf8_first : DataW Unit := Go.Pinned.utf8First

/-- 'lontarlaw19.CodecDecode': WHATEVER THE INPUT: true; the input reads as it did. -/
def codecDecodeSpec : ChangeSpec := { name := "codecDecode", fn := fun _ => fun
  | [d1, d2] => { results := [.lit (.bool true)], args := [d1, d2] }
  | _ => none }
def codecDecodeRow : OpenClaim := { program := "ytncpokioagpclaagreatdoor", sum := "7e1a19ee28373cbb543f22185c9fc70ec25534cce6f96b955edd591b4656777b", func := "lontar/lontarlaw19.CodecDecode", spec := "codecDecode", inPlace := ["internal/abi.NoEscape", "internal/bytealg.MakeNoZero", "slices.overlaps[int]"], unfollowed := true, recurses := true, named := ["unicode/utf8.first", "unicode/utf8.acceptRanges", "unicode.CaseRanges", "lontar/viscii.high", "lontar/tcvn.high", "lontar/viet.rows", "lontar/vni.signs", "lontar/tamil.consonants"], apart := false, laid := [("lontar/viet.rows", laid_lontar_viet_rows), ("unicode/utf8.acceptRanges", laid_unicode_utf8_acceptRanges), ("lontar/tamil.consonants", laid_lontar_tamil_consonants), ("lontar/tcvn.high", laid_lontar_tcvn_high), ("lontar/viscii.high", laid_lontar_viscii_high), ("lontar/vni.signs", laid_lontar_vni_signs), ("unicode.CaseRanges", laid_unicode_CaseRanges), ("unicode/utf8.first", laid_unicode_utf8_first)] }
def CodecDecodeSaid : Prop := codecDecodeRow.holds Tryz.pinned (OpenSpec.ofChange codecDecodeSpec)

/-- ITS FALSE NEIGHBOUR: 'it returns false'. Refute it at one input. -/
def codecDecodeWrong : ChangeSpec := { name := "codecDecode", fn := fun _ => fun
  | [d1, d2] => { results := [.lit (.bool false)], args := [d1, d2] }
  | _ => none }
def CodecDecodeWrongFalsely : Prop := codecDecodeRow.holds Tryz.pinned (OpenSpec.ofChange codecDecodeWrong)

/-- 'lontarlaw19.CodecTable': WHATEVER THE INPUT: true; the input reads as it did. -/
def codecTableSpec : ChangeSpec := { name := "codecTable", fn := fun _ => fun
  | [d1, d2] => { results := [.lit (.bool true)], args := [d1, d2] }
  | _ => none }
def codecTableRow : OpenClaim := { program := "ytncpokioagpclaagreatdoor", sum := "7e1a19ee28373cbb543f22185c9fc70ec25534cce6f96b955edd591b4656777b", func := "lontar/lontarlaw19.CodecTable", spec := "codecTable", inPlace := ["internal/abi.NoEscape", "internal/bytealg.MakeNoZero", "slices.overlaps[int]"], unfollowed := true, recurses := true, named := ["unicode/utf8.first", "unicode/utf8.acceptRanges", "unicode.CaseRanges", "lontar/viscii.high", "lontar/tcvn.high", "lontar/viet.rows", "lontar/vni.signs", "lontar/tamil.consonants"], apart := false, laid := [("lontar/viet.rows", laid_lontar_viet_rows), ("unicode/utf8.acceptRanges", laid_unicode_utf8_acceptRanges), ("lontar/tamil.consonants", laid_lontar_tamil_consonants), ("lontar/tcvn.high", laid_lontar_tcvn_high), ("lontar/viscii.high", laid_lontar_viscii_high), ("lontar/vni.signs", laid_lontar_vni_signs), ("unicode.CaseRanges", laid_unicode_CaseRanges), ("unicode/utf8.first", laid_unicode_utf8_first)] }
def CodecTableSaid : Prop := codecTableRow.holds Tryz.pinned (OpenSpec.ofChange codecTableSpec)

/-- ITS FALSE NEIGHBOUR: 'it returns false'. Refute it at one input. -/
def codecTableWrong : ChangeSpec := { name := "codecTable", fn := fun _ => fun
  | [d1, d2] => { results := [.lit (.bool false)], args := [d1, d2] }
  | _ => none }
def CodecTableWrongFalsely : Prop := codecTableRow.holds Tryz.pinned (OpenSpec.ofChange codecTableWrong)

/-- 'lontarlaw19.CodecAscii': WHATEVER THE INPUT: true; the input reads as it did. -/
def codecAsciiSpec : ChangeSpec := { name := "codecAscii", fn := fun _ => fun
  | [d1, d2] => { results := [.lit (.bool true)], args := [d1, d2] }
  | _ => none }
def codecAsciiRow : OpenClaim := { program := "ytncpokioagpclaagreatdoor", sum := "7e1a19ee28373cbb543f22185c9fc70ec25534cce6f96b955edd591b4656777b", func := "lontar/lontarlaw19.CodecAscii", spec := "codecAscii", inPlace := ["internal/abi.NoEscape", "internal/bytealg.MakeNoZero", "slices.overlaps[int]"], unfollowed := true, recurses := true, named := ["unicode/utf8.first", "unicode/utf8.acceptRanges", "unicode.CaseRanges", "lontar/viscii.high", "lontar/tcvn.high", "lontar/viet.rows", "lontar/vni.signs", "lontar/tamil.consonants"], apart := false, laid := [("lontar/viet.rows", laid_lontar_viet_rows), ("unicode/utf8.acceptRanges", laid_unicode_utf8_acceptRanges), ("lontar/tamil.consonants", laid_lontar_tamil_consonants), ("lontar/tcvn.high", laid_lontar_tcvn_high), ("lontar/viscii.high", laid_lontar_viscii_high), ("lontar/vni.signs", laid_lontar_vni_signs), ("unicode.CaseRanges", laid_unicode_CaseRanges), ("unicode/utf8.first", laid_unicode_utf8_first)] }
def CodecAsciiSaid : Prop := codecAsciiRow.holds Tryz.pinned (OpenSpec.ofChange codecAsciiSpec)

/-- ITS FALSE NEIGHBOUR: 'it returns false'. Refute it at one input. -/
def codecAsciiWrong : ChangeSpec := { name := "codecAscii", fn := fun _ => fun
  | [d1, d2] => { results := [.lit (.bool false)], args := [d1, d2] }
  | _ => none }
def CodecAsciiWrongFalsely : Prop := codecAsciiRow.holds Tryz.pinned (OpenSpec.ofChange codecAsciiWrong)

/-- 'lontarlaw20.StreamOpen': WHATEVER THE INPUT: true; the input reads as it did. -/
def streamOpenSpec : ChangeSpec := { name := "streamOpen", fn := fun _ => fun
  | [d1, d2, d3, d4] => { results := [.lit (.bool true)], args := [d1, d2, d3, d4] }
  | _ => none }
def streamOpenRow : OpenClaim := { program := "ytncpokioagpclaagreatdoor", sum := "7e1a19ee28373cbb543f22185c9fc70ec25534cce6f96b955edd591b4656777b", func := "lontar/lontarlaw20.StreamOpen", spec := "streamOpen", inPlace := ["internal/abi.NoEscape", "internal/bytealg.MakeNoZero", "slices.overlaps[int]"], unfollowed := true, recurses := true, named := ["unicode/utf8.first", "unicode/utf8.acceptRanges", "unicode.CaseRanges", "lontar/viscii.high", "lontar/tcvn.high", "lontar/viet.rows", "lontar/vni.signs", "lontar/tamil.consonants"], apart := false, laid := [("lontar/viet.rows", laid_lontar_viet_rows), ("unicode/utf8.acceptRanges", laid_unicode_utf8_acceptRanges), ("lontar/tamil.consonants", laid_lontar_tamil_consonants), ("lontar/tcvn.high", laid_lontar_tcvn_high), ("lontar/viscii.high", laid_lontar_viscii_high), ("lontar/vni.signs", laid_lontar_vni_signs), ("unicode.CaseRanges", laid_unicode_CaseRanges), ("unicode/utf8.first", laid_unicode_utf8_first)] }
def StreamOpenSaid : Prop := streamOpenRow.holds Tryz.pinned (OpenSpec.ofChange streamOpenSpec)

/-- ITS FALSE NEIGHBOUR: 'it returns false'. Refute it at one input. -/
def streamOpenWrong : ChangeSpec := { name := "streamOpen", fn := fun _ => fun
  | [d1, d2, d3, d4] => { results := [.lit (.bool false)], args := [d1, d2, d3, d4] }
  | _ => none }
def StreamOpenWrongFalsely : Prop := streamOpenRow.holds Tryz.pinned (OpenSpec.ofChange streamOpenWrong)

/-- 'lontarlaw20.StreamCanon': WHATEVER THE INPUT: true; the input reads as it did. -/
def streamCanonSpec : ChangeSpec := { name := "streamCanon", fn := fun _ => fun
  | [d1, d2] => { results := [.lit (.bool true)], args := [d1, d2] }
  | _ => none }
def streamCanonRow : OpenClaim := { program := "ytncpokioagpclaagreatdoor", sum := "7e1a19ee28373cbb543f22185c9fc70ec25534cce6f96b955edd591b4656777b", func := "lontar/lontarlaw20.StreamCanon", spec := "streamCanon", inPlace := ["internal/abi.NoEscape", "internal/bytealg.MakeNoZero", "slices.overlaps[int]"], unfollowed := true, recurses := true, named := ["unicode/utf8.first", "unicode/utf8.acceptRanges", "unicode.CaseRanges", "lontar/viscii.high", "lontar/tcvn.high", "lontar/viet.rows", "lontar/vni.signs", "lontar/tamil.consonants"], apart := false, laid := [("lontar/viet.rows", laid_lontar_viet_rows), ("unicode/utf8.acceptRanges", laid_unicode_utf8_acceptRanges), ("lontar/tamil.consonants", laid_lontar_tamil_consonants), ("lontar/tcvn.high", laid_lontar_tcvn_high), ("lontar/viscii.high", laid_lontar_viscii_high), ("lontar/vni.signs", laid_lontar_vni_signs), ("unicode.CaseRanges", laid_unicode_CaseRanges), ("unicode/utf8.first", laid_unicode_utf8_first)] }
def StreamCanonSaid : Prop := streamCanonRow.holds Tryz.pinned (OpenSpec.ofChange streamCanonSpec)

/-- ITS FALSE NEIGHBOUR: 'it returns false'. Refute it at one input. -/
def streamCanonWrong : ChangeSpec := { name := "streamCanon", fn := fun _ => fun
  | [d1, d2] => { results := [.lit (.bool false)], args := [d1, d2] }
  | _ => none }
def StreamCanonWrongFalsely : Prop := streamCanonRow.holds Tryz.pinned (OpenSpec.ofChange streamCanonWrong)

/-- 'lontarlaw22.ScriptActs': WHATEVER THE INPUT: true; the input reads as it did. -/
def scriptActsSpec : ChangeSpec := { name := "scriptActs", fn := fun _ => fun
  | [d] => { results := [.lit (.bool true)], args := [d] }
  | _ => none }
def scriptActsRow : OpenClaim := { program := "ytncpokioagpclaagreatdoor", sum := "7e1a19ee28373cbb543f22185c9fc70ec25534cce6f96b955edd591b4656777b", func := "lontar/lontarlaw22.ScriptActs", spec := "scriptActs", inPlace := ["internal/abi.NoEscape", "internal/bytealg.MakeNoZero", "slices.overlaps[int]"], unfollowed := true, recurses := true, named := ["unicode/utf8.first", "unicode/utf8.acceptRanges", "unicode.CaseRanges", "lontar/viscii.high", "lontar/tcvn.high", "lontar/viet.rows", "lontar/vni.signs", "lontar/tamil.consonants"], apart := false, laid := [("lontar/viet.rows", laid_lontar_viet_rows), ("unicode/utf8.acceptRanges", laid_unicode_utf8_acceptRanges), ("lontar/tamil.consonants", laid_lontar_tamil_consonants), ("lontar/tcvn.high", laid_lontar_tcvn_high), ("lontar/viscii.high", laid_lontar_viscii_high), ("lontar/vni.signs", laid_lontar_vni_signs), ("unicode.CaseRanges", laid_unicode_CaseRanges), ("unicode/utf8.first", laid_unicode_utf8_first)] }
def ScriptActsSaid : Prop := scriptActsRow.holds Tryz.pinned (OpenSpec.ofChange scriptActsSpec)

/-- ITS FALSE NEIGHBOUR: 'it returns false'. Refute it at one input. -/
def scriptActsWrong : ChangeSpec := { name := "scriptActs", fn := fun _ => fun
  | [d] => { results := [.lit (.bool false)], args := [d] }
  | _ => none }
def ScriptActsWrongFalsely : Prop := scriptActsRow.holds Tryz.pinned (OpenSpec.ofChange scriptActsWrong)

/-- 'lontarlaw22.ScriptPair': WHATEVER THE INPUT: true; the input reads as it did. -/
def scriptPairSpec : ChangeSpec := { name := "scriptPair", fn := fun _ => fun
  | [d] => { results := [.lit (.bool true)], args := [d] }
  | _ => none }
def scriptPairRow : OpenClaim := { program := "ytncpokioagpclaagreatdoor", sum := "7e1a19ee28373cbb543f22185c9fc70ec25534cce6f96b955edd591b4656777b", func := "lontar/lontarlaw22.ScriptPair", spec := "scriptPair", inPlace := ["internal/abi.NoEscape", "internal/bytealg.MakeNoZero", "slices.overlaps[int]"], unfollowed := true, recurses := true, named := ["unicode/utf8.first", "unicode/utf8.acceptRanges", "unicode.CaseRanges", "lontar/viscii.high", "lontar/tcvn.high", "lontar/viet.rows", "lontar/vni.signs", "lontar/tamil.consonants"], apart := false, laid := [("lontar/viet.rows", laid_lontar_viet_rows), ("unicode/utf8.acceptRanges", laid_unicode_utf8_acceptRanges), ("lontar/tamil.consonants", laid_lontar_tamil_consonants), ("lontar/tcvn.high", laid_lontar_tcvn_high), ("lontar/viscii.high", laid_lontar_viscii_high), ("lontar/vni.signs", laid_lontar_vni_signs), ("unicode.CaseRanges", laid_unicode_CaseRanges), ("unicode/utf8.first", laid_unicode_utf8_first)] }
def ScriptPairSaid : Prop := scriptPairRow.holds Tryz.pinned (OpenSpec.ofChange scriptPairSpec)

/-- ITS FALSE NEIGHBOUR: 'it returns false'. Refute it at one input. -/
def scriptPairWrong : ChangeSpec := { name := "scriptPair", fn := fun _ => fun
  | [d] => { results := [.lit (.bool false)], args := [d] }
  | _ => none }
def ScriptPairWrongFalsely : Prop := scriptPairRow.holds Tryz.pinned (OpenSpec.ofChange scriptPairWrong)

/-- 'lontarlaw22.ScriptRooms': WHATEVER THE INPUT: true; the input reads as it did. -/
def scriptRoomsSpec : ChangeSpec := { name := "scriptRooms", fn := fun _ => fun
  | [d] => { results := [.lit (.bool true)], args := [d] }
  | _ => none }
def scriptRoomsRow : OpenClaim := { program := "ytncpokioagpclaagreatdoor", sum := "7e1a19ee28373cbb543f22185c9fc70ec25534cce6f96b955edd591b4656777b", func := "lontar/lontarlaw22.ScriptRooms", spec := "scriptRooms", inPlace := ["internal/abi.NoEscape", "internal/bytealg.MakeNoZero", "slices.overlaps[int]"], unfollowed := true, recurses := true, named := ["unicode/utf8.first", "unicode/utf8.acceptRanges", "unicode.CaseRanges", "lontar/viscii.high", "lontar/tcvn.high", "lontar/viet.rows", "lontar/vni.signs", "lontar/tamil.consonants"], apart := false, laid := [("lontar/viet.rows", laid_lontar_viet_rows), ("unicode/utf8.acceptRanges", laid_unicode_utf8_acceptRanges), ("lontar/tamil.consonants", laid_lontar_tamil_consonants), ("lontar/tcvn.high", laid_lontar_tcvn_high), ("lontar/viscii.high", laid_lontar_viscii_high), ("lontar/vni.signs", laid_lontar_vni_signs), ("unicode.CaseRanges", laid_unicode_CaseRanges), ("unicode/utf8.first", laid_unicode_utf8_first)] }
def ScriptRoomsSaid : Prop := scriptRoomsRow.holds Tryz.pinned (OpenSpec.ofChange scriptRoomsSpec)

/-- ITS FALSE NEIGHBOUR: 'it returns false'. Refute it at one input. -/
def scriptRoomsWrong : ChangeSpec := { name := "scriptRooms", fn := fun _ => fun
  | [d] => { results := [.lit (.bool false)], args := [d] }
  | _ => none }
def ScriptRoomsWrongFalsely : Prop := scriptRoomsRow.holds Tryz.pinned (OpenSpec.ofChange scriptRoomsWrong)

/- THE SECOND FORM. 'bulk': how many values and letters a reading holds, each counted each time it is reached (what is shared counts as often as it is met; a slice's spare places count too). A statement '..UptoSaid' is the law's where the arguments, and the package variables that the reading takes, are together of bulk at most 1048576: NARROWER than '..Said'. Prove '..Said' where nothing that the law and all that it calls make is longer than what came in: it says more and counts as full. Else prove '..UptoSaid'. A law counts once. -/
mutual
def uptoBulk {H : Type} : DataW H → Nat
  | .lit (.string bytes) => bytes.length + 1
  | .lit _ => 1
  | .nil => 1
  | .ptr d => uptoBulk d + 1
  | .slice elems spare => uptoBulkAll elems + uptoBulkAll spare + 1
  | .agg parts => uptoBulkAll parts + 1
  | .iface _ d => uptoBulk d + 1
  | .map entries => uptoBulkEntries entries + 1
  | .held _ => 1
def uptoBulkAll {H : Type} : List (DataW H) → Nat
  | [] => 0
  | d :: r => uptoBulk d + uptoBulkAll r
def uptoBulkEntries {H : Type} : List (Lit × DataW H) → Nat
  | [] => 0
  | x :: r => uptoBulkEntry x + uptoBulkEntries r
def uptoBulkEntry {H : Type} : Lit × DataW H → Nat
  | (.string bytes, d) => bytes.length + uptoBulk d + 1
  | (_, d) => uptoBulk d + 1
 end
def uptoSmall : (H : Type) → List (DataW H) → Bool := fun _ ds => decide (uptoBulkAll ds ≤ 1048576)
def OpenSpec.upto (s : _root_.Go.ChangeSpec) : _root_.Go.OpenSpec := { _root_.Go.OpenSpec.ofChange s with cond := some uptoSmall }

/-- 'lontarlaw19.CodecDecode', WHERE WHAT IT READS IS OF BULK AT MOST 1048576: true; the input reads as it did. -/
def codecDecodeUptoRow : OpenClaim := { program := "ytncpokioagpclaagreatdoor", sum := "7e1a19ee28373cbb543f22185c9fc70ec25534cce6f96b955edd591b4656777b", func := "lontar/lontarlaw19.CodecDecode", spec := "codecDecode", inPlace := ["internal/abi.NoEscape", "internal/bytealg.MakeNoZero", "slices.overlaps[int]"], unfollowed := true, recurses := true, named := ["unicode/utf8.first", "unicode/utf8.acceptRanges", "unicode.CaseRanges", "lontar/viscii.high", "lontar/tcvn.high", "lontar/viet.rows", "lontar/vni.signs", "lontar/tamil.consonants"], apart := false, laid := [("lontar/viet.rows", laid_lontar_viet_rows), ("unicode/utf8.acceptRanges", laid_unicode_utf8_acceptRanges), ("lontar/tamil.consonants", laid_lontar_tamil_consonants), ("lontar/tcvn.high", laid_lontar_tcvn_high), ("lontar/viscii.high", laid_lontar_viscii_high), ("lontar/vni.signs", laid_lontar_vni_signs), ("unicode.CaseRanges", laid_unicode_CaseRanges), ("unicode/utf8.first", laid_unicode_utf8_first)], narrowed := true }
def CodecDecodeUptoSaid : Prop := codecDecodeUptoRow.holds Tryz.pinned (OpenSpec.upto codecDecodeSpec)

/-- 'lontarlaw19.CodecTable', WHERE WHAT IT READS IS OF BULK AT MOST 1048576: true; the input reads as it did. -/
def codecTableUptoRow : OpenClaim := { program := "ytncpokioagpclaagreatdoor", sum := "7e1a19ee28373cbb543f22185c9fc70ec25534cce6f96b955edd591b4656777b", func := "lontar/lontarlaw19.CodecTable", spec := "codecTable", inPlace := ["internal/abi.NoEscape", "internal/bytealg.MakeNoZero", "slices.overlaps[int]"], unfollowed := true, recurses := true, named := ["unicode/utf8.first", "unicode/utf8.acceptRanges", "unicode.CaseRanges", "lontar/viscii.high", "lontar/tcvn.high", "lontar/viet.rows", "lontar/vni.signs", "lontar/tamil.consonants"], apart := false, laid := [("lontar/viet.rows", laid_lontar_viet_rows), ("unicode/utf8.acceptRanges", laid_unicode_utf8_acceptRanges), ("lontar/tamil.consonants", laid_lontar_tamil_consonants), ("lontar/tcvn.high", laid_lontar_tcvn_high), ("lontar/viscii.high", laid_lontar_viscii_high), ("lontar/vni.signs", laid_lontar_vni_signs), ("unicode.CaseRanges", laid_unicode_CaseRanges), ("unicode/utf8.first", laid_unicode_utf8_first)], narrowed := true }
def CodecTableUptoSaid : Prop := codecTableUptoRow.holds Tryz.pinned (OpenSpec.upto codecTableSpec)

/-- 'lontarlaw19.CodecAscii', WHERE WHAT IT READS IS OF BULK AT MOST 1048576: true; the input reads as it did. -/
def codecAsciiUptoRow : OpenClaim := { program := "ytncpokioagpclaagreatdoor", sum := "7e1a19ee28373cbb543f22185c9fc70ec25534cce6f96b955edd591b4656777b", func := "lontar/lontarlaw19.CodecAscii", spec := "codecAscii", inPlace := ["internal/abi.NoEscape", "internal/bytealg.MakeNoZero", "slices.overlaps[int]"], unfollowed := true, recurses := true, named := ["unicode/utf8.first", "unicode/utf8.acceptRanges", "unicode.CaseRanges", "lontar/viscii.high", "lontar/tcvn.high", "lontar/viet.rows", "lontar/vni.signs", "lontar/tamil.consonants"], apart := false, laid := [("lontar/viet.rows", laid_lontar_viet_rows), ("unicode/utf8.acceptRanges", laid_unicode_utf8_acceptRanges), ("lontar/tamil.consonants", laid_lontar_tamil_consonants), ("lontar/tcvn.high", laid_lontar_tcvn_high), ("lontar/viscii.high", laid_lontar_viscii_high), ("lontar/vni.signs", laid_lontar_vni_signs), ("unicode.CaseRanges", laid_unicode_CaseRanges), ("unicode/utf8.first", laid_unicode_utf8_first)], narrowed := true }
def CodecAsciiUptoSaid : Prop := codecAsciiUptoRow.holds Tryz.pinned (OpenSpec.upto codecAsciiSpec)

/-- 'lontarlaw20.StreamOpen', WHERE WHAT IT READS IS OF BULK AT MOST 1048576: true; the input reads as it did. -/
def streamOpenUptoRow : OpenClaim := { program := "ytncpokioagpclaagreatdoor", sum := "7e1a19ee28373cbb543f22185c9fc70ec25534cce6f96b955edd591b4656777b", func := "lontar/lontarlaw20.StreamOpen", spec := "streamOpen", inPlace := ["internal/abi.NoEscape", "internal/bytealg.MakeNoZero", "slices.overlaps[int]"], unfollowed := true, recurses := true, named := ["unicode/utf8.first", "unicode/utf8.acceptRanges", "unicode.CaseRanges", "lontar/viscii.high", "lontar/tcvn.high", "lontar/viet.rows", "lontar/vni.signs", "lontar/tamil.consonants"], apart := false, laid := [("lontar/viet.rows", laid_lontar_viet_rows), ("unicode/utf8.acceptRanges", laid_unicode_utf8_acceptRanges), ("lontar/tamil.consonants", laid_lontar_tamil_consonants), ("lontar/tcvn.high", laid_lontar_tcvn_high), ("lontar/viscii.high", laid_lontar_viscii_high), ("lontar/vni.signs", laid_lontar_vni_signs), ("unicode.CaseRanges", laid_unicode_CaseRanges), ("unicode/utf8.first", laid_unicode_utf8_first)], narrowed := true }
def StreamOpenUptoSaid : Prop := streamOpenUptoRow.holds Tryz.pinned (OpenSpec.upto streamOpenSpec)

/-- 'lontarlaw20.StreamCanon', WHERE WHAT IT READS IS OF BULK AT MOST 1048576: true; the input reads as it did. -/
def streamCanonUptoRow : OpenClaim := { program := "ytncpokioagpclaagreatdoor", sum := "7e1a19ee28373cbb543f22185c9fc70ec25534cce6f96b955edd591b4656777b", func := "lontar/lontarlaw20.StreamCanon", spec := "streamCanon", inPlace := ["internal/abi.NoEscape", "internal/bytealg.MakeNoZero", "slices.overlaps[int]"], unfollowed := true, recurses := true, named := ["unicode/utf8.first", "unicode/utf8.acceptRanges", "unicode.CaseRanges", "lontar/viscii.high", "lontar/tcvn.high", "lontar/viet.rows", "lontar/vni.signs", "lontar/tamil.consonants"], apart := false, laid := [("lontar/viet.rows", laid_lontar_viet_rows), ("unicode/utf8.acceptRanges", laid_unicode_utf8_acceptRanges), ("lontar/tamil.consonants", laid_lontar_tamil_consonants), ("lontar/tcvn.high", laid_lontar_tcvn_high), ("lontar/viscii.high", laid_lontar_viscii_high), ("lontar/vni.signs", laid_lontar_vni_signs), ("unicode.CaseRanges", laid_unicode_CaseRanges), ("unicode/utf8.first", laid_unicode_utf8_first)], narrowed := true }
def StreamCanonUptoSaid : Prop := streamCanonUptoRow.holds Tryz.pinned (OpenSpec.upto streamCanonSpec)

/-- 'lontarlaw22.ScriptActs', WHERE WHAT IT READS IS OF BULK AT MOST 1048576: true; the input reads as it did. -/
def scriptActsUptoRow : OpenClaim := { program := "ytncpokioagpclaagreatdoor", sum := "7e1a19ee28373cbb543f22185c9fc70ec25534cce6f96b955edd591b4656777b", func := "lontar/lontarlaw22.ScriptActs", spec := "scriptActs", inPlace := ["internal/abi.NoEscape", "internal/bytealg.MakeNoZero", "slices.overlaps[int]"], unfollowed := true, recurses := true, named := ["unicode/utf8.first", "unicode/utf8.acceptRanges", "unicode.CaseRanges", "lontar/viscii.high", "lontar/tcvn.high", "lontar/viet.rows", "lontar/vni.signs", "lontar/tamil.consonants"], apart := false, laid := [("lontar/viet.rows", laid_lontar_viet_rows), ("unicode/utf8.acceptRanges", laid_unicode_utf8_acceptRanges), ("lontar/tamil.consonants", laid_lontar_tamil_consonants), ("lontar/tcvn.high", laid_lontar_tcvn_high), ("lontar/viscii.high", laid_lontar_viscii_high), ("lontar/vni.signs", laid_lontar_vni_signs), ("unicode.CaseRanges", laid_unicode_CaseRanges), ("unicode/utf8.first", laid_unicode_utf8_first)], narrowed := true }
def ScriptActsUptoSaid : Prop := scriptActsUptoRow.holds Tryz.pinned (OpenSpec.upto scriptActsSpec)

/-- 'lontarlaw22.ScriptPair', WHERE WHAT IT READS IS OF BULK AT MOST 1048576: true; the input reads as it did. -/
def scriptPairUptoRow : OpenClaim := { program := "ytncpokioagpclaagreatdoor", sum := "7e1a19ee28373cbb543f22185c9fc70ec25534cce6f96b955edd591b4656777b", func := "lontar/lontarlaw22.ScriptPair", spec := "scriptPair", inPlace := ["internal/abi.NoEscape", "internal/bytealg.MakeNoZero", "slices.overlaps[int]"], unfollowed := true, recurses := true, named := ["unicode/utf8.first", "unicode/utf8.acceptRanges", "unicode.CaseRanges", "lontar/viscii.high", "lontar/tcvn.high", "lontar/viet.rows", "lontar/vni.signs", "lontar/tamil.consonants"], apart := false, laid := [("lontar/viet.rows", laid_lontar_viet_rows), ("unicode/utf8.acceptRanges", laid_unicode_utf8_acceptRanges), ("lontar/tamil.consonants", laid_lontar_tamil_consonants), ("lontar/tcvn.high", laid_lontar_tcvn_high), ("lontar/viscii.high", laid_lontar_viscii_high), ("lontar/vni.signs", laid_lontar_vni_signs), ("unicode.CaseRanges", laid_unicode_CaseRanges), ("unicode/utf8.first", laid_unicode_utf8_first)], narrowed := true }
def ScriptPairUptoSaid : Prop := scriptPairUptoRow.holds Tryz.pinned (OpenSpec.upto scriptPairSpec)

/-- 'lontarlaw22.ScriptRooms', WHERE WHAT IT READS IS OF BULK AT MOST 1048576: true; the input reads as it did. -/
def scriptRoomsUptoRow : OpenClaim := { program := "ytncpokioagpclaagreatdoor", sum := "7e1a19ee28373cbb543f22185c9fc70ec25534cce6f96b955edd591b4656777b", func := "lontar/lontarlaw22.ScriptRooms", spec := "scriptRooms", inPlace := ["internal/abi.NoEscape", "internal/bytealg.MakeNoZero", "slices.overlaps[int]"], unfollowed := true, recurses := true, named := ["unicode/utf8.first", "unicode/utf8.acceptRanges", "unicode.CaseRanges", "lontar/viscii.high", "lontar/tcvn.high", "lontar/viet.rows", "lontar/vni.signs", "lontar/tamil.consonants"], apart := false, laid := [("lontar/viet.rows", laid_lontar_viet_rows), ("unicode/utf8.acceptRanges", laid_unicode_utf8_acceptRanges), ("lontar/tamil.consonants", laid_lontar_tamil_consonants), ("lontar/tcvn.high", laid_lontar_tcvn_high), ("lontar/viscii.high", laid_lontar_viscii_high), ("lontar/vni.signs", laid_lontar_vni_signs), ("unicode.CaseRanges", laid_unicode_CaseRanges), ("unicode/utf8.first", laid_unicode_utf8_first)], narrowed := true }
def ScriptRoomsUptoSaid : Prop := scriptRoomsUptoRow.holds Tryz.pinned (OpenSpec.upto scriptRoomsSpec)

end Rows
end Go.Proofs.YtncpokioagpclaaGreatDoor
