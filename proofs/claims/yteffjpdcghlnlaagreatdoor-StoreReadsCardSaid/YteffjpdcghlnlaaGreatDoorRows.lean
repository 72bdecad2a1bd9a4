/-
  NARROWER THAN 'FOR EVERY INPUT', by the rows' own cells (each row's printed sentence says how): StorePlays: laid · StoreReads: laid · StoreBack: laid · StoreAgain: laid · StoreRefuses: laid · StoreMaterials: laid · StoreSessions: laid.
  DERIVED. THE GIVEN ROWS OF THIS SEAT. 7 by the template 'for every input the law returns true; each argument reads behind the call as it read before'; 0 by the template 'total and deterministic' (their statements: YteffjpdcghlnlaaGreatDoorTotals.lean).
  GIVEN WITH THE SEED: the statements are not yours to turn. If you find one false, say at which input.
  Laid BY PROGRAM, IN A SANDBOX (cutbox-rows.mjs): the forced cells as the released guide's own fill.sh prints them over the translation 6c1baec9b9c21c4e… (all of the seat's roots in one cut). By AI agents, Wed Nov 11 2026. No macro, syntax, notation, axiom, sorry.
-/
import Derived.Test.YteffjpdcghlnlaaGreatDoorChecked
import GoSem.Claim
import GoSem.ClaimJoined
import GoSem.ClaimMapViews
import Derived.JoinedTies
import Derived.KernelRfl
namespace Go.Proofs.YteffjpdcghlnlaaGreatDoor
/- THE CELL 'sum', in the pinned program and in every row, IS THE sha256 OF THE DUMP (.gsa) THAT YteffjpdcghlnlaaGreatDoorProg.lean LOADS. Nothing in Lean hashes anything: it is a label: what it is worth is what the hold of that sum in a sandbox is worth. -/
noncomputable def Tryz.pinned : Pinned := { name := "yteffjpdcghlnlaagreatdoor", sum := "6c1baec9b9c21c4e78a5115263766301d1e2d4a141510519424b9793935edb41", checked := Tryz.checked }
namespace Rows
def none {H : Type} : Left H := { results := [], args := [] }

/- WHAT THE LISTED PACKAGE-LEVEL VARIABLES READ AS WHEN THE CALL BEGINS. Each datum BY PROGRAM (the guide's laid-datum.mjs) off the statement by which the dump's own 'gosem.cut.vars' lays the variable. In a bare row this is a premise. The card (YteffjpdcghlnlaaGreatDoorCards.lean) ties it to the program's text. -/
def laid_strongroom_sha_roundConstants {H : Type} : DataW H := .agg [.lit (.int .u32 1116352408), .lit (.int .u32 1899447441), .lit (.int .u32 3049323471), .lit (.int .u32 3921009573), .lit (.int .u32 961987163), .lit (.int .u32 1508970993), .lit (.int .u32 2453635748), .lit (.int .u32 2870763221), .lit (.int .u32 3624381080), .lit (.int .u32 310598401), .lit (.int .u32 607225278), .lit (.int .u32 1426881987), .lit (.int .u32 1925078388), .lit (.int .u32 2162078206), .lit (.int .u32 2614888103), .lit (.int .u32 3248222580), .lit (.int .u32 3835390401), .lit (.int .u32 4022224774), .lit (.int .u32 264347078), .lit (.int .u32 604807628), .lit (.int .u32 770255983), .lit (.int .u32 1249150122), .lit (.int .u32 1555081692), .lit (.int .u32 1996064986), .lit (.int .u32 2554220882), .lit (.int .u32 2821834349), .lit (.int .u32 2952996808), .lit (.int .u32 3210313671), .lit (.int .u32 3336571891), .lit (.int .u32 3584528711), .lit (.int .u32 113926993), .lit (.int .u32 338241895), .lit (.int .u32 666307205), .lit (.int .u32 773529912), .lit (.int .u32 1294757372), .lit (.int .u32 1396182291), .lit (.int .u32 1695183700), .lit (.int .u32 1986661051), .lit (.int .u32 2177026350), .lit (.int .u32 2456956037), .lit (.int .u32 2730485921), .lit (.int .u32 2820302411), .lit (.int .u32 3259730800), .lit (.int .u32 3345764771), .lit (.int .u32 3516065817), .lit (.int .u32 3600352804), .lit (.int .u32 4094571909), .lit (.int .u32 275423344), .lit (.int .u32 430227734), .lit (.int .u32 506948616), .lit (.int .u32 659060556), .lit (.int .u32 883997877), .lit (.int .u32 958139571), .lit (.int .u32 1322822218), .lit (.int .u32 1537002063), .lit (.int .u32 1747873779), .lit (.int .u32 1955562222), .lit (.int .u32 2024104815), .lit (.int .u32 2227730452), .lit (.int .u32 2361852424), .lit (.int .u32 2428436474), .lit (.int .u32 2756734187), .lit (.int .u32 3204031479), .lit (.int .u32 3329325298)]

/-- 'strongroomlaw16.StorePlays': WHATEVER THE INPUT: true; the input reads as it did. -/
def storePlaysSpec : ChangeSpec := { name := "storePlays", fn := fun _ => fun
  | [d1, d2] => { results := [.lit (.bool true)], args := [d1, d2] }
  | _ => none }
def storePlaysRow : OpenClaim := { program := "yteffjpdcghlnlaagreatdoor", sum := "6c1baec9b9c21c4e78a5115263766301d1e2d4a141510519424b9793935edb41", func := "strongroom/strongroomlaw16.StorePlays", spec := "storePlays", inPlace := ["maps.clone"], unfollowed := true, recurses := true, named := ["strongroom/sha.roundConstants"], apart := false, laid := [("strongroom/sha.roundConstants", laid_strongroom_sha_roundConstants)] }
def StorePlaysSaid : Prop := storePlaysRow.holds Tryz.pinned (OpenSpec.ofChange storePlaysSpec)

/-- ITS FALSE NEIGHBOUR: 'it returns false'. Refute it at one input. -/
def storePlaysWrong : ChangeSpec := { name := "storePlays", fn := fun _ => fun
  | [d1, d2] => { results := [.lit (.bool false)], args := [d1, d2] }
  | _ => none }
def StorePlaysWrongFalsely : Prop := storePlaysRow.holds Tryz.pinned (OpenSpec.ofChange storePlaysWrong)

/-- 'strongroomlaw16.StoreReads': WHATEVER THE INPUT: true; the input reads as it did. -/
def storeReadsSpec : ChangeSpec := { name := "storeReads", fn := fun _ => fun
  | [d] => { results := [.lit (.bool true)], args := [d] }
  | _ => none }
def storeReadsRow : OpenClaim := { program := "yteffjpdcghlnlaagreatdoor", sum := "6c1baec9b9c21c4e78a5115263766301d1e2d4a141510519424b9793935edb41", func := "strongroom/strongroomlaw16.StoreReads", spec := "storeReads", unfollowed := true, recurses := true, named := ["strongroom/sha.roundConstants"], apart := false, laid := [("strongroom/sha.roundConstants", laid_strongroom_sha_roundConstants)] }
def StoreReadsSaid : Prop := storeReadsRow.holds Tryz.pinned (OpenSpec.ofChange storeReadsSpec)

/-- ITS FALSE NEIGHBOUR: 'it returns false'. Refute it at one input. -/
def storeReadsWrong : ChangeSpec := { name := "storeReads", fn := fun _ => fun
  | [d] => { results := [.lit (.bool false)], args := [d] }
  | _ => none }
def StoreReadsWrongFalsely : Prop := storeReadsRow.holds Tryz.pinned (OpenSpec.ofChange storeReadsWrong)

/-- 'strongroomlaw16.StoreBack': WHATEVER THE INPUT: true; the input reads as it did. -/
def storeBackSpec : ChangeSpec := { name := "storeBack", fn := fun _ => fun
  | [d1, d2, d3] => { results := [.lit (.bool true)], args := [d1, d2, d3] }
  | _ => none }
def storeBackRow : OpenClaim := { program := "yteffjpdcghlnlaagreatdoor", sum := "6c1baec9b9c21c4e78a5115263766301d1e2d4a141510519424b9793935edb41", func := "strongroom/strongroomlaw16.StoreBack", spec := "storeBack", unfollowed := true, recurses := true, named := ["strongroom/sha.roundConstants"], apart := false, laid := [("strongroom/sha.roundConstants", laid_strongroom_sha_roundConstants)] }
def StoreBackSaid : Prop := storeBackRow.holds Tryz.pinned (OpenSpec.ofChange storeBackSpec)

/-- ITS FALSE NEIGHBOUR: 'it returns false'. Refute it at one input. -/
def storeBackWrong : ChangeSpec := { name := "storeBack", fn := fun _ => fun
  | [d1, d2, d3] => { results := [.lit (.bool false)], args := [d1, d2, d3] }
  | _ => none }
def StoreBackWrongFalsely : Prop := storeBackRow.holds Tryz.pinned (OpenSpec.ofChange storeBackWrong)

/-- 'strongroomlaw16.StoreAgain': WHATEVER THE INPUT: true; the input reads as it did. -/
def storeAgainSpec : ChangeSpec := { name := "storeAgain", fn := fun _ => fun
  | [d1, d2] => { results := [.lit (.bool true)], args := [d1, d2] }
  | _ => none }
def storeAgainRow : OpenClaim := { program := "yteffjpdcghlnlaagreatdoor", sum := "6c1baec9b9c21c4e78a5115263766301d1e2d4a141510519424b9793935edb41", func := "strongroom/strongroomlaw16.StoreAgain", spec := "storeAgain", unfollowed := true, recurses := true, named := ["strongroom/sha.roundConstants"], apart := false, laid := [("strongroom/sha.roundConstants", laid_strongroom_sha_roundConstants)] }
def StoreAgainSaid : Prop := storeAgainRow.holds Tryz.pinned (OpenSpec.ofChange storeAgainSpec)

/-- ITS FALSE NEIGHBOUR: 'it returns false'. Refute it at one input. -/
def storeAgainWrong : ChangeSpec := { name := "storeAgain", fn := fun _ => fun
  | [d1, d2] => { results := [.lit (.bool false)], args := [d1, d2] }
  | _ => none }
def StoreAgainWrongFalsely : Prop := storeAgainRow.holds Tryz.pinned (OpenSpec.ofChange storeAgainWrong)

/-- 'strongroomlaw16.StoreRefuses': WHATEVER THE INPUT: true; the input reads as it did. -/
def storeRefusesSpec : ChangeSpec := { name := "storeRefuses", fn := fun _ => fun
  | [d1, d2, d3] => { results := [.lit (.bool true)], args := [d1, d2, d3] }
  | _ => none }
def storeRefusesRow : OpenClaim := { program := "yteffjpdcghlnlaagreatdoor", sum := "6c1baec9b9c21c4e78a5115263766301d1e2d4a141510519424b9793935edb41", func := "strongroom/strongroomlaw16.StoreRefuses", spec := "storeRefuses", unfollowed := true, recurses := true, named := ["strongroom/sha.roundConstants"], apart := false, laid := [("strongroom/sha.roundConstants", laid_strongroom_sha_roundConstants)] }
def StoreRefusesSaid : Prop := storeRefusesRow.holds Tryz.pinned (OpenSpec.ofChange storeRefusesSpec)

/-- ITS FALSE NEIGHBOUR: 'it returns false'. Refute it at one input. -/
def storeRefusesWrong : ChangeSpec := { name := "storeRefuses", fn := fun _ => fun
  | [d1, d2, d3] => { results := [.lit (.bool false)], args := [d1, d2, d3] }
  | _ => none }
def StoreRefusesWrongFalsely : Prop := storeRefusesRow.holds Tryz.pinned (OpenSpec.ofChange storeRefusesWrong)

/-- 'strongroomlaw16.StoreMaterials': WHATEVER THE INPUT: true; the input reads as it did. -/
def storeMaterialsSpec : ChangeSpec := { name := "storeMaterials", fn := fun _ => fun
  | [d1, d2] => { results := [.lit (.bool true)], args := [d1, d2] }
  | _ => none }
def storeMaterialsRow : OpenClaim := { program := "yteffjpdcghlnlaagreatdoor", sum := "6c1baec9b9c21c4e78a5115263766301d1e2d4a141510519424b9793935edb41", func := "strongroom/strongroomlaw16.StoreMaterials", spec := "storeMaterials", unfollowed := true, recurses := true, named := ["strongroom/sha.roundConstants"], apart := false, laid := [("strongroom/sha.roundConstants", laid_strongroom_sha_roundConstants)] }
def StoreMaterialsSaid : Prop := storeMaterialsRow.holds Tryz.pinned (OpenSpec.ofChange storeMaterialsSpec)

/-- ITS FALSE NEIGHBOUR: 'it returns false'. Refute it at one input. -/
def storeMaterialsWrong : ChangeSpec := { name := "storeMaterials", fn := fun _ => fun
  | [d1, d2] => { results := [.lit (.bool false)], args := [d1, d2] }
  | _ => none }
def StoreMaterialsWrongFalsely : Prop := storeMaterialsRow.holds Tryz.pinned (OpenSpec.ofChange storeMaterialsWrong)

/-- 'strongroomlaw16.StoreSessions': WHATEVER THE INPUT: true; the input reads as it did. -/
def storeSessionsSpec : ChangeSpec := { name := "storeSessions", fn := fun _ => fun
  | [d1, d2] => { results := [.lit (.bool true)], args := [d1, d2] }
  | _ => none }
def storeSessionsRow : OpenClaim := { program := "yteffjpdcghlnlaagreatdoor", sum := "6c1baec9b9c21c4e78a5115263766301d1e2d4a141510519424b9793935edb41", func := "strongroom/strongroomlaw16.StoreSessions", spec := "storeSessions", unfollowed := true, recurses := true, named := ["strongroom/sha.roundConstants"], apart := false, laid := [("strongroom/sha.roundConstants", laid_strongroom_sha_roundConstants)] }
def StoreSessionsSaid : Prop := storeSessionsRow.holds Tryz.pinned (OpenSpec.ofChange storeSessionsSpec)

/-- ITS FALSE NEIGHBOUR: 'it returns false'. Refute it at one input. -/
def storeSessionsWrong : ChangeSpec := { name := "storeSessions", fn := fun _ => fun
  | [d1, d2] => { results := [.lit (.bool false)], args := [d1, d2] }
  | _ => none }
def StoreSessionsWrongFalsely : Prop := storeSessionsRow.holds Tryz.pinned (OpenSpec.ofChange storeSessionsWrong)

/- THE SECOND FORM. 'bulk': how many values and letters a reading holds, each counted each time it is reached (what is shared counts as often as it is met; a slice's spare places count too). A statement '..UptoSaid' is the law's where the arguments, and the package variables that the reading takes, are together of bulk at most 1048576: NARROWER than '..Said'. Prove '..Said' where nothing that the law and all that it calls make is longer than what came in: it says more and counts as full. Else prove '..UptoSaid'. A law counts once. -/
mutual
def uptoBulk {H : Type} : DataW H → Nat
  | .lit (.string bytes) => bytes.length + 1
  | .lit _ => 1
  | .nil => 1
  | .ptr d => uptoBulk d + 1
  | .slice elems spare => uptoBulkAll elems + uptoBulkAll spare + 1
  | .agg parts => uptoBulkAll parts + 1
  | .iface _ d => uptoBulk d + 1
  | .map entries => uptoBulkEntries entries + 1
  | .held _ => 1
def uptoBulkAll {H : Type} : List (DataW H) → Nat
  | [] => 0
  | d :: r => uptoBulk d + uptoBulkAll r
def uptoBulkEntries {H : Type} : List (Lit × DataW H) → Nat
  | [] => 0
  | x :: r => uptoBulkEntry x + uptoBulkEntries r
def uptoBulkEntry {H : Type} : Lit × DataW H → Nat
  | (.string bytes, d) => bytes.length + uptoBulk d + 1
  | (_, d) => uptoBulk d + 1
 end
def uptoSmall : (H : Type) → List (DataW H) → Bool := fun _ ds => decide (uptoBulkAll ds ≤ 1048576)
def OpenSpec.upto (s : _root_.Go.ChangeSpec) : _root_.Go.OpenSpec := { _root_.Go.OpenSpec.ofChange s with cond := some uptoSmall }

/-- 'strongroomlaw16.StorePlays', WHERE WHAT IT READS IS OF BULK AT MOST 1048576: true; the input reads as it did. -/
def storePlaysUptoRow : OpenClaim := { program := "yteffjpdcghlnlaagreatdoor", sum := "6c1baec9b9c21c4e78a5115263766301d1e2d4a141510519424b9793935edb41", func := "strongroom/strongroomlaw16.StorePlays", spec := "storePlays", inPlace := ["maps.clone"], unfollowed := true, recurses := true, named := ["strongroom/sha.roundConstants"], apart := false, laid := [("strongroom/sha.roundConstants", laid_strongroom_sha_roundConstants)], narrowed := true }
def StorePlaysUptoSaid : Prop := storePlaysUptoRow.holds Tryz.pinned (OpenSpec.upto storePlaysSpec)

/-- 'strongroomlaw16.StoreReads', WHERE WHAT IT READS IS OF BULK AT MOST 1048576: true; the input reads as it did. -/
def storeReadsUptoRow : OpenClaim := { program := "yteffjpdcghlnlaagreatdoor", sum := "6c1baec9b9c21c4e78a5115263766301d1e2d4a141510519424b9793935edb41", func := "strongroom/strongroomlaw16.StoreReads", spec := "storeReads", unfollowed := true, recurses := true, named := ["strongroom/sha.roundConstants"], apart := false, laid := [("strongroom/sha.roundConstants", laid_strongroom_sha_roundConstants)], narrowed := true }
def StoreReadsUptoSaid : Prop := storeReadsUptoRow.holds Tryz.pinned (OpenSpec.upto storeReadsSpec)

/-- 'strongroomlaw16.StoreBack', WHERE WHAT IT READS IS OF BULK AT MOST 1048576: true; the input reads as it did. -/
def storeBackUptoRow : OpenClaim := { program := "yteffjpdcghlnlaagreatdoor", sum := "6c1baec9b9c21c4e78a5115263766301d1e2d4a141510519424b9793935edb41", func := "strongroom/strongroomlaw16.StoreBack", spec := "storeBack", unfollowed := true, recurses := true, named := ["strongroom/sha.roundConstants"], apart := false, laid := [("strongroom/sha.roundConstants", laid_strongroom_sha_roundConstants)], narrowed := true }
def StoreBackUptoSaid : Prop := storeBackUptoRow.holds Tryz.pinned (OpenSpec.upto storeBackSpec)

/-- 'strongroomlaw16.StoreAgain', WHERE WHAT IT READS IS OF BULK AT MOST 1048576: true; the input reads as it did. -/
def storeAgainUptoRow : OpenClaim := { program := "yteffjpdcghlnlaagreatdoor", sum := "6c1baec9b9c21c4e78a5115263766301d1e2d4a141510519424b9793935edb41", func := "strongroom/strongroomlaw16.StoreAgain", spec := "storeAgain", unfollowed := true, recurses := true, named := ["strongroom/sha.roundConstants"], apart := false, laid := [("strongroom/sha.roundConstants", laid_strongroom_sha_roundConstants)], narrowed := true }
def StoreAgainUptoSaid : Prop := storeAgainUptoRow.holds Tryz.pinned (OpenSpec.upto storeAgainSpec)

/-- 'strongroomlaw16.StoreRefuses', WHERE WHAT IT READS IS OF BULK AT MOST 1048576: true; the input reads as it did. -/
def storeRefusesUptoRow : OpenClaim := { program := "yteffjpdcghlnlaagreatdoor", sum := "6c1baec9b9c21c4e78a5115263766301d1e2d4a141510519424b9793935edb41", func := "strongroom/strongroomlaw16.StoreRefuses", spec := "storeRefuses", unfollowed := true, recurses := true, named := ["strongroom/sha.roundConstants"], apart := false, laid := [("strongroom/sha.roundConstants", laid_strongroom_sha_roundConstants)], narrowed := true }
def StoreRefusesUptoSaid : Prop := storeRefusesUptoRow.holds Tryz.pinned (OpenSpec.upto storeRefusesSpec)

/-- 'strongroomlaw16.StoreMaterials', WHERE WHAT IT READS IS OF BULK AT MOST 1048576: true; the input reads as it did. -/
def storeMaterialsUptoRow : OpenClaim := { program := "yteffjpdcghlnlaagreatdoor", sum := "6c1baec9b9c21c4e78a5115263766301d1e2d4a141510519424b9793935edb41", func := "strongroom/strongroomlaw16.StoreMaterials", spec := "storeMaterials", unfollowed := true, recurses := true, named := ["strongroom/sha.roundConstants"], apart := false, laid := [("strongroom/sha.roundConstants", laid_strongroom_sha_roundConstants)], narrowed := true }
def StoreMaterialsUptoSaid : Prop := storeMaterialsUptoRow.holds Tryz.pinned (OpenSpec.upto storeMaterialsSpec)

/-- 'strongroomlaw16.StoreSessions', WHERE WHAT IT READS IS OF BULK AT MOST 1048576: true; the input reads as it did. -/
def storeSessionsUptoRow : OpenClaim := { program := "yteffjpdcghlnlaagreatdoor", sum := "6c1baec9b9c21c4e78a5115263766301d1e2d4a141510519424b9793935edb41", func := "strongroom/strongroomlaw16.StoreSessions", spec := "storeSessions", unfollowed := true, recurses := true, named := ["strongroom/sha.roundConstants"], apart := false, laid := [("strongroom/sha.roundConstants", laid_strongroom_sha_roundConstants)], narrowed := true }
def StoreSessionsUptoSaid : Prop := storeSessionsUptoRow.holds Tryz.pinned (OpenSpec.upto storeSessionsSpec)

end Rows
end Go.Proofs.YteffjpdcghlnlaaGreatDoor
