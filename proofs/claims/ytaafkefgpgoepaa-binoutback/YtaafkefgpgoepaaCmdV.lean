/- Commands, and how they were said, as values. Conditions: none. -/
import Derived.Test.YtaafkefgpgoepaaG00Joined
namespace Go.Proofs.Ytaafkefgpgoepaa

/-- A command as a value, its bytes with it. -/
structure Cv where
  op : Int
  key : ByteArray
  val : List UInt8
  fl : Int
  exp : Int
  cas : Int
  del : Int
  ini : Int
  makes : Bool
  sets : Bool
/-- How a request was said. -/
structure Fv where
  dia : Int
  verb : ByteArray
  code : Int
  opq : Int
  quiet : Bool
  wcas : Bool
  flags : ByteArray
  toks : List ByteArray
  keys : List ByteArray
  b64 : Bool
/-- A request. -/
structure Qv where
  cmds : List Cv
  form : Fv
/-- What the first bytes of a connection are. -/
structure Sv where
  req : Qv
  reply : ByteArray
  used : Int
  skip : Int
  line : Bool
  e : Int
def noF : Fv := ⟨0, ⟨#[]⟩, 0, 0, false, false, ⟨#[]⟩, [], [], false⟩
def noQ : Qv := ⟨[], noF⟩
end Go.Proofs.Ytaafkefgpgoepaa
