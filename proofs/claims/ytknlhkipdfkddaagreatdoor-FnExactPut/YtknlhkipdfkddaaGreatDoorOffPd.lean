/- Packed. -/
import Derived.OpenShut
import Derived.Lib.BufferOwn
import Derived.Lib.HexFns2
import Derived.Deep.AppendLies
import Derived.Test.YtknlhkipdfkddaaGreatDoorRightAd
set_option maxHeartbeats 20000000
set_option linter.unusedSimpArgs false
namespace Go.Proofs.YtknlhkipdfkddaaGreatDoor
section
open Go.RowKit
def scan(s:ByteArray):Nat->List ByteArray × Nat
 |0=>([],0)
 |k+1=>if jae s k=58 then((scan s k).1++[s.extract (scan s k).2 k],k+1)else scan s k
def parts(s:ByteArray):List ByteArray:=(scan s s.size).1++[s.extract (scan s s.size).2 s.size]
end
section
def hdB(p:ByteArray):Bool:=decide (p.size<=3)&&digs p
def twB(p:ByteArray):Bool:=decide (p.size=2)&&(digs p&&decide (drN p<60))
def pB:List ByteArray->Bool
 |[a]=>hdB a
 |[a,b]=>hdB a&&twB b
 |[a,b,c]=>hdB a&&(twB b&&twB c)
 |_=>false
end
section
open Go.RowKit
theorem jlv(n:Int)(w:World):
  Cl 47 #[iv n] w fun e w'=>e=.returned (.bool (isB n (-62135596800) 253402300799))/\w'=w:=by
 go_enter Tryz.func47,Tryz.ntmps47
 go_wp2_with (go_at_call 42;refine(jau _ _ _ _).mono ?_;rintro e w' ⟨rfl,rfl⟩)
 go_ret
 exact⟨rfl,rfl⟩
end
end Go.Proofs.YtknlhkipdfkddaaGreatDoor
