import Derived.Shelf.Strings.Builder1
import Derived.Shelf.Strings.Builder2
import Derived.Shelf.Small.Bits
import Derived.Shelf.Small.Wraps
import Derived.Shelf.Strconv.Itoa0
import Derived.Shelf.Strings.Search1
import Derived.Shelf.Strings.Search2
import Derived.Shelf.Strings.Search3
import Derived.Shelf.Strings.Cut
import Derived.Shelf.Strings.Count
import Derived.Shelf.LaysM
import Derived.Shelf.Strings.Shaped
import Derived.Shelf.Sort.Plain
import Derived.Shelf.Strings.Prefix
import Derived.Shelf.Strings.Split
import Derived.Shelf.Strings.Replace
import Derived.Shelf.Strings.SplitShaped
import Derived.Shelf.Slices.CompactS
import Derived.Shelf.Slices.Cells
import Derived.Shelf.Slices.In.SortNone
import Derived.Ground.SlgmProg
import Derived.Shelf.SortM.Plain
import Derived.Shelf.SortM.SortNone
import Derived.Test.YtbbgeelamjmgaaaGreatDoorProg
namespace Go.Proofs
open Go.Shelf
theorem Tryz.kqK{α:Type}{x:Option α}{a b:α}(h:x=some a)(k:a=b:=by kernel_rfl):x=some b:=h.trans (congrArg some k)
theorem Tryz.krK{p:Prop}(h:p:=by kernel_rfl):p:=h
open Tryz
set_option maxRecDepth 20000
def Tryz.lays103_ren : Go.Shelf.Ren := ⟨fun|103=>250|210=>273|206=>290|n=>n,fun|24=>291|n=>n,id⟩
theorem Tryz.lays103 : Go.Proofs.Lays.n103 Tryz.prog Tryz.lays103_ren := ⟨krK,kqK func250,kqK func290,kqK func273,underlying3,isAgg3,sizeOf3,zeroValue3,underlying4,isAgg4,sizeOf4,zeroValue4,underlying9,isAgg9,sizeOf9,zeroValue9,underlying291,isAgg291,sizeOf291,zeroValue291⟩
open Go.RowKit in
theorem Tryz.strings_CutPrefix (s p : ByteArray) (w : World) :
    Calls Tryz.prog 250 #[.string s, .string p] w fun e w' => e = .returned (.tuple #[.string ⟨(Lib.trimPrefix s.data.toList p.data.toList).toArray⟩, .bool (Lib.hasPrefix s.data.toList p.data.toList)]) ∧ w' = w := Any.strings_CutPrefix Tryz.lays103 s p w
def Tryz.lays145_ren : Go.Shelf.Ren := ⟨fun|145=>254|220=>277|219=>278|217=>292|225=>293|224=>294|267=>295|266=>302|314=>303|n=>n,fun|59=>293|46=>132|146=>330|51=>216|n=>n,id⟩
theorem Tryz.lays145 : Go.Proofs.Lays.n145 Tryz.prog Tryz.lays145_ren := ⟨krK,kqK func254,kqK func292,kqK func278,kqK func277,kqK func294,kqK func293,kqK func302,kqK func295,kqK func303,underlying3,isAgg3,sizeOf3,zeroValue3,underlying4,isAgg4,sizeOf4,zeroValue4,underlying5,isAgg5,sizeOf5,zeroValue5,underlying9,isAgg9,sizeOf9,zeroValue9,underlying132,isAgg132,sizeOf132,zeroValue132,underlying216,isAgg216,sizeOf216,zeroValue216,underlying293,isAgg293,sizeOf293,zeroValue293,underlying330,isAgg330,sizeOf330,zeroValue330,krK⟩
open Go.RowKit Go.Lib in
theorem Tryz.strings_Cut (s sep : ByteArray) (m : Int) (w : World) (hs : s.size < 4294967281) (hm : w.cell? ⟨1, 0, none⟩ = some (.int .i64 m)) :
    Calls Tryz.prog 254 #[.string s, .string sep] w fun e w' => e = .returned (.tuple #[.string ⟨(Lib.cut s.data.toList sep.data.toList).1.toArray⟩, .string ⟨(Lib.cut s.data.toList sep.data.toList).2.1.toArray⟩, .bool (Lib.cut s.data.toList sep.data.toList).2.2]) ∧ ∃ n, w' = w.drewN n := Any.strings_Cut Tryz.lays145 s sep m w hs hm
def Tryz.lays138_ren : Go.Shelf.Ren := ⟨fun|138=>224|195=>256|218=>257|143=>258|219=>278|217=>292|225=>293|224=>294|267=>295|266=>302|314=>303|n=>n,fun|46=>132|146=>330|51=>216|n=>n,id⟩
theorem Tryz.lays138 : Go.Proofs.Lays.n138 Tryz.prog Tryz.lays138_ren := ⟨krK,kqK func224,kqK func258,kqK func256,kqK func292,kqK func257,kqK func278,kqK func294,kqK func293,kqK func302,kqK func295,kqK func303,underlying0,isAgg0,sizeOf0,zeroValue0,underlying3,isAgg3,sizeOf3,zeroValue3,underlying4,isAgg4,sizeOf4,zeroValue4,underlying5,isAgg5,sizeOf5,zeroValue5,underlying9,isAgg9,sizeOf9,zeroValue9,underlying132,isAgg132,sizeOf132,zeroValue132,underlying216,isAgg216,sizeOf216,zeroValue216,underlying330,isAgg330,sizeOf330,zeroValue330,krK⟩
open Go.RowKit Go.Lib in
theorem Tryz.strings_Count_one (s : ByteArray) (c : UInt8) (w : World) :
    Calls Tryz.prog 224 #[.string s, .string ⟨#[c]⟩] w fun e w' => e = .returned (.int .i64 (Lib.countByte s.data.toList c)) ∧ w' = w := Any.strings_Count_one Tryz.lays138 s c w
def Tryz.laysM145_ren : Go.Shelf.Ren := ⟨fun|145=>254|220=>277|219=>278|217=>292|225=>293|224=>294|267=>295|266=>302|314=>303|n=>n,fun|59=>293|46=>132|146=>330|51=>216|n=>n,id⟩
theorem Tryz.laysM145 : Go.Proofs.LaysM.n145 Tryz.prog Tryz.laysM145_ren := {mixed:=krK,f145:=kqK func254,f217:=kqK func292,f219:=kqK func278,f220:=kqK func277,f224:=kqK func294,f225:=kqK func293,f266:=kqK func302,f267:=kqK func295,f314:=kqK func303,t3:=underlying3,a3:=isAgg3,z3:=sizeOf3,v3:=zeroValue3,t4:=underlying4,a4:=isAgg4,z4:=sizeOf4,v4:=zeroValue4,t5:=underlying5,a5:=isAgg5,z5:=sizeOf5,v5:=zeroValue5,t9:=underlying9,a9:=isAgg9,z9:=sizeOf9,v9:=zeroValue9,t46:=underlying132,a46:=isAgg132,z46:=sizeOf132,v46:=zeroValue132,t51:=underlying216,a51:=isAgg216,z51:=sizeOf216,v51:=zeroValue216,t59:=underlying293,a59:=isAgg293,z59:=sizeOf293,v59:=zeroValue293,t146:=underlying330,a146:=isAgg330,z146:=sizeOf330,v146:=zeroValue330,g1:=krK,i3:=krK,i4:=krK,i5:=krK,i9:=krK,i46:=krK,i51:=krK,i59:=krK,i146:=krK,m1:=krK,s1_3:=fun w h => Go.Proofs.cell_of_shapedOpen_int (zero := #[.int .i64 0]) (t := 3) h (of_decide_eq_true krK) krK rfl krK krK underlying3}
def Tryz.lays190_ren : Go.Shelf.Ren := ⟨fun|190=>156|125=>142|258=>191|128=>174|129=>175|302=>226|303=>227|304=>228|305=>229|306=>230|307=>231|308=>232|309=>233|310=>234|333=>259|329=>208|330=>209|334=>260|335=>261|336=>262|344=>279|n=>n,fun|31=>92|46=>132|51=>216|53=>83|183=>209|182=>208|131=>213|218=>247|222=>251|228=>286|229=>287|n=>n,id⟩
theorem Tryz.lays190 : Go.Proofs.Lays.n190 Tryz.prog Tryz.lays190_ren := ⟨krK,kqK func142,kqK func174,kqK func175,kqK func156,kqK func191,kqK func226,kqK func227,kqK func228,kqK func229,kqK func230,kqK func231,kqK func232,kqK func233,kqK func234,kqK func208,kqK func209,kqK func259,kqK func260,kqK func261,kqK func262,kqK func279,underlying0,isAgg0,sizeOf0,zeroValue0,underlying3,isAgg3,sizeOf3,zeroValue3,underlying4,isAgg4,sizeOf4,zeroValue4,underlying5,isAgg5,sizeOf5,zeroValue5,underlying9,isAgg9,sizeOf9,zeroValue9,underlying92,isAgg92,sizeOf92,zeroValue92,underlying132,isAgg132,sizeOf132,zeroValue132,underlying216,isAgg216,sizeOf216,zeroValue216,underlying83,isAgg83,sizeOf83,zeroValue83,underlying213,isAgg213,sizeOf213,zeroValue213,underlying208,isAgg208,sizeOf208,zeroValue208,underlying209,isAgg209,sizeOf209,zeroValue209,underlying247,isAgg247,sizeOf247,zeroValue247,underlying251,isAgg251,sizeOf251,zeroValue251,underlying286,isAgg286,sizeOf286,zeroValue286,underlying287,isAgg287,sizeOf287,zeroValue287⟩
open Go.Sort Go.RowKit in
theorem Tryz.slices_Sort_string (blk off cap : Nat) (ss : List (List UInt8)) (w : World) (hH : Holds encStr w blk off ss.toArray) (hblk : blk < w.heap.size) (hsz : ss.length < 4611686018427387904) :
    Calls Tryz.prog 156 #[.slice (some ⟨blk, off, none⟩) ss.length cap] w fun e w' =>
      e = .returned (.tuple #[]) ∧ ∃ n os, w' = grow (putRow encStr (Sort.ahead w n) blk off (ss.mergeSort fun x y => decide (x ≤ y)).toArray) os := Any.slices_Sort_string Tryz.lays190 blk off cap ss w hH hblk hsz
def Tryz.lays154_ren : Go.Shelf.Ren := ⟨fun|154=>301|138=>224|165=>313|143=>258|166=>314|197=>315|169=>316|195=>256|218=>257|240=>320|241=>321|219=>278|260=>322|276=>324|277=>325|217=>292|225=>293|224=>294|267=>295|266=>302|314=>303|n=>n,fun|72=>342|76=>345|105=>347|70=>340|37=>22|75=>344|127=>351|164=>353|46=>132|119=>356|139=>359|138=>358|146=>330|51=>216|80=>87|n=>n,fun|3=>2|4=>3|n=>n⟩
theorem Tryz.lays154 : Go.Proofs.Lays.n154 Tryz.prog Tryz.lays154_ren := ⟨krK,kqK func224,kqK func258,kqK func301,kqK func313,kqK func314,kqK func316,kqK func256,kqK func315,kqK func292,kqK func257,kqK func278,kqK func294,kqK func293,kqK func320,kqK func321,kqK func322,kqK func302,kqK func295,kqK func324,kqK func325,kqK func303,underlying0,isAgg0,sizeOf0,zeroValue0,underlying3,isAgg3,sizeOf3,zeroValue3,underlying4,isAgg4,sizeOf4,zeroValue4,underlying5,isAgg5,sizeOf5,zeroValue5,underlying9,isAgg9,sizeOf9,zeroValue9,underlying20,isAgg20,sizeOf20,zeroValue20,underlying21,isAgg21,sizeOf21,zeroValue21,underlying22,isAgg22,sizeOf22,zeroValue22,underlying132,isAgg132,sizeOf132,zeroValue132,underlying216,isAgg216,sizeOf216,zeroValue216,underlying340,isAgg340,sizeOf340,zeroValue340,underlying342,isAgg342,sizeOf342,zeroValue342,underlying344,isAgg344,sizeOf344,zeroValue344,underlying345,isAgg345,sizeOf345,zeroValue345,underlying347,isAgg347,sizeOf347,zeroValue347,underlying356,isAgg356,sizeOf356,underlying351,isAgg351,sizeOf351,zeroValue351,underlying358,isAgg358,sizeOf358,zeroValue358,underlying359,isAgg359,sizeOf359,zeroValue359,underlying330,isAgg330,sizeOf330,zeroValue330,underlying353,isAgg353,sizeOf353,zeroValue353,krK,krK,krK⟩
theorem Tryz.Builder_Extra_154 : Builder.Extra Tryz.prog Tryz.lays154_ren := {sizeBuilder:=krK,liesBuilder:=krK,t5:=underlying5,a5:=isAgg5,z5:=sizeOf5,v5:=zeroValue5,infoByte:=krK,cellsByte:=krK,sizeByte:=krK,neB5:=by decide}
open Go.RowKit Go.Lib in
theorem Tryz.strings_Replace (s old new : ByteArray) (n : Int) (m : Int) (w : World) (hs : s.size < 4294967281) (hm : w.cell? ⟨1, 0, none⟩ = some (.int .i64 m)) (h1 : 1 ≤ old.size) (hlen : s.size + Lib.countB s old * new.size ≤ 140737488355328) :
    Calls Tryz.prog 301 #[.string s, .string old, .string new, .int .i64 n] w fun e w' =>
      e = .returned (.string ⟨(Lib.replace s.data.toList old.data.toList new.data.toList n).toArray⟩) ∧ Below w.heap.size w w' := Any.strings_Replace Tryz.lays154 Tryz.Builder_Extra_154 s old new n m w hs hm h1 hlen
def Tryz.lays194_ren : Go.Shelf.Ren := ⟨fun|194=>157|n=>n,fun|31=>92|n=>n,id⟩
theorem Tryz.lays194 : Go.Proofs.Lays.n194 Tryz.prog Tryz.lays194_ren := ⟨krK,kqK func157,underlying0,isAgg0,sizeOf0,zeroValue0,underlying3,isAgg3,sizeOf3,zeroValue3,underlying4,isAgg4,sizeOf4,zeroValue4,underlying9,isAgg9,sizeOf9,zeroValue9,underlying92,isAgg92,sizeOf92,zeroValue92⟩
open Go.RowKit Go.Lib Go.Sort in
theorem Tryz.slices_Compact_string (blk off cap : Nat) (zs : List (List UInt8)) (w : World) (hH : Holds encStr w blk off zs.toArray) (hsz : zs.length ≤ 9223372036854775807) (hcap : zs.length ≤ cap) :
    Calls Tryz.prog 157 #[.slice (some ⟨blk, off, none⟩) zs.length cap] w fun e w' => e = .returned (.slice (some ⟨blk, off, none⟩) (Lib.compact zs).length cap) ∧ ∃ q, w' = putRow encStr (Sort.ahead w q) blk off (Lib.compact zs ++ List.replicate (zs.length - (Lib.compact zs).length) []).toArray := Any.slices_Compact_string Tryz.lays194 blk off cap zs w hH hsz hcap
open Go.RowKit Go.Lib Go.Sort in
theorem Tryz.slices_Compact_string_empty (a : Option Addr) (cap : Nat) (w : World) :
    Calls Tryz.prog 157 #[.slice a 0 cap] w fun e w' => e = .returned (.slice a 0 cap) ∧ w' = w := Any.slices_Compact_string_empty Tryz.lays194 a cap w
open Go.RowKit Go.Sort in
theorem Tryz.slices_Sort_string_none (p : Option Addr) (cap : Nat) (w : World) :
    Calls Tryz.prog 156 #[.slice p 0 cap] w fun e w' => e = .returned (.tuple #[]) ∧ w' = w := Any.slices_Sort_string_none Tryz.lays190 p cap w
def Tryz.laysSlM5_f288_ren : Go.Shelf.Ren := ⟨fun|5=>288|8=>142|7=>300|19=>174|20=>175|10=>304|11=>305|12=>306|13=>307|14=>308|15=>309|16=>310|17=>311|18=>312|30=>317|31=>208|32=>209|33=>318|34=>319|35=>103|40=>323|n=>n,fun|23=>90|25=>2|32=>132|22=>90|44=>216|46=>83|36=>209|35=>208|41=>213|53=>247|57=>251|63=>286|64=>287|n=>n,id⟩
theorem Tryz.laysSlM5_f288 : Go.Proofs.SlLaysM.n5 Tryz.prog Tryz.laysSlM5_f288_ren := ⟨krK,⟨f288.name, by decide, func288.trans (congrArg some krK)⟩,⟨f300.name, by decide, func300.trans (congrArg some krK)⟩,kqK func142,⟨f304.name, by decide, func304.trans (congrArg some krK)⟩,⟨f305.name, by decide, func305.trans (congrArg some krK)⟩,⟨f306.name, by decide, func306.trans (congrArg some krK)⟩,⟨f307.name, by decide, func307.trans (congrArg some krK)⟩,⟨f308.name, by decide, func308.trans (congrArg some krK)⟩,⟨f309.name, by decide, func309.trans (congrArg some krK)⟩,⟨f310.name, by decide, func310.trans (congrArg some krK)⟩,⟨f311.name, by decide, func311.trans (congrArg some krK)⟩,⟨f312.name, by decide, func312.trans (congrArg some krK)⟩,kqK func174,kqK func175,⟨f317.name, by decide, func317.trans (congrArg some krK)⟩,kqK func208,kqK func209,⟨f318.name, by decide, func318.trans (congrArg some krK)⟩,⟨f319.name, by decide, func319.trans (congrArg some krK)⟩,⟨f103.name, by decide, func103.trans (congrArg some krK)⟩,⟨f323.name, by decide, func323.trans (congrArg some krK)⟩,underlying0,isAgg0,sizeOf0,zeroValue0,underlying3,isAgg3,sizeOf3,zeroValue3,underlying4,isAgg4,sizeOf4,zeroValue4,underlying5,isAgg5,sizeOf5,zeroValue5,underlying9,isAgg9,sizeOf9,zeroValue9,underlying90,isAgg90,sizeOf90,zeroValue90,underlying90,isAgg90,sizeOf90,zeroValue90,underlying2,isAgg2,sizeOf2,zeroValue2,underlying132,isAgg132,sizeOf132,zeroValue132,underlying208,isAgg208,sizeOf208,zeroValue208,underlying209,isAgg209,sizeOf209,zeroValue209,underlying213,isAgg213,sizeOf213,zeroValue213,underlying216,isAgg216,sizeOf216,zeroValue216,underlying83,isAgg83,sizeOf83,zeroValue83,underlying247,isAgg247,sizeOf247,zeroValue247,underlying251,isAgg251,sizeOf251,zeroValue251,underlying286,isAgg286,sizeOf286,zeroValue286,underlying287,isAgg287,sizeOf287,zeroValue287⟩
open Go.Sort Go.RowKit in
theorem Tryz.slices_Sort_int (blk off cap : Nat) (zs : List Int) (w : World) (hH : Holds (Value.int .i64) w blk off zs.toArray) (hblk : blk < w.heap.size) (hsz : zs.length < 4611686018427387904) :
    Calls Tryz.prog 288 #[.slice (some ⟨blk, off, none⟩) zs.length cap] w fun e w' =>
      e = .returned (.tuple #[]) ∧ ∃ n os, w' = grow (putRow (Value.int .i64) (Sort.ahead w n) blk off (zs.mergeSort fun x y => decide (x ≤ y)).toArray) os := AnyM.slices_Sort_int Tryz.laysSlM5_f288 blk off cap zs w hH hblk hsz
end Go.Proofs
