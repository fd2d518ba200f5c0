import Derived.Shelf.Strings.Builder1
import Derived.Shelf.Strings.Builder2
import Derived.Shelf.Small.Bits
import Derived.Shelf.Small.Wraps
import Derived.Shelf.Strconv.Itoa0
import Derived.Shelf.Strings.Search1
import Derived.Shelf.Strings.Search2
import Derived.Shelf.Strings.Search3
import Derived.Shelf.Strings.Cut
import Derived.Shelf.Strings.Count
import Derived.Shelf.LaysM
import Derived.Shelf.Strings.Shaped
import Derived.Shelf.Sort.Plain
import Derived.Shelf.Strings.Prefix
import Derived.Shelf.Strings.Split
import Derived.Shelf.Strings.Replace
import Derived.Shelf.Slices.CompactS
import Derived.Shelf.Slices.Cells
import Derived.Shelf.Slices.In.SortNone
import Derived.Ground.SlgmProg
import Derived.Shelf.SortM.Plain
import Derived.Shelf.SortM.SortNone
import Derived.Test.YtmkjofknhdikpaaGreatDoorProg
namespace Go.Proofs
open Go.Shelf
theorem Tryz.kqK{α:Type}{x:Option α}{a b:α}(h:x=some a)(k:a=b:=by kernel_rfl):x=some b:=h.trans (congrArg some k)
theorem Tryz.krK{p:Prop}(h:p:=by kernel_rfl):p:=h
open Tryz
set_option maxRecDepth 20000
def Tryz.lays103_ren : Go.Shelf.Ren := ⟨fun|103=>270|210=>291|206=>311|n=>n,fun|24=>310|n=>n,id⟩
theorem Tryz.lays103 : Go.Proofs.Lays.n103 Tryz.prog Tryz.lays103_ren := ⟨krK,kqK func270,kqK func311,kqK func291,underlying3,isAgg3,sizeOf3,zeroValue3,underlying4,isAgg4,sizeOf4,zeroValue4,underlying9,isAgg9,sizeOf9,zeroValue9,underlying310,isAgg310,sizeOf310,zeroValue310⟩
open Go.RowKit in
theorem Tryz.strings_CutPrefix (s p : ByteArray) (w : World) :
    Calls Tryz.prog 270 #[.string s, .string p] w fun e w' => e = .returned (.tuple #[.string ⟨(Lib.trimPrefix s.data.toList p.data.toList).toArray⟩, .bool (Lib.hasPrefix s.data.toList p.data.toList)]) ∧ w' = w := Any.strings_CutPrefix Tryz.lays103 s p w
def Tryz.lays145_ren : Go.Shelf.Ren := ⟨fun|145=>274|220=>295|219=>296|217=>313|225=>314|224=>315|267=>316|266=>323|314=>324|n=>n,fun|59=>312|46=>94|146=>348|51=>230|n=>n,id⟩
theorem Tryz.lays145 : Go.Proofs.Lays.n145 Tryz.prog Tryz.lays145_ren := ⟨krK,kqK func274,kqK func313,kqK func296,kqK func295,kqK func315,kqK func314,kqK func323,kqK func316,kqK func324,underlying3,isAgg3,sizeOf3,zeroValue3,underlying4,isAgg4,sizeOf4,zeroValue4,underlying5,isAgg5,sizeOf5,zeroValue5,underlying9,isAgg9,sizeOf9,zeroValue9,underlying94,isAgg94,sizeOf94,zeroValue94,underlying230,isAgg230,sizeOf230,zeroValue230,underlying312,isAgg312,sizeOf312,zeroValue312,underlying348,isAgg348,sizeOf348,zeroValue348,krK⟩
open Go.RowKit Go.Lib in
theorem Tryz.strings_Cut (s sep : ByteArray) (m : Int) (w : World) (hs : s.size < 4294967281) (hm : w.cell? ⟨1, 0, none⟩ = some (.int .i64 m)) :
    Calls Tryz.prog 274 #[.string s, .string sep] w fun e w' => e = .returned (.tuple #[.string ⟨(Lib.cut s.data.toList sep.data.toList).1.toArray⟩, .string ⟨(Lib.cut s.data.toList sep.data.toList).2.1.toArray⟩, .bool (Lib.cut s.data.toList sep.data.toList).2.2]) ∧ ∃ n, w' = w.drewN n := Any.strings_Cut Tryz.lays145 s sep m w hs hm
def Tryz.lays138_ren : Go.Shelf.Ren := ⟨fun|138=>245|195=>276|218=>277|143=>278|219=>296|217=>313|225=>314|224=>315|267=>316|266=>323|314=>324|n=>n,fun|46=>94|146=>348|51=>230|n=>n,id⟩
theorem Tryz.lays138 : Go.Proofs.Lays.n138 Tryz.prog Tryz.lays138_ren := ⟨krK,kqK func245,kqK func278,kqK func276,kqK func313,kqK func277,kqK func296,kqK func315,kqK func314,kqK func323,kqK func316,kqK func324,underlying0,isAgg0,sizeOf0,zeroValue0,underlying3,isAgg3,sizeOf3,zeroValue3,underlying4,isAgg4,sizeOf4,zeroValue4,underlying5,isAgg5,sizeOf5,zeroValue5,underlying9,isAgg9,sizeOf9,zeroValue9,underlying94,isAgg94,sizeOf94,zeroValue94,underlying230,isAgg230,sizeOf230,zeroValue230,underlying348,isAgg348,sizeOf348,zeroValue348,krK⟩
open Go.RowKit Go.Lib in
theorem Tryz.strings_Count_one (s : ByteArray) (c : UInt8) (w : World) :
    Calls Tryz.prog 245 #[.string s, .string ⟨#[c]⟩] w fun e w' => e = .returned (.int .i64 (Lib.countByte s.data.toList c)) ∧ w' = w := Any.strings_Count_one Tryz.lays138 s c w
def Tryz.laysM145_ren : Go.Shelf.Ren := ⟨fun|145=>274|220=>295|219=>296|217=>313|225=>314|224=>315|267=>316|266=>323|314=>324|n=>n,fun|59=>312|46=>94|146=>348|51=>230|n=>n,id⟩
theorem Tryz.laysM145 : Go.Proofs.LaysM.n145 Tryz.prog Tryz.laysM145_ren := {mixed:=krK,f145:=kqK func274,f217:=kqK func313,f219:=kqK func296,f220:=kqK func295,f224:=kqK func315,f225:=kqK func314,f266:=kqK func323,f267:=kqK func316,f314:=kqK func324,t3:=underlying3,a3:=isAgg3,z3:=sizeOf3,v3:=zeroValue3,t4:=underlying4,a4:=isAgg4,z4:=sizeOf4,v4:=zeroValue4,t5:=underlying5,a5:=isAgg5,z5:=sizeOf5,v5:=zeroValue5,t9:=underlying9,a9:=isAgg9,z9:=sizeOf9,v9:=zeroValue9,t46:=underlying94,a46:=isAgg94,z46:=sizeOf94,v46:=zeroValue94,t51:=underlying230,a51:=isAgg230,z51:=sizeOf230,v51:=zeroValue230,t59:=underlying312,a59:=isAgg312,z59:=sizeOf312,v59:=zeroValue312,t146:=underlying348,a146:=isAgg348,z146:=sizeOf348,v146:=zeroValue348,g1:=krK,i3:=krK,i4:=krK,i5:=krK,i9:=krK,i46:=krK,i51:=krK,i59:=krK,i146:=krK,m1:=krK,s1_3:=fun w h => Go.Proofs.cell_of_shapedOpen_int (zero := #[.int .i64 0]) (t := 3) h (of_decide_eq_true krK) krK rfl krK krK underlying3}
def Tryz.lays190_ren : Go.Shelf.Ren := ⟨fun|190=>169|125=>135|258=>217|128=>185|129=>186|302=>247|303=>248|304=>249|305=>250|306=>251|307=>252|308=>253|309=>254|310=>255|333=>279|329=>222|330=>223|334=>280|335=>281|336=>282|344=>297|n=>n,fun|31=>59|46=>94|51=>230|53=>84|183=>223|182=>222|131=>227|218=>266|222=>270|228=>293|229=>294|n=>n,id⟩
theorem Tryz.lays190 : Go.Proofs.Lays.n190 Tryz.prog Tryz.lays190_ren := ⟨krK,kqK func135,kqK func185,kqK func186,kqK func169,kqK func217,kqK func247,kqK func248,kqK func249,kqK func250,kqK func251,kqK func252,kqK func253,kqK func254,kqK func255,kqK func222,kqK func223,kqK func279,kqK func280,kqK func281,kqK func282,kqK func297,underlying0,isAgg0,sizeOf0,zeroValue0,underlying3,isAgg3,sizeOf3,zeroValue3,underlying4,isAgg4,sizeOf4,zeroValue4,underlying5,isAgg5,sizeOf5,zeroValue5,underlying9,isAgg9,sizeOf9,zeroValue9,underlying59,isAgg59,sizeOf59,zeroValue59,underlying94,isAgg94,sizeOf94,zeroValue94,underlying230,isAgg230,sizeOf230,zeroValue230,underlying84,isAgg84,sizeOf84,zeroValue84,underlying227,isAgg227,sizeOf227,zeroValue227,underlying222,isAgg222,sizeOf222,zeroValue222,underlying223,isAgg223,sizeOf223,zeroValue223,underlying266,isAgg266,sizeOf266,zeroValue266,underlying270,isAgg270,sizeOf270,zeroValue270,underlying293,isAgg293,sizeOf293,zeroValue293,underlying294,isAgg294,sizeOf294,zeroValue294⟩
open Go.Sort Go.RowKit in
theorem Tryz.slices_Sort_string (blk off cap : Nat) (ss : List (List UInt8)) (w : World) (hH : Holds encStr w blk off ss.toArray) (hblk : blk < w.heap.size) (hsz : ss.length < 4611686018427387904) :
    Calls Tryz.prog 169 #[.slice (some ⟨blk, off, none⟩) ss.length cap] w fun e w' =>
      e = .returned (.tuple #[]) ∧ ∃ n os, w' = grow (putRow encStr (Sort.ahead w n) blk off (ss.mergeSort fun x y => decide (x ≤ y)).toArray) os := Any.slices_Sort_string Tryz.lays190 blk off cap ss w hH hblk hsz
def Tryz.lays154_ren : Go.Shelf.Ren := ⟨fun|154=>288|138=>245|165=>307|143=>278|166=>308|197=>309|169=>310|195=>276|218=>277|240=>320|241=>321|219=>296|260=>322|276=>326|277=>327|217=>313|225=>314|224=>315|267=>316|266=>323|314=>324|n=>n,fun|72=>336|76=>339|105=>341|70=>334|37=>22|75=>338|127=>347|164=>351|46=>94|119=>354|139=>357|138=>356|146=>348|51=>230|80=>70|n=>n,fun|3=>2|4=>3|n=>n⟩
theorem Tryz.lays154 : Go.Proofs.Lays.n154 Tryz.prog Tryz.lays154_ren := ⟨krK,kqK func245,kqK func278,kqK func288,kqK func307,kqK func308,kqK func310,kqK func276,kqK func309,kqK func313,kqK func277,kqK func296,kqK func315,kqK func314,kqK func320,kqK func321,kqK func322,kqK func323,kqK func316,kqK func326,kqK func327,kqK func324,underlying0,isAgg0,sizeOf0,zeroValue0,underlying3,isAgg3,sizeOf3,zeroValue3,underlying4,isAgg4,sizeOf4,zeroValue4,underlying5,isAgg5,sizeOf5,zeroValue5,underlying9,isAgg9,sizeOf9,zeroValue9,underlying20,isAgg20,sizeOf20,zeroValue20,underlying21,isAgg21,sizeOf21,zeroValue21,underlying22,isAgg22,sizeOf22,zeroValue22,underlying94,isAgg94,sizeOf94,zeroValue94,underlying230,isAgg230,sizeOf230,zeroValue230,underlying334,isAgg334,sizeOf334,zeroValue334,underlying336,isAgg336,sizeOf336,zeroValue336,underlying338,isAgg338,sizeOf338,zeroValue338,underlying339,isAgg339,sizeOf339,zeroValue339,underlying341,isAgg341,sizeOf341,zeroValue341,underlying354,isAgg354,sizeOf354,underlying347,isAgg347,sizeOf347,zeroValue347,underlying356,isAgg356,sizeOf356,zeroValue356,underlying357,isAgg357,sizeOf357,zeroValue357,underlying348,isAgg348,sizeOf348,zeroValue348,underlying351,isAgg351,sizeOf351,zeroValue351,krK,krK,krK⟩
theorem Tryz.Builder_Extra_154 : Builder.Extra Tryz.prog Tryz.lays154_ren := {sizeBuilder:=krK,liesBuilder:=krK,t5:=underlying5,a5:=isAgg5,z5:=sizeOf5,v5:=zeroValue5,infoByte:=krK,cellsByte:=krK,sizeByte:=krK,neB5:=by decide}
open Go.RowKit Go.Lib in
theorem Tryz.strings_Replace (s old new : ByteArray) (n : Int) (m : Int) (w : World) (hs : s.size < 4294967281) (hm : w.cell? ⟨1, 0, none⟩ = some (.int .i64 m)) (h1 : 1 ≤ old.size) (hlen : s.size + Lib.countB s old * new.size ≤ 140737488355328) :
    Calls Tryz.prog 288 #[.string s, .string old, .string new, .int .i64 n] w fun e w' =>
      e = .returned (.string ⟨(Lib.replace s.data.toList old.data.toList new.data.toList n).toArray⟩) ∧ Below w.heap.size w w' := Any.strings_Replace Tryz.lays154 Tryz.Builder_Extra_154 s old new n m w hs hm h1 hlen
def Tryz.lays194_ren : Go.Shelf.Ren := ⟨fun|194=>170|n=>n,fun|31=>59|n=>n,id⟩
theorem Tryz.lays194 : Go.Proofs.Lays.n194 Tryz.prog Tryz.lays194_ren := ⟨krK,kqK func170,underlying0,isAgg0,sizeOf0,zeroValue0,underlying3,isAgg3,sizeOf3,zeroValue3,underlying4,isAgg4,sizeOf4,zeroValue4,underlying9,isAgg9,sizeOf9,zeroValue9,underlying59,isAgg59,sizeOf59,zeroValue59⟩
open Go.RowKit Go.Lib Go.Sort in
theorem Tryz.slices_Compact_string (blk off cap : Nat) (zs : List (List UInt8)) (w : World) (hH : Holds encStr w blk off zs.toArray) (hsz : zs.length ≤ 9223372036854775807) (hcap : zs.length ≤ cap) :
    Calls Tryz.prog 170 #[.slice (some ⟨blk, off, none⟩) zs.length cap] w fun e w' => e = .returned (.slice (some ⟨blk, off, none⟩) (Lib.compact zs).length cap) ∧ ∃ q, w' = putRow encStr (Sort.ahead w q) blk off (Lib.compact zs ++ List.replicate (zs.length - (Lib.compact zs).length) []).toArray := Any.slices_Compact_string Tryz.lays194 blk off cap zs w hH hsz hcap
open Go.RowKit Go.Lib Go.Sort in
theorem Tryz.slices_Compact_string_empty (a : Option Addr) (cap : Nat) (w : World) :
    Calls Tryz.prog 170 #[.slice a 0 cap] w fun e w' => e = .returned (.slice a 0 cap) ∧ w' = w := Any.slices_Compact_string_empty Tryz.lays194 a cap w
open Go.RowKit Go.Sort in
theorem Tryz.slices_Sort_string_none (p : Option Addr) (cap : Nat) (w : World) :
    Calls Tryz.prog 169 #[.slice p 0 cap] w fun e w' => e = .returned (.tuple #[]) ∧ w' = w := Any.slices_Sort_string_none Tryz.lays190 p cap w
def Tryz.laysSlM5_f265_ren : Go.Shelf.Ren := ⟨fun|5=>265|8=>135|7=>287|19=>185|20=>186|10=>298|11=>299|12=>300|13=>301|14=>302|15=>303|16=>304|17=>305|18=>306|30=>317|31=>222|32=>223|33=>318|34=>319|35=>67|40=>325|n=>n,fun|23=>91|25=>2|32=>94|22=>91|44=>230|46=>84|36=>223|35=>222|41=>227|53=>266|57=>270|63=>293|64=>294|n=>n,id⟩
theorem Tryz.laysSlM5_f265 : Go.Proofs.SlLaysM.n5 Tryz.prog Tryz.laysSlM5_f265_ren := ⟨krK,⟨f265.name, by decide, func265.trans (congrArg some krK)⟩,⟨f287.name, by decide, func287.trans (congrArg some krK)⟩,kqK func135,⟨f298.name, by decide, func298.trans (congrArg some krK)⟩,⟨f299.name, by decide, func299.trans (congrArg some krK)⟩,⟨f300.name, by decide, func300.trans (congrArg some krK)⟩,⟨f301.name, by decide, func301.trans (congrArg some krK)⟩,⟨f302.name, by decide, func302.trans (congrArg some krK)⟩,⟨f303.name, by decide, func303.trans (congrArg some krK)⟩,⟨f304.name, by decide, func304.trans (congrArg some krK)⟩,⟨f305.name, by decide, func305.trans (congrArg some krK)⟩,⟨f306.name, by decide, func306.trans (congrArg some krK)⟩,kqK func185,kqK func186,⟨f317.name, by decide, func317.trans (congrArg some krK)⟩,kqK func222,kqK func223,⟨f318.name, by decide, func318.trans (congrArg some krK)⟩,⟨f319.name, by decide, func319.trans (congrArg some krK)⟩,⟨f67.name, by decide, func67.trans (congrArg some krK)⟩,⟨f325.name, by decide, func325.trans (congrArg some krK)⟩,underlying0,isAgg0,sizeOf0,zeroValue0,underlying3,isAgg3,sizeOf3,zeroValue3,underlying4,isAgg4,sizeOf4,zeroValue4,underlying5,isAgg5,sizeOf5,zeroValue5,underlying9,isAgg9,sizeOf9,zeroValue9,underlying91,isAgg91,sizeOf91,zeroValue91,underlying91,isAgg91,sizeOf91,zeroValue91,underlying2,isAgg2,sizeOf2,zeroValue2,underlying94,isAgg94,sizeOf94,zeroValue94,underlying222,isAgg222,sizeOf222,zeroValue222,underlying223,isAgg223,sizeOf223,zeroValue223,underlying227,isAgg227,sizeOf227,zeroValue227,underlying230,isAgg230,sizeOf230,zeroValue230,underlying84,isAgg84,sizeOf84,zeroValue84,underlying266,isAgg266,sizeOf266,zeroValue266,underlying270,isAgg270,sizeOf270,zeroValue270,underlying293,isAgg293,sizeOf293,zeroValue293,underlying294,isAgg294,sizeOf294,zeroValue294⟩
open Go.Sort Go.RowKit in
theorem Tryz.slices_Sort_int (blk off cap : Nat) (zs : List Int) (w : World) (hH : Holds (Value.int .i64) w blk off zs.toArray) (hblk : blk < w.heap.size) (hsz : zs.length < 4611686018427387904) :
    Calls Tryz.prog 265 #[.slice (some ⟨blk, off, none⟩) zs.length cap] w fun e w' =>
      e = .returned (.tuple #[]) ∧ ∃ n os, w' = grow (putRow (Value.int .i64) (Sort.ahead w n) blk off (zs.mergeSort fun x y => decide (x ≤ y)).toArray) os := AnyM.slices_Sort_int Tryz.laysSlM5_f265 blk off cap zs w hH hblk hsz
end Go.Proofs
