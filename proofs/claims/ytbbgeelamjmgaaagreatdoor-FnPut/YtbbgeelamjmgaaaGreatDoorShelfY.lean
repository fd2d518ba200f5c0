import Derived.Shelf.SlSortCmp.NoneTotal
import Derived.Ground.SlsfProg
import Derived.Ground.NamesProg
import Derived.Test.YtbbgeelamjmgaaaGreatDoorProg
namespace Go.Proofs
open Go.Shelf
theorem Tryz.kqY{α:Type}{x:Option α}{a b:α}(h:x=some a)(k:a=b:=by kernel_rfl):x=some b:=h.trans (congrArg some k)
theorem Tryz.krY{p:Prop}(h:p:=by kernel_rfl):p:=h
open Tryz
set_option maxRecDepth 20000
def Tryz.laysSlF_f101_ren : Go.Shelf.Ren := ⟨fun|6=>101|15=>142|14=>141|28=>174|29=>175|20=>166|21=>167|22=>168|23=>169|24=>170|25=>171|26=>172|27=>173|46=>207|47=>208|48=>209|49=>210|50=>211|57=>245|n=>n,fun|22=>40|24=>33|25=>113|39=>132|53=>216|55=>83|46=>209|45=>208|50=>213|66=>247|70=>251|76=>286|77=>287|n=>n,id⟩
theorem Tryz.laysSlF_f101 : Go.Proofs.SlLaysF0.n6 Tryz.prog Tryz.laysSlF_f101_ren := ⟨krY,⟨f101.name, by decide, func101.trans (congrArg some krY)⟩,⟨f141.name, by decide, func141.trans (congrArg some krY)⟩,kqY func142,⟨f166.name, by decide, func166.trans (congrArg some krY)⟩,⟨f167.name, by decide, func167.trans (congrArg some krY)⟩,⟨f168.name, by decide, func168.trans (congrArg some krY)⟩,⟨f169.name, by decide, func169.trans (congrArg some krY)⟩,⟨f170.name, by decide, func170.trans (congrArg some krY)⟩,⟨f171.name, by decide, func171.trans (congrArg some krY)⟩,⟨f172.name, by decide, func172.trans (congrArg some krY)⟩,⟨f173.name, by decide, func173.trans (congrArg some krY)⟩,kqY func174,kqY func175,⟨f207.name, by decide, func207.trans (congrArg some krY)⟩,kqY func208,kqY func209,⟨f210.name, by decide, func210.trans (congrArg some krY)⟩,⟨f211.name, by decide, func211.trans (congrArg some krY)⟩,⟨f245.name, by decide, func245.trans (congrArg some krY)⟩,underlying0,isAgg0,sizeOf0,zeroValue0,underlying3,isAgg3,sizeOf3,zeroValue3,underlying4,isAgg4,sizeOf4,zeroValue4,underlying5,isAgg5,sizeOf5,zeroValue5,underlying9,isAgg9,sizeOf9,zeroValue9,underlying40,isAgg40,sizeOf40,zeroValue40,underlying113,isAgg113,sizeOf113,zeroValue113,underlying132,isAgg132,sizeOf132,zeroValue132,underlying208,isAgg208,sizeOf208,zeroValue208,underlying209,isAgg209,sizeOf209,zeroValue209,underlying213,isAgg213,sizeOf213,zeroValue213,underlying216,isAgg216,sizeOf216,zeroValue216,underlying83,isAgg83,sizeOf83,zeroValue83,underlying247,isAgg247,sizeOf247,zeroValue247,underlying251,isAgg251,sizeOf251,zeroValue251,underlying286,isAgg286,sizeOf286,zeroValue286,underlying287,isAgg287,sizeOf287,zeroValue287⟩
open Go.RowKit Go.Sort Go.Lib in
theorem Tryz.sortFuncY_total {α : Type} [Inhabited α] (k : Nat) (aE : ∀ w, (isAgg 33).run Tryz.prog w = .ok true w) (zE : ∀ w, (Go.sizeOf 33).run Tryz.prog w = .ok k w) (enc : α → List Value) (hk : ∀ x, (enc x).length = k) (h1 : ∀ x, ∀ v ∈ enc x, v.oneCell' = true) (cf : α → α → Int) (hO : SWO (ltOf cf)) (g : Nat) (cb : Array Value) (blk off cap : Nat) (d : Array α) (w : World)
    (eg : ∀ args w, (callFunc g args).run Tryz.prog w = .ok (.enter g args) w) (hcmp : CmpLays Tryz.prog g cb enc k cf blk off d.size w) (hH : HoldsK enc k w blk off d) (hblk : blk < w.heap.size) (hsz : d.size < 4611686018427387904) (hT : ∀ x y, (ltOf cf) x y = false → (ltOf cf) y x = false → x = y) :
    Calls Tryz.prog 101 #[.slice (some ⟨blk, off, none⟩) d.size cap, .func (.func g) #[] cb] w fun e w' =>
      e = .returned (.tuple #[]) ∧ ∃ n os, w' = sortWorldK enc k w blk off n (d.toList.mergeSort fun x y => !(ltOf cf) y x).toArray os := AnyQ.slices_SortFunc_total Tryz.laysSlF_f101 k aE zE enc hk h1 cf hO g cb blk off cap d w eg hcmp hH hblk hsz hT
open Go.RowKit Go.Sort in
theorem Tryz.sortFuncY_none (p : Option Addr) (cap : Nat) (fv : Value) (w : World) :
    Calls Tryz.prog 101 #[.slice p 0 cap, fv] w fun e w' => e = .returned (.tuple #[]) ∧ w' = w := AnyF.slices_SortFunc_none Tryz.laysSlF_f101 p cap fv w
end Go.Proofs
