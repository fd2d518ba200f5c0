import Derived.Shelf.SlSortCmp.NoneTotal
import Derived.Ground.SlsfProg
import Derived.Ground.NamesProg
import Derived.Test.YtbbgeelamjmgaaaGreatDoorProg
namespace Go.Proofs
open Go.Shelf
theorem Tryz.kqX{α:Type}{x:Option α}{a b:α}(h:x=some a)(k:a=b:=by kernel_rfl):x=some b:=h.trans (congrArg some k)
theorem Tryz.krX{p:Prop}(h:p:=by kernel_rfl):p:=h
open Tryz
set_option maxRecDepth 20000
def Tryz.laysSlF_f133_ren : Go.Shelf.Ren := ⟨fun|6=>133|15=>142|14=>162|28=>174|29=>175|20=>194|21=>195|22=>196|23=>197|24=>198|25=>199|26=>200|27=>201|46=>235|47=>208|48=>209|49=>236|50=>237|57=>263|n=>n,fun|22=>29|24=>76|25=>186|39=>132|53=>216|55=>83|46=>209|45=>208|50=>213|66=>247|70=>251|76=>286|77=>287|n=>n,id⟩
theorem Tryz.laysSlF_f133 : Go.Proofs.SlLaysF0.n6 Tryz.prog Tryz.laysSlF_f133_ren := ⟨krX,⟨f133.name, by decide, func133.trans (congrArg some krX)⟩,⟨f162.name, by decide, func162.trans (congrArg some krX)⟩,kqX func142,⟨f194.name, by decide, func194.trans (congrArg some krX)⟩,⟨f195.name, by decide, func195.trans (congrArg some krX)⟩,⟨f196.name, by decide, func196.trans (congrArg some krX)⟩,⟨f197.name, by decide, func197.trans (congrArg some krX)⟩,⟨f198.name, by decide, func198.trans (congrArg some krX)⟩,⟨f199.name, by decide, func199.trans (congrArg some krX)⟩,⟨f200.name, by decide, func200.trans (congrArg some krX)⟩,⟨f201.name, by decide, func201.trans (congrArg some krX)⟩,kqX func174,kqX func175,⟨f235.name, by decide, func235.trans (congrArg some krX)⟩,kqX func208,kqX func209,⟨f236.name, by decide, func236.trans (congrArg some krX)⟩,⟨f237.name, by decide, func237.trans (congrArg some krX)⟩,⟨f263.name, by decide, func263.trans (congrArg some krX)⟩,underlying0,isAgg0,sizeOf0,zeroValue0,underlying3,isAgg3,sizeOf3,zeroValue3,underlying4,isAgg4,sizeOf4,zeroValue4,underlying5,isAgg5,sizeOf5,zeroValue5,underlying9,isAgg9,sizeOf9,zeroValue9,underlying29,isAgg29,sizeOf29,zeroValue29,underlying186,isAgg186,sizeOf186,zeroValue186,underlying132,isAgg132,sizeOf132,zeroValue132,underlying208,isAgg208,sizeOf208,zeroValue208,underlying209,isAgg209,sizeOf209,zeroValue209,underlying213,isAgg213,sizeOf213,zeroValue213,underlying216,isAgg216,sizeOf216,zeroValue216,underlying83,isAgg83,sizeOf83,zeroValue83,underlying247,isAgg247,sizeOf247,zeroValue247,underlying251,isAgg251,sizeOf251,zeroValue251,underlying286,isAgg286,sizeOf286,zeroValue286,underlying287,isAgg287,sizeOf287,zeroValue287⟩
open Go.RowKit Go.Sort Go.Lib in
theorem Tryz.sortFunc_total {α : Type} [Inhabited α] (k : Nat) (aE : ∀ w, (isAgg 76).run Tryz.prog w = .ok true w) (zE : ∀ w, (Go.sizeOf 76).run Tryz.prog w = .ok k w) (enc : α → List Value) (hk : ∀ x, (enc x).length = k) (h1 : ∀ x, ∀ v ∈ enc x, v.oneCell' = true) (cf : α → α → Int) (hO : SWO (ltOf cf)) (g : Nat) (cb : Array Value) (blk off cap : Nat) (d : Array α) (w : World)
    (eg : ∀ args w, (callFunc g args).run Tryz.prog w = .ok (.enter g args) w) (hcmp : CmpLays Tryz.prog g cb enc k cf blk off d.size w) (hH : HoldsK enc k w blk off d) (hblk : blk < w.heap.size) (hsz : d.size < 4611686018427387904) (hT : ∀ x y, (ltOf cf) x y = false → (ltOf cf) y x = false → x = y) :
    Calls Tryz.prog 133 #[.slice (some ⟨blk, off, none⟩) d.size cap, .func (.func g) #[] cb] w fun e w' =>
      e = .returned (.tuple #[]) ∧ ∃ n os, w' = sortWorldK enc k w blk off n (d.toList.mergeSort fun x y => !(ltOf cf) y x).toArray os := AnyQ.slices_SortFunc_total Tryz.laysSlF_f133 k aE zE enc hk h1 cf hO g cb blk off cap d w eg hcmp hH hblk hsz hT
open Go.RowKit Go.Sort in
theorem Tryz.sortFunc_none (p : Option Addr) (cap : Nat) (fv : Value) (w : World) :
    Calls Tryz.prog 133 #[.slice p 0 cap, fv] w fun e w' => e = .returned (.tuple #[]) ∧ w' = w := AnyF.slices_SortFunc_none Tryz.laysSlF_f133 p cap fv w
end Go.Proofs
