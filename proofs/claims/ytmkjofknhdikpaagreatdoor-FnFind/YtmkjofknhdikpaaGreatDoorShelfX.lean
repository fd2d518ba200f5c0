import Derived.Shelf.SlSortCmp.NoneTotal
import Derived.Ground.SlsfProg
import Derived.Ground.NamesProg
import Derived.Test.YtmkjofknhdikpaaGreatDoorProg
namespace Go.Proofs
open Go.Shelf
theorem Tryz.kqX{α:Type}{x:Option α}{a b:α}(h:x=some a)(k:a=b:=by kernel_rfl):x=some b:=h.trans (congrArg some k)
theorem Tryz.krX{p:Prop}(h:p:=by kernel_rfl):p:=h
open Tryz
set_option maxRecDepth 20000
def Tryz.laysSlF_f85_ren : Go.Shelf.Ren := ⟨fun|6=>85|15=>135|14=>134|28=>185|29=>186|20=>177|21=>178|22=>179|23=>180|24=>181|25=>182|26=>183|27=>184|46=>221|47=>222|48=>223|49=>224|50=>225|57=>256|n=>n,fun|22=>29|24=>56|25=>151|39=>94|53=>230|55=>84|46=>223|45=>222|50=>227|66=>266|70=>270|76=>293|77=>294|n=>n,id⟩
theorem Tryz.laysSlF_f85 : Go.Proofs.SlLaysF0.n6 Tryz.prog Tryz.laysSlF_f85_ren := ⟨krX,⟨f85.name, by decide, func85.trans (congrArg some krX)⟩,⟨f134.name, by decide, func134.trans (congrArg some krX)⟩,kqX func135,⟨f177.name, by decide, func177.trans (congrArg some krX)⟩,⟨f178.name, by decide, func178.trans (congrArg some krX)⟩,⟨f179.name, by decide, func179.trans (congrArg some krX)⟩,⟨f180.name, by decide, func180.trans (congrArg some krX)⟩,⟨f181.name, by decide, func181.trans (congrArg some krX)⟩,⟨f182.name, by decide, func182.trans (congrArg some krX)⟩,⟨f183.name, by decide, func183.trans (congrArg some krX)⟩,⟨f184.name, by decide, func184.trans (congrArg some krX)⟩,kqX func185,kqX func186,⟨f221.name, by decide, func221.trans (congrArg some krX)⟩,kqX func222,kqX func223,⟨f224.name, by decide, func224.trans (congrArg some krX)⟩,⟨f225.name, by decide, func225.trans (congrArg some krX)⟩,⟨f256.name, by decide, func256.trans (congrArg some krX)⟩,underlying0,isAgg0,sizeOf0,zeroValue0,underlying3,isAgg3,sizeOf3,zeroValue3,underlying4,isAgg4,sizeOf4,zeroValue4,underlying5,isAgg5,sizeOf5,zeroValue5,underlying9,isAgg9,sizeOf9,zeroValue9,underlying29,isAgg29,sizeOf29,zeroValue29,underlying151,isAgg151,sizeOf151,zeroValue151,underlying94,isAgg94,sizeOf94,zeroValue94,underlying222,isAgg222,sizeOf222,zeroValue222,underlying223,isAgg223,sizeOf223,zeroValue223,underlying227,isAgg227,sizeOf227,zeroValue227,underlying230,isAgg230,sizeOf230,zeroValue230,underlying84,isAgg84,sizeOf84,zeroValue84,underlying266,isAgg266,sizeOf266,zeroValue266,underlying270,isAgg270,sizeOf270,zeroValue270,underlying293,isAgg293,sizeOf293,zeroValue293,underlying294,isAgg294,sizeOf294,zeroValue294⟩
open Go.RowKit Go.Sort Go.Lib in
theorem Tryz.sortFunc_total {α : Type} [Inhabited α] (k : Nat) (aE : ∀ w, (isAgg 56).run Tryz.prog w = .ok true w) (zE : ∀ w, (Go.sizeOf 56).run Tryz.prog w = .ok k w) (enc : α → List Value) (hk : ∀ x, (enc x).length = k) (h1 : ∀ x, ∀ v ∈ enc x, v.oneCell' = true) (cf : α → α → Int) (hO : SWO (ltOf cf)) (g : Nat) (cb : Array Value) (blk off cap : Nat) (d : Array α) (w : World)
    (eg : ∀ args w, (callFunc g args).run Tryz.prog w = .ok (.enter g args) w) (hcmp : CmpLays Tryz.prog g cb enc k cf blk off d.size w) (hH : HoldsK enc k w blk off d) (hblk : blk < w.heap.size) (hsz : d.size < 4611686018427387904) (hT : ∀ x y, (ltOf cf) x y = false → (ltOf cf) y x = false → x = y) :
    Calls Tryz.prog 85 #[.slice (some ⟨blk, off, none⟩) d.size cap, .func (.func g) #[] cb] w fun e w' =>
      e = .returned (.tuple #[]) ∧ ∃ n os, w' = sortWorldK enc k w blk off n (d.toList.mergeSort fun x y => !(ltOf cf) y x).toArray os := AnyQ.slices_SortFunc_total Tryz.laysSlF_f85 k aE zE enc hk h1 cf hO g cb blk off cap d w eg hcmp hH hblk hsz hT
open Go.RowKit Go.Sort in
theorem Tryz.sortFunc_none (p : Option Addr) (cap : Nat) (fv : Value) (w : World) :
    Calls Tryz.prog 85 #[.slice p 0 cap, fv] w fun e w' => e = .returned (.tuple #[]) ∧ w' = w := AnyF.slices_SortFunc_none Tryz.laysSlF_f85 p cap fv w
end Go.Proofs
