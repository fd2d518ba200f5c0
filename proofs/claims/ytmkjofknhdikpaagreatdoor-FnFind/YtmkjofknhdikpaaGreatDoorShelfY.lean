import Derived.Shelf.SlSortCmp.NoneTotal
import Derived.Ground.SlsfProg
import Derived.Ground.NamesProg
import Derived.Test.YtmkjofknhdikpaaGreatDoorProg
namespace Go.Proofs
open Go.Shelf
theorem Tryz.kqY{α:Type}{x:Option α}{a b:α}(h:x=some a)(k:a=b:=by kernel_rfl):x=some b:=h.trans (congrArg some k)
theorem Tryz.krY{p:Prop}(h:p:=by kernel_rfl):p:=h
open Tryz
set_option maxRecDepth 20000
def Tryz.laysSlF_f102_ren : Go.Shelf.Ren := ⟨fun|6=>102|15=>135|14=>152|28=>185|29=>186|20=>104|21=>199|22=>200|23=>201|24=>202|25=>203|26=>204|27=>205|46=>235|47=>222|48=>223|49=>236|50=>237|57=>267|n=>n,fun|22=>40|24=>43|25=>83|39=>94|53=>230|55=>84|46=>223|45=>222|50=>227|66=>266|70=>270|76=>293|77=>294|n=>n,id⟩
theorem Tryz.laysSlF_f102 : Go.Proofs.SlLaysF0.n6 Tryz.prog Tryz.laysSlF_f102_ren := ⟨krY,⟨f102.name, by decide, func102.trans (congrArg some krY)⟩,⟨f152.name, by decide, func152.trans (congrArg some krY)⟩,kqY func135,⟨f104.name, by decide, func104.trans (congrArg some krY)⟩,⟨f199.name, by decide, func199.trans (congrArg some krY)⟩,⟨f200.name, by decide, func200.trans (congrArg some krY)⟩,⟨f201.name, by decide, func201.trans (congrArg some krY)⟩,⟨f202.name, by decide, func202.trans (congrArg some krY)⟩,⟨f203.name, by decide, func203.trans (congrArg some krY)⟩,⟨f204.name, by decide, func204.trans (congrArg some krY)⟩,⟨f205.name, by decide, func205.trans (congrArg some krY)⟩,kqY func185,kqY func186,⟨f235.name, by decide, func235.trans (congrArg some krY)⟩,kqY func222,kqY func223,⟨f236.name, by decide, func236.trans (congrArg some krY)⟩,⟨f237.name, by decide, func237.trans (congrArg some krY)⟩,⟨f267.name, by decide, func267.trans (congrArg some krY)⟩,underlying0,isAgg0,sizeOf0,zeroValue0,underlying3,isAgg3,sizeOf3,zeroValue3,underlying4,isAgg4,sizeOf4,zeroValue4,underlying5,isAgg5,sizeOf5,zeroValue5,underlying9,isAgg9,sizeOf9,zeroValue9,underlying40,isAgg40,sizeOf40,zeroValue40,underlying83,isAgg83,sizeOf83,zeroValue83,underlying94,isAgg94,sizeOf94,zeroValue94,underlying222,isAgg222,sizeOf222,zeroValue222,underlying223,isAgg223,sizeOf223,zeroValue223,underlying227,isAgg227,sizeOf227,zeroValue227,underlying230,isAgg230,sizeOf230,zeroValue230,underlying84,isAgg84,sizeOf84,zeroValue84,underlying266,isAgg266,sizeOf266,zeroValue266,underlying270,isAgg270,sizeOf270,zeroValue270,underlying293,isAgg293,sizeOf293,zeroValue293,underlying294,isAgg294,sizeOf294,zeroValue294⟩
open Go.RowKit Go.Sort Go.Lib in
theorem Tryz.sortFuncY_total {α : Type} [Inhabited α] (k : Nat) (aE : ∀ w, (isAgg 43).run Tryz.prog w = .ok true w) (zE : ∀ w, (Go.sizeOf 43).run Tryz.prog w = .ok k w) (enc : α → List Value) (hk : ∀ x, (enc x).length = k) (h1 : ∀ x, ∀ v ∈ enc x, v.oneCell' = true) (cf : α → α → Int) (hO : SWO (ltOf cf)) (g : Nat) (cb : Array Value) (blk off cap : Nat) (d : Array α) (w : World)
    (eg : ∀ args w, (callFunc g args).run Tryz.prog w = .ok (.enter g args) w) (hcmp : CmpLays Tryz.prog g cb enc k cf blk off d.size w) (hH : HoldsK enc k w blk off d) (hblk : blk < w.heap.size) (hsz : d.size < 4611686018427387904) (hT : ∀ x y, (ltOf cf) x y = false → (ltOf cf) y x = false → x = y) :
    Calls Tryz.prog 102 #[.slice (some ⟨blk, off, none⟩) d.size cap, .func (.func g) #[] cb] w fun e w' =>
      e = .returned (.tuple #[]) ∧ ∃ n os, w' = sortWorldK enc k w blk off n (d.toList.mergeSort fun x y => !(ltOf cf) y x).toArray os := AnyQ.slices_SortFunc_total Tryz.laysSlF_f102 k aE zE enc hk h1 cf hO g cb blk off cap d w eg hcmp hH hblk hsz hT
open Go.RowKit Go.Sort in
theorem Tryz.sortFuncY_none (p : Option Addr) (cap : Nat) (fv : Value) (w : World) :
    Calls Tryz.prog 102 #[.slice p 0 cap, fv] w fun e w' => e = .returned (.tuple #[]) ∧ w' = w := AnyF.slices_SortFunc_none Tryz.laysSlF_f102 p cap fv w
end Go.Proofs
