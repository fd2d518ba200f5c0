import Derived.Test.YtlmgdfoiejpbcaaGreatDoorShelfX
import Derived.Test.YtlmgdfoiejpbcaaGreatDoorSNd
import Derived.Test.YtlmgdfoiejpbcaaGreatDoorWDd
set_option maxHeartbeats 0
set_option linter.unusedSimpArgs false
open Go.RowKit
namespace Go.Proofs.YtlmgdfoiejpbcaaGreatDoor
section
open Go.RowKit Go.Sort Go.Lib
def cfX(x y:EntryD):Int:=orI (cmpI x.at_ y.at_) (cmpI x.id y.id)
theorem ltX(x y:EntryD):ltOf cfX x y=jbc x y:=j0j x y
theorem swoX:SWO (ltOf cfX) where
 irrefl x:=by rw[ltX];exact jtk x
 trans x y z h1 h2:=by rw[ltX]at *;exact jir h1 h2
 ntrans x y z h1 h2:=by rw[ltX]at *;exact jns h1 h2
theorem jq6 [Inhabited EntryD](blk off size:Nat)(w:World):CmpLays Tryz.prog 139 #[] EntryD.cs 2 cfX blk off size w:=fun _ _ _ _ x y=>jq4 x y _
theorem j29:SortC:=⟨fun P base v w hO hl=>by
 haveI:Inhabited EntryD:=⟨⟨0,0⟩⟩
 rcases hO.2 with⟨rfl,h0⟩|⟨g,cap,cur,rfl,hb,hh,_⟩
 ·have hP:P=[]:=List.length_eq_zero_iff.mp h0
  subst hP
  refine(Tryz.sortFunc_none none 0 _ w).mono ?_
  rintro e w' ⟨rfl,rfl⟩
  have h:jg9 []=[]:=by simp[jg9]
  rw[h]
  exact⟨rfl,hO,⟨rfl,rfl,rfl,nlr _,fun _ _ _=>rfl⟩⟩
 ·obtain⟨hH,hlt,_⟩:=j3p (enc:=EntryD.cs) (fun _=>rfl) (by decide) hO
  have hC:=Tryz.sortFunc_total 2 Tryz.isAgg95 Tryz.sizeOf95 EntryD.cs (fun _=>rfl) (fun x v hv=>by simp[EntryD.cs]at hv;rcases hv with rfl|rfl<;>rfl) cfX swoX 139 #[] g 0 cap P.toArray w (fun _ _=>by kernel_rfl) (jq6 g 0 P.toArray.size w) hH hlt (by simp;omega) (fun x y h1 h2=>by rw[ltX]at h1 h2;exact jis h1 h2)
  refine Calls.mono (by simpa using hC) ?_
  rintro e w' ⟨rfl,q,os,rfl⟩
  have hs:(P.toArray.toList.mergeSort fun x y=> !(ltOf cfX) y x)=jg9 P:=by
   unfold jg9
   congr 1
   funext x y
   rw[ltX]
  rw[hs]
  have h:=putG (enc:=EntryD.cs) (fun _=>rfl) (by decide) (q:=q) (os:=os) hO (jvh P)
  exact⟨rfl,h.1,h.2⟩⟩
end
theorem fold_fwL{z:ByteArray}{lo hi:Int}:∀(l L:List EventD),(l.foldl (fwAdd z lo hi) L).length<=L.length+l.length
 |[],L=>by simp
 | e::l,L=>by
  have h:=fold_fwL (z:=z) (lo:=lo) (hi:=hi) l (fwAdd z lo hi L e)
  have h2:(fwAdd z lo hi L e).length<=L.length+1:=by
   unfold fwAdd
   split
   ·rw[insW_len];exact nlr _
   ·omega
  rw[List.foldl_cons,List.length_cons]
  omega
theorem fw_len(s:StoreD)(z:ByteArray)(lo hi:Int):(fwS s z lo hi (storeI s)).length<=s.vs.length:=by
 unfold fwS
 split
 ·have h:=fold_fwL (z:=z) (lo:=lo) (hi:=hi) (jan s.vs) []
  have h2:=jwf s.vs s.vs.length
  unfold fwL
  unfold jan at *
  simp at h
  omega
 ·simp
theorem fw_spec(s:StoreD)(v:Value)(z:ByteArray)(lo hi:Int)(w:World)(hv:Jd w v s)(ok:Zr s)(hz:z.size<=maxLen):
  Cl 5 #[v,.string z,iv lo,iv hi] w fun e w'=>∃x,e=.returned x/\Jb w' w.heap.size x (fwS s z lo hi (storeI s))/\Bw w w':=
 spec_FindWall s v z lo hi (storeI s) w hv hz (fun w h=>by have h2:=jh8 s v w h ok;rw[jkt]at h2;exact h2) (fun h=>by
  have h1:=good_30W h
  have h2:s.vs.length<=60:=by
   unfold storeI jov txB at h
   simp only[bat,decide_eq_true_eq]at h
   exact h.1.2.1.1
  omega)
end Go.Proofs.YtlmgdfoiejpbcaaGreatDoor
namespace Go.Proofs.YtlmgdfoiejpbcaaGreatDoor.findWall
open Go.RowKit
theorem walk(s:StoreD)(v:Value)(z:ByteArray)(lo:Int)(hi:Int)(w:World)(hv:Jd w v s)(yq:s.ok)(hz:z.size<=maxLen)(hT:Tab w)(gw:Mx w):
  Cl 3 #[v,.string z,iv lo,iv hi] w fun e w'=>e=.returned (.bool true)/\Bw w w':=
 walkW z lo hi s _ v w hv yq ⟨hT,gw⟩ (fw_len s z lo hi) (fun _ ok v w hE h=>impl_FindWall j29 s v z lo hi w hE h ok hz) (fun _ ok v w h=>fw_spec s v z lo hi w h ok hz)
