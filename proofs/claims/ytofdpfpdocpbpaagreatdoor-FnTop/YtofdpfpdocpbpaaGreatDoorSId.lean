/- Packed. -/
import Derived.Test.YtofdpfpdocpbpaaGreatDoorSHd
import Derived.Test.YtofdpfpdocpbpaaGreatDoorSBd
import Derived.Test.YtofdpfpdocpbpaaGreatDoorSDd
import Derived.Test.YtofdpfpdocpbpaaGreatDoorShelfX
import Derived.Test.YtofdpfpdocpbpaaGreatDoorSAd
import Derived.Laws.OwnMore
import Derived.Test.YtofdpfpdocpbpaaGreatDoorTabPd
import Derived.Test.YtofdpfpdocpbpaaGreatDoorRightQd
import Derived.Test.YtofdpfpdocpbpaaGreatDoorSLd
import Derived.Test.YtofdpfpdocpbpaaGreatDoorSGd
import Derived.Test.YtofdpfpdocpbpaaGreatDoorHpRd
import Derived.Test.YtofdpfpdocpbpaaGreatDoorLVd
import Derived.Test.YtofdpfpdocpbpaaGreatDoorTbSd
import Derived.Test.YtofdpfpdocpbpaaGreatDoorTbPd
import Derived.Deep.RegionWith
import Derived.Deep.Cut
import Derived.Deep.CutRange
import Derived.BigRegion
import Derived.Deep.RegionHeld3
import Derived.Test.YtofdpfpdocpbpaaGreatDoorHpUd
import Derived.Test.YtofdpfpdocpbpaaGreatDoorStrQd
import Derived.BigQuiet
import Derived.Deep.AppendLies
import Derived.Deep.RegionLaw
import Derived.Test.YtofdpfpdocpbpaaGreatDoorSCd
set_option maxHeartbeats 20000000
set_option linter.unusedSimpArgs false
namespace Go.Proofs.YtofdpfpdocpbpaaGreatDoor
section
open Go.RowKit Go.ChangeMaps Go.MapKept Go.WideMaps
def jt7(s:Za):Bool:=jos s&&(txB s.vs s.tx&&(jcy s.vs s.vs.length&&jxj s (jai s.vs)))
def storeI(s:Za):Bool:=jt7 s&&eqX s.ix (entF (momB s) (jai s.vs))
theorem j0y{w:World}{base:Nat}{v:Value}{L:List EntryD}(h:Zl w base v L):w.ownsRow base 108 2 v (L.map EntryD.cs).length (L.map EntryD.cs).flatten:=by rw[List.length_map];exact h
theorem jz1{l:List VersionD}{t:Int}(h:txB l t=true):∀v∈l,jc6 v.ev=true:=fun v hv=>by
 obtain⟨k,hk⟩:=List.getElem?_of_mem hv
 unfold txB at h
 rw[Bool.and_eq_true]at h
 cases hx:txI l t k v
 ·have:=j3n hk hx (n:=l.length) (List.getElem?_eq_some_iff.1 hk).1
  rw[h.2]at this
  cases this
 ·unfold txI at hx
  simp only[Bool.and_eq_true]at hx
  exact hx.2.2
theorem jjz{e:EventD}(h:jc6 e=true):(1<=e.id/\e.id<=1000000)/\jbs e.zone=true/\isB e.wall (-62135596800) 253402300799=true/\isB e.gap 0 2=true/\isB e.fold 0 2=true:=by
 unfold jc6 at h
 simp only[Bool.and_eq_true]at h
 exact⟨jbw h.1,h.2.2⟩
theorem j7s{l:List VersionD}{t:Int}(h:txB l t=true):∀v∈l,1<=v.id/\v.id<=1000000:=fun v hv=>(jjz (jz1 h v hv)).1
end
section
open Go.RowKit Go.Sort Go.Lib
def cfX(x y:EntryD):Int:=orI (cmpI x.at_ y.at_) (cmpI x.id y.id)
theorem ltX(x y:EntryD):ltOf cfX x y=jbq x y:=j24 x y
theorem swoX:SWO (ltOf cfX) where
 irrefl x:=by rw[ltX];exact jtt x
 trans x y z h1 h2:=by rw[ltX]at *;exact jiv h1 h2
 ntrans x y z h1 h2:=by rw[ltX]at *;exact jno h1 h2
theorem jq2 [Inhabited EntryD](blk off size:Nat)(w:World):CmpLays Tryz.prog 89 #[] EntryD.cs 2 cfX blk off size w:=fun _ _ _ _ x y=>jq1 x y _
theorem j5a:SortC:=⟨fun P base v w hO hl=>by
 haveI:Inhabited EntryD:=⟨⟨0,0⟩⟩
 rcases hO.2 with⟨rfl,h0⟩|⟨g,cap,cur,rfl,hb,hh,_⟩
 ·have hP:P=[]:=List.length_eq_zero_iff.mp h0
  subst hP
  refine(Tryz.sortFunc_none none 0 _ w).mono ?_
  rintro e w' ⟨rfl,rfl⟩
  have h:jhk []=[]:=by simp[jhk]
  rw[h]
  exact⟨rfl,hO,⟨rfl,rfl,rfl,Nat.le_refl _,fun _ _ _=>rfl⟩⟩
 ·obtain⟨hH,hlt,_⟩:=j35 (enc:=EntryD.cs) (fun _=>rfl) (by decide) hO
  have hC:=Tryz.sortFunc_total 2 Tryz.isAgg108 Tryz.sizeOf108 EntryD.cs (fun _=>rfl) (fun x v hv=>by simp[EntryD.cs]at hv;rcases hv with rfl|rfl<;>rfl) cfX swoX 89 #[] g 0 cap P.toArray w (fun _ _=>by kernel_rfl) (jq2 g 0 P.toArray.size w) hH hlt (by simp;omega) (fun x y h1 h2=>by rw[ltX]at h1 h2;exact jiw h1 h2)
  refine Calls.mono (by simpa using hC) ?_
  rintro e w' ⟨rfl,q,os,rfl⟩
  have hs:(P.toArray.toList.mergeSort fun x y=> !(ltOf cfX) y x)=jhk P:=by
   unfold jhk
   congr 1
   funext x y
   rw[ltX]
  rw[hs]
  have h:=putG (enc:=EntryD.cs) (fun _=>rfl) (by decide) (q:=q) (os:=os) hO (jwg P)
  exact⟨rfl,h.1,h.2⟩⟩
end
section
open Go.RowKit Go.Sort
theorem Zq.below{w w':World}{base:Nat}{v:Value}{L:List EventD}(h:Zq w base v L)(hb:Below w.heap.size w w'):Zq w' base v L:=jad h hb
theorem Zq.seq{w:World}{base:Nat}{v:Value}{P:List EventD}(h:Zq w base v P):∃a cap,v=.slice a P.length cap/\Zd w a 6 (P.map EventD.cs):=by
 obtain⟨a,cap,h1,h2,h3⟩:=jav (rows:=P.map EventD.cs) (by rw[List.length_map];exact h) jd5
 rw[List.length_map]at h1 h3
 exact⟨a,cap,h1,h2⟩
theorem jsm{w:World}{B g n c:Nat}{L:List EventD}(h:Zq w B (.slice (some ⟨g,0,none⟩) n c) L){i:Nat}{x:EventD}(hx:L[i]? =some x):w.cell? ⟨g,i*6,none⟩=some (.int .i64 x.id)/\w.cell? ⟨g,i*6+1,none⟩=some (.string x.name)/\w.cell? ⟨g,i*6+2,none⟩=some (.string x.zone)/\w.cell? ⟨g,i*6+3,none⟩=some (.int .i64 x.wall)/\w.cell? ⟨g,i*6+4,none⟩=some (.int .i64 x.gap)/\w.cell? ⟨g,i*6+5,none⟩=some (.int .i64 x.fold):=by
 have hr:(L.map EventD.cs)[i]? =some x.cs:=by rw[List.getElem?_map,hx];rfl
 have hl:∀r∈L.map EventD.cs,r.length=6:=fun r hr=>by obtain⟨y,_,rfl⟩:=List.mem_map.1 hr;rfl
 exact⟨h.cell (jbl hl (i:=i) (j:=0) hr rfl),h.cell (jbl hl (i:=i) (j:=1) hr rfl),h.cell (jbl hl (i:=i) (j:=2) hr rfl),h.cell (jbl hl (i:=i) (j:=3) hr rfl),h.cell (jbl hl (i:=i) (j:=4) hr rfl),h.cell (jbl hl (i:=i) (j:=5) hr rfl)⟩
theorem jci{base g:Nat}(hg:base<=g):∀(L:List Value) (o:Nat) (w w':World),Below base w w'->Below base w (w'.setCells g o L)
 |[],_,_,_,h=>h
 |v::L,o,w,_,h=>jci hg L (o+1) w _ (h.setCell (p:=⟨g,o,none⟩) hg v)
theorem jnf{e:TypeId}{size base g n cap:Nat}:∀(L:List Value) (o:Nat) (w:World) (A B C:List Value),w.ownsRow base e size (.slice (some ⟨g,0,none⟩) n cap) n (A++B++C)->A.length=o->B.length=L.length->(w.setCells g o L).ownsRow base e size (.slice (some ⟨g,0,none⟩) n cap) n (A++L++C)
 |[],o,w,A,B,C,h,_,hB=>by
  obtain rfl:B=[]:=List.length_eq_zero_iff.mp hB
  exact h
 |v::L,o,w,A,[],C,h,_,hB=>by simp at hB
 |v::L,o,w,A,b::B,C,h,hA,hB=>by
  have h2:=(World.ownsRow.stored h o v).1
  rw[show(A++b::B++C).set o v=A++[v]++B++C by subst hA;simp]at h2
  have:=jnf L (o+1) _ (A++[v]) B C h2 (by simp[hA]) (by simpa using hB)
  rw[show A++v::L++C=A++[v]++L++C by simp]
  exact this
theorem Zq.put{w:World}{base g n cap:Nat}{C:List EventD}(h:Zq w base (.slice (some ⟨g,0,none⟩) n cap) C)(hn:n=C.length)(i:Nat)(hi:i<n)(y:EventD):Zq (w.setCells g (i*6) y.cs) base (.slice (some ⟨g,0,none⟩) n cap) (C.set i y):=by
 subst hn
 have hs:C=C.take i++C[i]::C.drop (i+1):=by simp
 have h1:w.ownsRow base 99 6 (.slice (some ⟨g,0,none⟩) C.length cap) C.length (((C.take i).map EventD.cs).flatten++(C[i]).cs++((C.drop (i+1)).map EventD.cs).flatten):=by
  have h2:=h
  unfold Zq at h2
  rw[show(C.map EventD.cs).flatten=((C.take i).map EventD.cs).flatten++(C[i]).cs++((C.drop (i+1)).map EventD.cs).flatten by
   conv=>lhs;rw[hs,List.map_append,List.flatten_append,List.map_cons,List.flatten_cons]
   rw[List.append_assoc]]at h2
  exact h2
 have h3:=jnf y.cs (i*6) w _ _ _ h1 (by rw[jen jd5,List.length_map,List.length_take,Nat.min_eq_left (Nat.le_of_lt hi)]) rfl
 show World.ownsRow _ _ _ _ _ _ _
 rw[List.length_set,List.set_eq_take_append_cons_drop,if_pos hi]
 simpa using h3
end
end Go.Proofs.YtofdpfpdocpbpaaGreatDoor
