/- Packed. -/
import Derived.Test.YtofdpfpdocpbpaaGreatDoorRightQd
import Derived.Test.YtofdpfpdocpbpaaGreatDoorTabPd
import Derived.Test.YtofdpfpdocpbpaaGreatDoorShelfK
import Derived.Lib.SlicesCompact
import Derived.Lib.OwnBridge
import Derived.OwnWalk
set_option maxHeartbeats 20000000
set_option linter.unusedSimpArgs false
namespace Go.Proofs.YtofdpfpdocpbpaaGreatDoor
section
open Go.RowKit
theorem jq0{α:Type}[DecidableEq α][Inhabited α](zs:List α):(Lib.compact zs).length=zs.length↔∀j,j<zs.length->Lib.keeps zs.toArray j=true:=by
 unfold Lib.compact Lib.compactUpTo
 rw[List.length_map]
 have h:=List.length_filter_eq_length_iff (p:=Lib.keeps zs.toArray) (l:=List.range zs.length)
 rw[List.length_range]at h
 rw[h]
 exact⟨fun h j hj=>h j (List.mem_range.mpr hj),fun h j hj=>h j (List.mem_range.mp hj)⟩
theorem jnt{α:Type}[DecidableEq α][Inhabited α](zs:List α)(j:Nat)(hj:j<zs.length):Lib.keeps zs.toArray j=true↔(j=0\/zs[j]? ≠zs[j-1]?):=by
 unfold Lib.keeps
 rw[decide_eq_true_iff]
 have e:∀i,i<zs.length->zs.toArray[i]! =zs[i]! :=fun i hi=>by simp[hi]
 rw[e j hj,e (j-1) (by omega)]
 have e2:∀i (hi:i<zs.length),zs[i]! =zs[i]:=fun i hi=>by simp[hi]
 rw[e2 j hj,e2 (j-1) (by omega),List.getElem?_eq_getElem hj,List.getElem?_eq_getElem (show j-1<zs.length by omega)]
 simp
theorem jis{l:List (List UInt8)}(hs:l.Pairwise (· <= ·)):(∀j,j<l.length->(j=0\/l[j]? ≠l[j-1]?))↔l.Nodup:=by
 constructor
 ·intro h
  rw[List.nodup_iff_pairwise_ne,List.pairwise_iff_getElem]
  intro i j hi hj hij he
  rw[List.pairwise_iff_getElem]at hs
  have h1:l[i]<=l[i+1]:=hs i (i+1) hi (by omega) (by omega)
  have h2:l[i+1]<=l[j]:=by
   by_cases e:i+1=j
   ·subst e;exact List.le_refl _
   ·exact hs (i+1) j (by omega) hj (by omega)
  rw[<- he]at h2
  have e3:l[i+1]=l[i]:=List.le_antisymm h2 h1
  rcases h (i+1) (by omega)with h4|h4
  ·omega
  ·apply h4
   rw[show i+1-1=i by omega,List.getElem?_eq_getElem (show i+1<l.length by omega),List.getElem?_eq_getElem hi,e3]
 ·intro h j hj
  by_cases e:j=0
  ·exact .inl e
  ·right
   rw[List.getElem?_eq_getElem hj,List.getElem?_eq_getElem (show j-1<l.length by omega)]
   intro he
   rw[List.nodup_iff_pairwise_ne,List.pairwise_iff_getElem]at h
   exact h (j-1) j (by omega) hj (by omega) (Option.some.inj he).symm
theorem jlw(l:List (List UInt8)):(l.mergeSort fun x y=>decide (x<=y)).Pairwise (· <= ·):=by
 have:=List.pairwise_mergeSort (le:=fun(x y:List UInt8)=>decide (x<=y)) (fun a b c h1 h2=>by
  simp at h1 h2 ⊢;exact List.le_trans h1 h2) (fun a b=>by
  simp only[Bool.or_eq_true,decide_eq_true_eq];exact List.le_total a b) l
 exact this.imp fun h=>by simpa using h
theorem jms(l:List (List UInt8)):((Lib.compact (l.mergeSort fun x y=>decide (x<=y))).length=l.length)↔l.Nodup:=by
 have hl:(l.mergeSort fun x y=>decide (x<=y)).length=l.length:=List.length_mergeSort l
 rw[<- hl,jq0]
 have hp:=List.mergeSort_perm l (fun x y=>decide (x<=y))
 rw[<- hp.nodup_iff, <- jis (jlw l)]
 exact⟨fun h j hj=>(jnt _ j hj).mp (h j hj),fun h j hj=>(jnt _ j hj).mpr (h j hj)⟩
def j8f(r:RelD):List ByteArray:=r.zones.map ZoneD.name++r.links.map LinkD.name
def j8s(l:List ByteArray):List (List UInt8):=l.map (·.data.toList)
def jg9(r:RelD):Bool:=decide (j8s (j8f r)).Nodup
set_option maxRecDepth 100000 in
theorem j6b:∃i:TypeInfo,Tryz.prog.info? 9=some i/\i.zero=some (.string ⟨#[]⟩)/\i.size=1/\i.bytes=16:=⟨_,rfl,rfl,rfl,rfl⟩
theorem j00(w:World)(base:Nat)(t:TypeId):w.ownsRow base t 1 (.slice none 0 0) 0 []:=⟨rfl,.inl ⟨rfl,rfl⟩⟩
theorem jrq{w:World}{base:Nat}{e:TypeId}{size:Nat}{v:Value}{n:Nat}{xs:List Value}(h:w.ownsRow base e size v n xs):∀k,v.ownBlock=some k->base<=k:=by
 intro k hk
 rcases h.2 with⟨rfl,_⟩|⟨g,cap,cur,rfl,hg,_⟩
 ·cases hk
 ·simp[Value.ownBlock]at hk;omega
theorem jk0{l:List ByteArray}{k:Nat}{x:ByteArray}(h:l[k]? =some x):(l.take (k+1)).map Value.string=(l.take k).map Value.string++[.string x]:=by
 rw[List.take_add_one,h];simp
theorem jhr(r:RelD)(v:Value)(w:World)(hv:Zi w v r)(hz:r.zones.length<=1048576)(hl:r.links.length<=1048576):
  Calls Tryz.prog 77 #[v] w fun e w'=>e=.returned (.bool (jg9 r))/\Below w.heap.size w w':=by
 obtain⟨a,b,c,ca,cb,cc,rfl,_,hZ,hA⟩:=hv.form
 obtain⟨i0,hi,hz0,hz1,hz2⟩:=j6b
 clear hv
 have HB:Hid (jg9 r=decide (j8s (r.zones.map ZoneD.name++r.links.map LinkD.name)).Nodup):=rfl
 generalize jg9 r=nb at *
 generalize r.rules.length=rn at *
 generalize r.links=l at *
 generalize r.zones=zs at *
 have hB0:=qal w (.cells #[.slice a rn ca,.slice b zs.length cb,.slice c l.length cc] 56)
 have hA1:=hA.below hB0
 have hZ1:=hZ.below hB0
 have hown:(w.alloc (.cells #[.slice a rn ca,.slice b zs.length cb,.slice c l.length cc] 56)).cell? ⟨w.heap.size,2,none⟩=some (.slice c l.length cc):=by simp
 go_enter Tryz.func77,Tryz.ntmps77
 go_wp2
 generalize hW:(w.alloc (.cells #[.slice a rn ca,.slice b zs.length cb,.slice c l.length cc] 56))=W at *
 go_loopw [3,12] (fun s i wr=>∃k:Nat,k<=zs.length/\i=.int .i64 k/\wr.ownsRow W.heap.size 9 1 s k (((zs.map ZoneD.name).take k).map Value.string)/\Below W.heap.size W wr) (fun _ i _=>zs.length-(intOf i).toNat)
 case atStart=>exact⟨0,by omega,rfl,j00 _ _ _,by subst hW;exact Below.refl _ _⟩
 case round=>
  obtain⟨k,hk,rfl,hO,hB⟩:=hrel
  by_cases hlt:k<zs.length
  ·obtain⟨x,hx⟩:=qgg hlt
   obtain⟨b',o,rfl,c0,v,c1,hv⟩:=(hZ1.below hB).at hx
   have hs:=jk0 (l:=zs.map ZoneD.name) (k:=k) (x:=x.name) (by rw[List.getElem?_map,hx];rfl)
   have HS:=hid hs
   obtain⟨ae,ce,rfl,_⟩:=hv
   clear hs
   have hsz:=hB.size
   generalize ((zs.map ZoneD.name).take k).map Value.string=xs at *
   go_wp2_with (first
    |(at_builtin;refine wpList_append_own _ rfl _ _ 29 rfl W.heap.size 9 i0 (.string ⟨#[]⟩) 1 16 Tryz.underlying29 hi hz0 hz1 hz2 rfl (by decide) _ _ _ rfl ((hO.alloc _).alloc _) ⟨wr.heap.size+1,0,none⟩ 1 1 [.string x.name] rfl rfl ?c1 ?c2 ?c3 ?c4 ?c5 ?_)
    |fail)
   case c1=>simp[go_sem]
   case c2=>intro u hu;simp at hu;subst hu;rfl
   case c3=>unfold maxLen;omega
   case c4=>omega
   case c5=>simp;omega
   ·intro v' w1 hown' hgrow _
    have hB1:Below W.heap.size W w1:=((hB.alloc hsz _).alloc (by simp;omega) _).grown hgrow (by simp;omega) (jrq hO)
    clear hgrow hO
    go_wp2
    go_roundw
    case rel=>exact⟨k+1,by omega,by go_num,by rw[HS.out];exact hown',hB1⟩
    case measure=>simp[intOf];omega
  ·have e:k=zs.length:=by omega
   subst e
   rw[List.take_of_length_le (by simp)]at hO
   have y2:wr.cell? ⟨w.heap.size,2,none⟩=some (.slice c l.length cc):=by rw[(jal hB).1 _ _ (qbl hown)];exact hown
   go_wp2
   obtain⟨wo,rfl⟩:∃wo:World,wo=wr:=⟨_,rfl⟩
   go_loopw [3,25] (fun s i wr=>∃k:Nat,k<=l.length/\i=.int .i64 k/\wr.ownsRow W.heap.size 9 1 s (zs.length+k) ((zs.map ZoneD.name++(l.map LinkD.name).take k).map Value.string)/\Below W.heap.size W wr) (fun _ i _=>l.length-(intOf i).toNat)
   case atStart=>exact⟨0,by omega,rfl,by simpa using hO,hB⟩
   case round=>
    clear hO hB y2
    obtain⟨m,hm,rfl,hO,hB⟩:=hrel
    by_cases hlt2:m<l.length
    ·obtain⟨x,hx⟩:=qgg hlt2
     obtain⟨b',o,rfl,hc⟩:=(hA1.below hB).at (i:=m) (r:=x.cs) (by rw[List.getElem?_map,hx];rfl)
     have c0:wr.cell? ⟨b',o+m*2,none⟩=some (.string x.to_):=hc 0 _ rfl
     have c1:=hc 1 _ rfl
     clear hc
     have hs:=jk0 (l:=l.map LinkD.name) (k:=m) (x:=x.name) (by rw[List.getElem?_map,hx];rfl)
     have HS:Hid ((zs.map ZoneD.name++(l.map LinkD.name).take (m+1)).map Value.string=(zs.map ZoneD.name++(l.map LinkD.name).take m).map Value.string++[.string x.name]):=by
      simp only[Hid];rw[List.map_append,hs, <- List.append_assoc, <- List.map_append]
     clear hs
     have hsz:=hB.size
     generalize (zs.map ZoneD.name++(l.map LinkD.name).take m).map Value.string=xs at *
     obtain⟨n,hn⟩:∃n,n=zs.length+m:=⟨_,rfl⟩
     have HN:Hid (zs.length+(m+1)=n+1):=by simp only[Hid];omega
     have hn2:n<=2097152:=by omega
     rw[<- hn]at hO
     clear hn
     go_wp2_with (first
      |(at_builtin;refine wpList_append_own _ rfl _ _ 29 rfl W.heap.size 9 i0 (.string ⟨#[]⟩) 1 16 Tryz.underlying29 hi hz0 hz1 hz2 rfl (by decide) _ _ _ rfl ((hO.alloc _).alloc _) ⟨wr.heap.size+1,0,none⟩ 1 1 [.string x.name] rfl rfl ?c1 ?c2 ?c3 ?c4 ?c5 ?_)
      |fail)
     case c1=>simp[go_sem]
     case c2=>intro u hu;simp at hu;subst hu;rfl
     case c3=>unfold maxLen;omega
     case c4=>omega
     case c5=>simp;omega
     ·intro v' w1 hown' hgrow _
      have hB1:Below W.heap.size W w1:=((hB.alloc hsz _).alloc (by simp;omega) _).grown hgrow (by simp;omega) (jrq hO)
      clear hgrow hO
      go_wp2
      go_roundw
      case rel=>exact⟨m+1,by omega,by go_num,by rw[HS.out,HN.out];exact hown',hB1⟩
      case measure=>simp[intOf];omega
    ·have e:m=l.length:=by omega
     subst e
     rw[List.take_of_length_le (by simp)]at hO
     obtain⟨n,hn⟩:∃n,n=zs.length+l.length:=⟨_,rfl⟩
     have hn2:n<=2097152:=by omega
     rw[<- hn]at hO
     have hlen:(zs.map ZoneD.name++l.map LinkD.name).length=n:=by simp[hn]
     generalize zs.map ZoneD.name++l.map LinkD.name=ns at *
     clear hn
     have hO':=hO
     rw[<- Lib.map_encStr]at hO'
     rcases hO.2 with⟨rfl,rfl⟩|⟨g,cap,cur,rfl,_,_,_,_,_,_⟩
     ·have HR:Hid (nb=true):=by
       simp only[Hid];rw[HB.out,List.eq_nil_of_length_eq_zero hlen];rfl
      have hS:=fun w=>Tryz.slices_Sort_string_none none 0 w
      have hC:=fun w=>Tryz.slices_Compact_string_empty none 0 w
      go_wp2_with (first|(go_at_call 118;refine(hS _).mono ?_;rintro e w' ⟨rfl,rfl⟩)|(go_at_call 119;refine(hC _).mono ?_;rintro e w' ⟨rfl,rfl⟩))
      go_ret
      exact⟨ret_bool HR.out.symm,(qtr hB0 hB)⟩
     ·obtain⟨g',cap',he,hbg,hglt,hncap,hcm,hzl,hH⟩:=Lib.holds_of_ownsRow hO' (by simp)
      injection he with he1 _ he3
      injection he1 with he1
      injection he1 with he1
      subst he1 he3
      have hS:=Tryz.slices_Sort_string g 0 cap (ns.map (·.data.toList)) wr hH hglt (by omega)
      rw[hzl]at hS
      have hsl:((ns.map (·.data.toList)).mergeSort fun x y=>decide (x<=y)).length=n:=by rw[List.length_mergeSort];exact hzl
      have hC:=fun w' hH2=>Tryz.slices_Compact_string g 0 cap ((ns.map (·.data.toList)).mergeSort fun x y=>decide (x<=y)) w' hH2 (by omega) (by omega)
      have hK:=jms (ns.map (·.data.toList))
      rw[hzl]at hK
      have hHH:∀q os,Go.Sort.Holds encStr (Go.Sort.grow (Go.Sort.putRow encStr (Go.Sort.ahead wr q) g 0 ((ns.map (·.data.toList)).mergeSort fun x y=>decide (x<=y)).toArray) os) g 0 ((ns.map (·.data.toList)).mergeSort fun x y=>decide (x<=y)).toArray:=fun q os=>
       Go.Sort.holds_grow _ _ _ _ _ _ (by simpa using hglt) (Go.Sort.holds_putRow _ _ _ _ _ _ (Go.Sort.holds_ahead _ _ _ _ _ _ hH) (by simp))
      rw[hsl]at hC
      have HR:Hid (nb=(((Lib.compact ((ns.map (·.data.toList)).mergeSort fun x y=>decide (x<=y))).length:Int)==(n:Int))):=by
       simp only[Hid]
       rw[HB.out,Bool.eq_iff_iff]
       simp only[decide_eq_true_eq,beq_iff_eq,Int.natCast_inj]
       exact hK.symm
      have hcl:(Lib.compact ((ns.map (·.data.toList)).mergeSort fun x y=>decide (x<=y))).length<=n:=by
       unfold Lib.compact Lib.compactUpTo
       rw[List.length_map]
       have:=List.length_filter_le (Lib.keeps ((ns.map (·.data.toList)).mergeSort fun x y=>decide (x<=y)).toArray) (List.range ((ns.map (·.data.toList)).mergeSort fun x y=>decide (x<=y)).length)
       rw[List.length_range]at this
       exact Nat.le_trans this (Nat.le_of_eq hsl)
      generalize (ns.map (·.data.toList)).mergeSort (fun x y=>decide (x<=y))=so at *
      generalize (Lib.compact so).length=cl at *
      clear hO hO' hH hK HB hsl hzl hlen
      go_wp2_with fail
      refine hS.mono ?_
      rintro e w2 ⟨rfl,q,os,rfl⟩
      go_wp2_with fail
      refine(hC _ (hHH q os)).mono ?_
      rintro e w3 ⟨rfl,q2,rfl⟩
      go_wp2
      go_ret
      refine⟨ret_bool HR.out.symm,hB0.trans (Below.mono (Lib.below_putRow ?_ hbg) hB0.size)⟩
      have hb1:=Lib.below_putRow (enc:=encStr) (q:=q) (d:=so.toArray) hB hbg
      exact⟨hb1.os,hb1.tape,hb1.output,by simp;have:=hb1.size;simp at this;omega,fun k hk=>by rw[Go.Sort.heap_grow_old _ _ (by have:=hb1.size;omega)];exact hb1.block k hk⟩
end
section
open Go.RowKit
def relB(r:RelD):Bool:=decide (r.rules.length<=40/\r.zones.length<=12/\r.links.length<=20)&&(r.rules.all jbm&&(r.zones.all jb5&&(r.links.all jgr&&(jg9 r&&((r.zones.all fun z=>z.eras.all (jc1 r.rules))&&(r.links.all fun x=>hasZ r.zones x.to_))))))
theorem rel_no0{r:RelD}(h:¬(r.rules.length<=40/\r.zones.length<=12/\r.links.length<=20)):relB r=false:=by unfold relB;rw[decide_eq_false h];rfl
theorem rel_no1{r:RelD}(h:r.rules.all jbm=false):relB r=false:=by unfold relB;rw[h];simp
theorem rel_no2{r:RelD}(h:r.zones.all jb5=false):relB r=false:=by unfold relB;rw[h];simp
theorem rel_no3{r:RelD}(h:r.links.all jgr=false):relB r=false:=by unfold relB;rw[h];simp
theorem rel_no4{r:RelD}(h:jg9 r=false):relB r=false:=by unfold relB;rw[h];simp
theorem rel_no5{r:RelD}(h:(r.zones.all fun z=>z.eras.all (jc1 r.rules))=false):relB r=false:=by unfold relB;rw[h];simp
theorem rel_no6{r:RelD}(h:(r.links.all fun x=>hasZ r.zones x.to_)=false):relB r=false:=by unfold relB;rw[h];simp
theorem rel_yes{r:RelD}(h0:r.rules.length<=40/\r.zones.length<=12/\r.links.length<=20)(h1:r.rules.all jbm=true)(h2:r.zones.all jb5=true)(h3:r.links.all jgr=true)(h4:jg9 r=true)(h5:(r.zones.all fun z=>z.eras.all (jc1 r.rules))=true)(h6:(r.links.all fun x=>hasZ r.zones x.to_)=true):relB r=true:=by unfold relB;rw[decide_eq_true h0,h1,h2,h3,h4,h5,h6];rfl
theorem ja8(r:RelD)(v:Value)(w:World)(hE:Zm w)(hv:Zi w v r)(ok:r.ok)(sm:r.small)(hon:∀x∈r.rules,x.on.size<=1048576):
  Calls Tryz.prog 50 #[v] w fun e w'=>e=.returned (.bool (relB r))/\Below w.heap.size w w':=by
 obtain⟨a,b,c,ca,cb,cc,hvv,hAr,hAz,hAl⟩:=hv.form
 obtain⟨⟨p1,p2⟩,⟨q1,q2⟩,⟨s1,s2⟩⟩:=ok
 obtain⟨m1,m2,m3,m4⟩:=sm
 have hB0:=qal w (.cells #[.slice a r.rules.length ca,.slice b r.zones.length cb,.slice c r.links.length cc] 56)
 have hR:=fun w hE (h:Zd w a 9 (r.rules.map RuleD.cs))=>jol r.rules a ca w hE h p2 hon m1
 have hZ:=fun w (h:Zy w b r.zones)=>joj r.zones b cb w h q2 m2
 have hK:=fun w (h:Zd w c 2 (r.links.map LinkD.cs))=>jom r.links c cc w h s2 m3
 have hU:=fun w (h:Zi w v r)=>jhr r v w h m2 m3
 have hT:=fun w (h:Zi w v r)=>ji8 r v w h m1 m2 q2
 have hY:=fun w (h:Zi w v r)=>ji1 r v w h m2 m3
 subst hvv
 have N0:=@rel_no0 r
 have N1:=@rel_no1 r
 have N2:=@rel_no2 r
 have N3:=@rel_no3 r
 have N4:=@rel_no4 r
 have N5:=@rel_no5 r
 have N6:=@rel_no6 r
 have YY:=@rel_yes r
 generalize relB r=rb at *
 by_cases g40:40<r.rules.length
 ·have HR:Hid (rb=false):=N0 (by omega)
  clear N0 N1 N2 N3 N4 N5 N6 YY
  go_enter Tryz.func50,Tryz.ntmps50
  go_wp2
  go_ret
  exact⟨ret_bool HR.out.symm,hB0⟩
 by_cases g12:12<r.zones.length
 ·have HR:Hid (rb=false):=N0 (by omega)
  clear N0 N1 N2 N3 N4 N5 N6 YY
  go_enter Tryz.func50,Tryz.ntmps50
  go_wp2
  go_ret
  exact⟨ret_bool HR.out.symm,hB0⟩
 by_cases g20:20<r.links.length
 ·have HR:Hid (rb=false):=N0 (by omega)
  clear N0 N1 N2 N3 N4 N5 N6 YY
  go_enter Tryz.func50,Tryz.ntmps50
  go_wp2
  go_ret
  exact⟨ret_bool HR.out.symm,hB0⟩
 obtain⟨x0,y0,z0⟩:(fun z:World=>z.cell? ⟨w.heap.size,0,none⟩=some (.slice a r.rules.length ca)/\z.cell? ⟨w.heap.size,1,none⟩=some (.slice b r.zones.length cb)/\z.cell? ⟨w.heap.size,2,none⟩=some (.slice c r.links.length cc)) (w.alloc (.cells #[.slice a r.rules.length ca,.slice b r.zones.length cb,.slice c r.links.length cc] 56)):=by simp[go_sem]
 cases k1:r.rules.all jbm
 ·have HR:Hid (rb=false):=N1 k1
  rw[k1]at hR
  clear N0 N1 N2 N3 N4 N5 N6 YY
  clear k1
  go_enter Tryz.func50,Tryz.ntmps50
  go_wp2_with fail
  refine(hR _ (hE.of_below hB0) (hAr.below hB0)).mono ?_
  rintro e w1 ⟨rfl,hb1⟩
  have hB1:=qtr hB0 hb1
  go_wp2
  go_ret
  exact⟨ret_bool HR.out.symm,hB1⟩
 rw[k1]at hR
 cases k2:r.zones.all jb5
 ·have HR:Hid (rb=false):=N2 k2
  rw[k2]at hZ
  clear N0 N1 N2 N3 N4 N5 N6 YY
  clear k1 k2
  go_enter Tryz.func50,Tryz.ntmps50
  go_wp2_with fail
  refine(hR _ (hE.of_below hB0) (hAr.below hB0)).mono ?_
  rintro e w1 ⟨rfl,hb1⟩
  have hB1:=qtr hB0 hb1
  have x1:=qce hb1 x0 x0
  have y1:=qce hb1 y0 y0
  have z1:=qce hb1 z0 z0
  go_wp2_with fail
  refine(hZ _ (hAz.below hB1)).mono ?_
  rintro e w2 ⟨rfl,hb2⟩
  have hB2:=qtr hB1 hb2
  go_wp2
  go_ret
  exact⟨ret_bool HR.out.symm,hB2⟩
 rw[k2]at hZ
 cases k3:r.links.all jgr
 ·have HR:Hid (rb=false):=N3 k3
  rw[k3]at hK
  clear N0 N1 N2 N3 N4 N5 N6 YY
  clear k1 k2 k3
  go_enter Tryz.func50,Tryz.ntmps50
  go_wp2_with fail
  refine(hR _ (hE.of_below hB0) (hAr.below hB0)).mono ?_
  rintro e w1 ⟨rfl,hb1⟩
  have hB1:=qtr hB0 hb1
  have x1:=qce hb1 x0 x0
  have y1:=qce hb1 y0 y0
  have z1:=qce hb1 z0 z0
  go_wp2_with fail
  refine(hZ _ (hAz.below hB1)).mono ?_
  rintro e w2 ⟨rfl,hb2⟩
  have hB2:=qtr hB1 hb2
  have x2:=qce hb2 x1 x1
  have y2:=qce hb2 y1 y1
  have z2:=qce hb2 z1 z1
  go_wp2_with fail
  refine(hK _ (hAl.below hB2)).mono ?_
  rintro e w3 ⟨rfl,hb3⟩
  have hB3:=qtr hB2 hb3
  go_wp2
  go_ret
  exact⟨ret_bool HR.out.symm,hB3⟩
 rw[k3]at hK
 cases k4:jg9 r
 ·have HR:Hid (rb=false):=N4 k4
  rw[k4]at hU
  clear N0 N1 N2 N3 N4 N5 N6 YY
  clear k1 k2 k3 k4
  go_enter Tryz.func50,Tryz.ntmps50
  go_wp2_with fail
  refine(hR _ (hE.of_below hB0) (hAr.below hB0)).mono ?_
  rintro e w1 ⟨rfl,hb1⟩
  have hB1:=qtr hB0 hb1
  have x1:=qce hb1 x0 x0
  have y1:=qce hb1 y0 y0
  have z1:=qce hb1 z0 z0
  go_wp2_with fail
  refine(hZ _ (hAz.below hB1)).mono ?_
  rintro e w2 ⟨rfl,hb2⟩
  have hB2:=qtr hB1 hb2
  have x2:=qce hb2 x1 x1
  have y2:=qce hb2 y1 y1
  have z2:=qce hb2 z1 z1
  go_wp2_with fail
  refine(hK _ (hAl.below hB2)).mono ?_
  rintro e w3 ⟨rfl,hb3⟩
  have hB3:=qtr hB2 hb3
  have x3:=qce hb3 x2 x2
  have y3:=qce hb3 y2 y2
  have z3:=qce hb3 z2 z2
  go_wp2_with fail
  refine(hU _ (hv.below hB3)).mono ?_
  rintro e w4 ⟨rfl,hb4⟩
  have hB4:=qtr hB3 hb4
  go_wp2
  go_ret
  exact⟨ret_bool HR.out.symm,hB4⟩
 rw[k4]at hU
 cases k5:(r.zones.all fun z=>z.eras.all (jc1 r.rules))
 ·have HR:Hid (rb=false):=N5 k5
  rw[k5]at hT
  clear N0 N1 N2 N3 N4 N5 N6 YY
  clear k1 k2 k3 k4 k5
  go_enter Tryz.func50,Tryz.ntmps50
  go_wp2_with fail
  refine(hR _ (hE.of_below hB0) (hAr.below hB0)).mono ?_
  rintro e w1 ⟨rfl,hb1⟩
  have hB1:=qtr hB0 hb1
  have x1:=qce hb1 x0 x0
  have y1:=qce hb1 y0 y0
  have z1:=qce hb1 z0 z0
  go_wp2_with fail
  refine(hZ _ (hAz.below hB1)).mono ?_
  rintro e w2 ⟨rfl,hb2⟩
  have hB2:=qtr hB1 hb2
  have x2:=qce hb2 x1 x1
  have y2:=qce hb2 y1 y1
  have z2:=qce hb2 z1 z1
  go_wp2_with fail
  refine(hK _ (hAl.below hB2)).mono ?_
  rintro e w3 ⟨rfl,hb3⟩
  have hB3:=qtr hB2 hb3
  have x3:=qce hb3 x2 x2
  have y3:=qce hb3 y2 y2
  have z3:=qce hb3 z2 z2
  go_wp2_with fail
  refine(hU _ (hv.below hB3)).mono ?_
  rintro e w4 ⟨rfl,hb4⟩
  have hB4:=qtr hB3 hb4
  have x4:=qce hb4 x3 x3
  have y4:=qce hb4 y3 y3
  have z4:=qce hb4 z3 z3
  go_wp2_with fail
  refine(hT _ (hv.below hB4)).mono ?_
  rintro e w5 ⟨rfl,hb5⟩
  have hB5:=qtr hB4 hb5
  go_wp2
  go_ret
  exact⟨ret_bool HR.out.symm,hB5⟩
 rw[k5]at hT
 cases k6:(r.links.all fun x=>hasZ r.zones x.to_)
 ·have HR:Hid (rb=false):=N6 k6
  rw[k6]at hY
  clear N0 N1 N2 N3 N4 N5 N6 YY
  clear k1 k2 k3 k4 k5 k6
  go_enter Tryz.func50,Tryz.ntmps50
  go_wp2_with fail
  refine(hR _ (hE.of_below hB0) (hAr.below hB0)).mono ?_
  rintro e w1 ⟨rfl,hb1⟩
  have hB1:=qtr hB0 hb1
  have x1:=qce hb1 x0 x0
  have y1:=qce hb1 y0 y0
  have z1:=qce hb1 z0 z0
  go_wp2_with fail
  refine(hZ _ (hAz.below hB1)).mono ?_
  rintro e w2 ⟨rfl,hb2⟩
  have hB2:=qtr hB1 hb2
  have x2:=qce hb2 x1 x1
  have y2:=qce hb2 y1 y1
  have z2:=qce hb2 z1 z1
  go_wp2_with fail
  refine(hK _ (hAl.below hB2)).mono ?_
  rintro e w3 ⟨rfl,hb3⟩
  have hB3:=qtr hB2 hb3
  have x3:=qce hb3 x2 x2
  have y3:=qce hb3 y2 y2
  have z3:=qce hb3 z2 z2
  go_wp2_with fail
  refine(hU _ (hv.below hB3)).mono ?_
  rintro e w4 ⟨rfl,hb4⟩
  have hB4:=qtr hB3 hb4
  have x4:=qce hb4 x3 x3
  have y4:=qce hb4 y3 y3
  have z4:=qce hb4 z3 z3
  go_wp2_with fail
  refine(hT _ (hv.below hB4)).mono ?_
  rintro e w5 ⟨rfl,hb5⟩
  have hB5:=qtr hB4 hb5
  have x5:=qce hb5 x4 x4
  have y5:=qce hb5 y4 y4
  have z5:=qce hb5 z4 z4
  go_wp2_with fail
  refine(hY _ (hv.below hB5)).mono ?_
  rintro e w6 ⟨rfl,hb6⟩
  have hB6:=qtr hB5 hb6
  go_wp2
  go_ret
  exact⟨ret_bool HR.out.symm,hB6⟩
 rw[k6]at hY
 have HR:Hid (rb=true):=YY (by omega) k1 k2 k3 k4 k5 k6
 clear N0 N1 N2 N3 N4 N5 N6 YY k1 k2 k3 k4 k5 k6
 go_enter Tryz.func50,Tryz.ntmps50
 go_wp2_with fail
 refine(hR _ (hE.of_below hB0) (hAr.below hB0)).mono ?_
 rintro e w1 ⟨rfl,hb1⟩
 have hB1:=qtr hB0 hb1
 have x1:=qce hb1 x0 x0
 have y1:=qce hb1 y0 y0
 have z1:=qce hb1 z0 z0
 go_wp2_with fail
 refine(hZ _ (hAz.below hB1)).mono ?_
 rintro e w2 ⟨rfl,hb2⟩
 have hB2:=qtr hB1 hb2
 have x2:=qce hb2 x1 x1
 have y2:=qce hb2 y1 y1
 have z2:=qce hb2 z1 z1
 go_wp2_with fail
 refine(hK _ (hAl.below hB2)).mono ?_
 rintro e w3 ⟨rfl,hb3⟩
 have hB3:=qtr hB2 hb3
 have x3:=qce hb3 x2 x2
 have y3:=qce hb3 y2 y2
 have z3:=qce hb3 z2 z2
 go_wp2_with fail
 refine(hU _ (hv.below hB3)).mono ?_
 rintro e w4 ⟨rfl,hb4⟩
 have hB4:=qtr hB3 hb4
 have x4:=qce hb4 x3 x3
 have y4:=qce hb4 y3 y3
 have z4:=qce hb4 z3 z3
 go_wp2_with fail
 refine(hT _ (hv.below hB4)).mono ?_
 rintro e w5 ⟨rfl,hb5⟩
 have hB5:=qtr hB4 hb5
 have x5:=qce hb5 x4 x4
 have y5:=qce hb5 y4 y4
 have z5:=qce hb5 z4 z4
 go_wp2_with fail
 refine(hY _ (hv.below hB5)).mono ?_
 rintro e w6 ⟨rfl,hb6⟩
 have hB6:=qtr hB5 hb6
 go_wp2
 go_ret
 exact⟨ret_bool HR.out.symm,hB6⟩
end
section
open Go.RowKit
structure RelT(r:RelD):Prop where
 lens:r.rules.length<=40/\r.zones.length<=12/\r.links.length<=20
 rules:r.rules.all jbm=true
 zones:r.zones.all jb5=true
 links:r.links.all jgr=true
 names:jg9 r=true
 there:(r.zones.all fun z=>z.eras.all (jc1 r.rules))=true
 has:(r.links.all fun x=>hasZ r.zones x.to_)=true
theorem j77{r:RelD}(h:relB r=true):RelT r:=by
 unfold relB at h
 simp only[Bool.and_eq_true,decide_eq_true_eq]at h
 obtain⟨h0,h1,h2,h3,h4,h5,h6⟩:=h
 exact⟨h0,h1,h2,h3,h4,h5,h6⟩
end
end Go.Proofs.YtofdpfpdocpbpaaGreatDoor
