import Derived.Test.YtlmgdfoiejpbcaaGreatDoorBasePd
import Derived.Test.YtlmgdfoiejpbcaaGreatDoorShelfK
import Derived.Lib.Replace
set_option maxHeartbeats 0
set_option linter.unusedSimpArgs false
open Go.RowKit
namespace Go.Proofs.YtlmgdfoiejpbcaaGreatDoor
theorem ex_dataA(s:ByteArray)(a b:Nat):(s.extract a b).data.toList=(s.data.toList.drop a).take (b-a):=by
 rw[ByteArray.data_extract]
 simp[List.take_drop]
theorem toList_dataA(s:ByteArray):s.toList=s.data.toList:=by rw[ByteArray.toList_eq]
theorem jf1{s:ByteArray}{l:List UInt8}(h:s.data.toList=l):s=⟨l.toArray⟩:=by
 subst h
 apply ByteArray.ext
 simp
theorem jag(s:ByteArray):s.data.toList.length=s.size:=by rw[Array.length_toList];rfl
def jdw(d:List UInt8)(save:Int):List UInt8:=
 if 0<=Lib.index d [47]then(if save=0 then d.take (Lib.index d [47]).toNat else d.drop ((Lib.index d [47]).toNat+1))else d
def jdf(p l:List UInt8):List UInt8:=
 if 0<=Lib.index p [37,115]then p.take (Lib.index p [37,115]).toNat++l++p.drop ((Lib.index p [37,115]).toNat+2)else p
theorem jvn{d:List UInt8}{save:Int}(h:Lib.index d [47]= -1):jdw d save=d:=by unfold jdw;rw[if_neg (by omega)]
theorem j03{d:List UInt8}{i:Nat}(h:Lib.index d [47]=i):jdw d 0=d.take i:=by unfold jdw;rw[if_pos (by omega),if_pos rfl,h];simp
theorem j02{d:List UInt8}{save:Int}{i:Nat}(h:Lib.index d [47]=i)(hs:save≠0):jdw d save=d.drop (i+1):=by unfold jdw;rw[if_pos (by omega),if_neg hs,h];simp
theorem jmt{p l:List UInt8}(h:Lib.index p [37,115]= -1):jdf p l=p:=by unfold jdf;rw[if_neg (by omega)]
theorem jmu{p l:List UInt8}{i:Nat}(h:Lib.index p [37,115]=i):jdf p l=p.take i++l++p.drop (i+2):=by unfold jdf;rw[if_pos (by omega),h];simp
theorem jlz(d:List UInt8)(save:Int):(jdw d save).length<=d.length:=by
 unfold jdw
 split
 ·split
  ·rw[List.length_take];omega
  ·rw[List.length_drop];omega
 ·exact nlr _
theorem jvy{p:List UInt8}{i:Nat}(h:Lib.occAt p [37,115] i=true):p.take i++[37,115]++p.drop (i+2)=p:=by
 unfold Lib.occAt at h
 obtain⟨r,hr⟩:=List.isPrefixOf_iff_prefix.1 h
 have e:p.drop (i+2)=r:=by rw[<- List.drop_drop, <- hr];rfl
 rw[e,List.append_assoc,hr,List.take_append_drop]
theorem jpu(p l:List UInt8):Lib.replace p [37,115] l 1=jdf p l:=by
 rcases Lib.index_spec p [37,115]with⟨h1,_⟩|⟨i,h1,_,h3,_⟩
 ·rw[jmt h1]
  unfold Lib.replace Lib.replaceNum
  rw[Lib.count_miss h1]
  split
  ·rfl
  ·rw[if_pos (Or.inr (by omega))];rfl
 ·rw[jmu h1]
  unfold Lib.replace
  split
  ·rename_i hl
   rw[<- (beq_iff_eq.mp hl)]
   exact(jvy h3).symm
  ·have hc:0<Lib.count p [37,115]:=by
    unfold Lib.count Lib.countFrom
    rw[if_neg (by simp;omega)]
    omega
   unfold Lib.replaceNum
   rw[if_neg (by omega)]
   exact Lib.replaceK_hit _ _ 0 p i h1
theorem j3w{d:List UInt8}(h:Lib.index d [47]= -1):Lib.cut d [47]=(d,[],false):=by unfold Lib.cut;rw[if_neg (by omega)]
theorem j3x{d:List UInt8}{i:Nat}(h:Lib.index d [47]=i):Lib.cut d [47]=(d.take i,d.drop (i+1),true):=by unfold Lib.cut;rw[if_pos (by omega),h];simp
theorem jco(s sub:ByteArray)(w:World)(hs:s.size<=8000)(h1:1<=sub.size)(h2:sub.size<=2):
  Cl 256 #[.string s,.string sub] w fun e w'=>e=.returned (iv (Lib.index s.data.toList sub.data.toList))/\w'=w:=by
 have HH:Hid (∀k:Nat,Lib.NoOcc s.data.toList sub.data.toList k->k+sub.size<=s.size->(s.extract k (k+sub.size)).toList==sub.toList->Lib.index s.data.toList sub.data.toList=k):=fun k hn hk he=>by
  refine Lib.index_hit hn (by rw[jag];omega) ?_
  rw[Lib.occAt_iff_take _ _ _ (by rw[jag,jag];exact hk),jag]
  rw[toList_dataA,toList_dataA,ex_dataA,show k+sub.size-k=sub.size by omega]at he
  exact he
 have HM:Hid (∀k:Nat,Lib.NoOcc s.data.toList sub.data.toList k->k+sub.size<=s.size->((s.extract k (k+sub.size)).toList==sub.toList)=false->Lib.NoOcc s.data.toList sub.data.toList (k+1)):=fun k hn hk he=>by
  refine hn.succ ?_
  rw[Lib.occAt_iff_take _ _ _ (by rw[jag,jag];exact hk),jag]
  rw[toList_dataA,toList_dataA,ex_dataA,show k+sub.size-k=sub.size by omega]at he
  exact he
 have HP:Hid (∀k:Nat,Lib.NoOcc s.data.toList sub.data.toList k->s.size<k+sub.size->Lib.index s.data.toList sub.data.toList= -1):=fun k hn hk=>by
  refine Lib.index_past (fun e=>?_) hn (by rw[jag,jag];exact hk)
  have:=jag sub
  rw[e]at this
  simp at this
  omega
 have H0:Hid (Lib.NoOcc s.data.toList sub.data.toList 0):=Lib.NoOcc.zero _ _
 generalize Lib.index s.data.toList sub.data.toList=ix at *
 unfold Cl;go_in
 go_wp2
 go_loop [5] (fun i=>∃k:Nat,k<=s.size+1/\i=iv k/\Hid (Lib.NoOcc s.data.toList sub.data.toList k)) (fun i=>s.size+1-(intOf i).toNat)
 case atStart=>exact⟨0,by omega,rfl,H0⟩
 case round=>
  obtain⟨k,hk,rfl,hn⟩:=hrel
  by_cases hlt:k+sub.size<=s.size
  ·cases hb:((s.extract k (k+sub.size)).toList==sub.toList)
   ·have HR:Hid (Lib.NoOcc s.data.toList sub.data.toList (k+1)):=HM.out k hn.out hlt hb
    go_wp2
    go_round
    case rel=>exact⟨k+1,by omega,by go_num,HR⟩
    case measure=>simp[intOf];omega
   ·have HR:Hid (ix=k):=HH.out k hn.out hlt hb
    go_wp2
    go_ret
    exact⟨ret_int HR.out.symm,rfl⟩
  ·have HR:Hid (ix= -1):=HP.out k hn.out (by omega)
   go_wp2
   go_ret
   exact⟨ret_int HR.out.symm,rfl⟩
theorem ret_str{a b:ByteArray}(h:a=b):Ending.returned (.string a)=.returned (.string b):=by rw[h]
def jki(f l:ByteArray)(save:Int):ByteArray:=if f.size<=8000/\l.size<=8000 then⟨(jdf (jdw f.data.toList save) l.data.toList).toArray⟩else⟨#[]⟩
theorem jsm{f l:ByteArray}{save:Int}(h:¬(f.size<=8000/\l.size<=8000)):jki f l save=⟨#[]⟩:=if_neg h
theorem jjv{f l:ByteArray}{save:Int}(h:f.size<=8000/\l.size<=8000):jki f l save=⟨(jdf (jdw f.data.toList save) l.data.toList).toArray⟩:=if_pos h
def MxA(w:World):Prop:=∃m:Int,w.cell? (ad (1) 0)=some (iv m)
theorem MxA.of_below{w w':World}(h:MxA w)(hb:Bw w w'):MxA w':=by
 obtain⟨m,hm⟩:=h
 exact⟨m,(qce hb hm hm)⟩
theorem jxq(s sub:ByteArray)(h:1<=sub.size):Lib.countB s sub<=s.size:=by
 have:=Lib.countB_mul_le sub h s.size s (nlr _)
 exact Nat.le_trans (Nat.le_mul_of_pos_right _ h) this
theorem jm7(f l:ByteArray)(save:Int)(w:World)(hf:f.size<=8000)(hl:l.size<=8000):
  Cl 226 #[.string f,.string l,iv save] w fun e w'=>e=.returned (.string ⟨(jdf (jdw f.data.toList save) l.data.toList).toArray⟩)/\∃n,w'=w.drewN n:=by
 have hI:=fun w=>jco f ⟨#[47]⟩ w hf (by decide) (by decide)
 have dw:=jlz f.data.toList save
 rw[jag]at dw
 rcases Lib.index_spec f.data.toList [47]with⟨e1,_⟩|⟨i,e1,hi,sH,_⟩
 ·have hq:f.data.toList=jdw f.data.toList save:=(jvn e1).symm
  rw[show(ByteArray.mk #[47]).data.toList=[47]from rfl,e1]at hI
  have hJ:=fun w=>jco f ⟨#[37,115]⟩ w hf (by decide) (by decide)
  rw[show(ByteArray.mk #[37,115]).data.toList=[37,115]from rfl]at hJ
  generalize hqq:jdw f.data.toList save=q at *
  clear hqq dw e1
  obtain⟨p,rfl⟩:∃p:ByteArray,p=f:=⟨f,rfl⟩
  unfold Cl;go_in
  go_wp2_with fail
  refine(hI _).mono ?_
  rintro e w' ⟨rfl,rfl⟩
  go_wp2_with fail
  rcases Lib.index_spec p.data.toList [37,115]with⟨e2,_⟩|⟨j,e2,hj,ho,_⟩
  ·rw[e2]at hJ
   have HR:Hid (({ data:=(jdf q l.data.toList).toArray }:ByteArray)=p):=by simp only[Hid];rw[<- hq,jmt e2]
   refine(hJ _).mono ?_
   rintro e w' ⟨rfl,rfl⟩
   go_wp2
   go_ret
   exact⟨ret_str HR.out.symm,0,rfl⟩
  ·rw[e2]at hJ
   have gk:j+2<=p.size:=by
    rcases Lib.occAt_room ho with h|h
    ·rw[jag]at h;simpa using h
    ·cases h
   have i0:(0:Int)<=(j:Int):=by omega
   have i1:(j:Int)<=(p.size:Int):=by omega
   have i2:(j:Int)+2<=(p.size:Int):=by omega
   have HR:Hid (({ data:=(jdf q l.data.toList).toArray }:ByteArray)=p.extract 0 j++l++p.extract (j+2) p.size):=by
    simp only[Hid]
    rw[<- hq,jmu e2]
    symm
    apply jf1
    simp only[ByteArray.data_append,Array.toList_append,ex_dataA,List.drop_zero,Nat.sub_zero]
    rw[List.take_of_length_le (l:=p.data.toList.drop (j+2)) (by rw[List.length_drop,jag];omega)]
   clear hj ho e2
   refine(hJ _).mono ?_
   rintro e w' ⟨rfl,rfl⟩
   go_wp2_with fail
   go_quiet (fail)
   go_wp2
   go_ret
   exact⟨ret_str HR.out.symm,_,rfl⟩
 ·rw [jag]at hi
  rw[show(ByteArray.mk #[47]).data.toList=[47]from rfl,e1]at hI
  have gk:i+1<=f.size:=by
   rcases Lib.occAt_room sH with h|h
   ·rw[jag]at h;simpa using h
   ·cases h
  have j0:(0:Int)<=(i:Int):=by omega
  have j1:(i:Int)+1<=(f.size:Int):=by omega
  by_cases hs:save=0
  ·subst hs
   have hq:(f.extract 0 i).data.toList=jdw f.data.toList 0:=by rw[j03 e1,ex_dataA];simp
   have hz:(f.extract 0 i).size<=8000:=by rw[ByteArray.size_extract];omega
   have hJ:=fun w=>jco (f.extract 0 i) ⟨#[37,115]⟩ w hz (by decide) (by decide)
   rw[show(ByteArray.mk #[37,115]).data.toList=[37,115]from rfl]at hJ
   generalize hqq:jdw f.data.toList 0=q at *
   clear hqq dw e1 sH
   unfold Cl;go_in
   go_wp2_with fail
   refine(hI _).mono ?_
   rintro e w' ⟨rfl,rfl⟩
   go_wp2_with fail
   generalize f.extract 0 i=p at *
   clear hI j0 j1 gk hi
   rcases Lib.index_spec p.data.toList [37,115]with⟨e2,_⟩|⟨j,e2,hj,ho,_⟩
   ·rw[e2]at hJ
    have HR:Hid (({ data:=(jdf q l.data.toList).toArray }:ByteArray)=p):=by simp only[Hid];rw[<- hq,jmt e2]
    refine(hJ _).mono ?_
    rintro e w' ⟨rfl,rfl⟩
    go_wp2
    go_ret
    exact⟨ret_str HR.out.symm,0,rfl⟩
   ·rw[e2]at hJ
    have gk:j+2<=p.size:=by
     rcases Lib.occAt_room ho with h|h
     ·rw[jag]at h;simpa using h
     ·cases h
    have i0:(0:Int)<=(j:Int):=by omega
    have i1:(j:Int)<=(p.size:Int):=by omega
    have i2:(j:Int)+2<=(p.size:Int):=by omega
    have HR:Hid (({ data:=(jdf q l.data.toList).toArray }:ByteArray)=p.extract 0 j++l++p.extract (j+2) p.size):=by
     simp only[Hid]
     rw[<- hq,jmu e2]
     symm
     apply jf1
     simp only[ByteArray.data_append,Array.toList_append,ex_dataA,List.drop_zero,Nat.sub_zero]
     rw[List.take_of_length_le (l:=p.data.toList.drop (j+2)) (by rw[List.length_drop,jag];omega)]
    clear hj ho e2
    refine(hJ _).mono ?_
    rintro e w' ⟨rfl,rfl⟩
    go_wp2_with fail
    go_quiet (fail)
    go_wp2
    go_ret
    exact⟨ret_str HR.out.symm,_,rfl⟩
  ·have hq:(f.extract (i+1) f.size).data.toList=jdw f.data.toList save:=by rw[j02 e1 hs,ex_dataA,List.take_of_length_le (by rw[List.length_drop,jag];omega)]
   have hz:(f.extract (i+1) f.size).size<=8000:=by rw[ByteArray.size_extract];omega
   have hJ:=fun w=>jco (f.extract (i+1) f.size) ⟨#[37,115]⟩ w hz (by decide) (by decide)
   rw[show(ByteArray.mk #[37,115]).data.toList=[37,115]from rfl]at hJ
   generalize hqq:jdw f.data.toList save=q at *
   have Cw:(save==0)=false:=by simpa using hs
   clear hqq dw e1 sH hs
   unfold Cl;go_in
   go_wp2_with fail
   refine(hI _).mono ?_
   rintro e w' ⟨rfl,rfl⟩
   go_wp2_with fail
   generalize f.extract (i+1) f.size=p at *
   clear hI j0 j1 gk hi
   rcases Lib.index_spec p.data.toList [37,115]with⟨e2,_⟩|⟨j,e2,hj,ho,_⟩
   ·rw[e2]at hJ
    have HR:Hid (({ data:=(jdf q l.data.toList).toArray }:ByteArray)=p):=by simp only[Hid];rw[<- hq,jmt e2]
    refine(hJ _).mono ?_
    rintro e w' ⟨rfl,rfl⟩
    go_wp2
    go_ret
    exact⟨ret_str HR.out.symm,0,rfl⟩
   ·rw[e2]at hJ
    have gk:j+2<=p.size:=by
     rcases Lib.occAt_room ho with h|h
     ·rw[jag]at h;simpa using h
     ·cases h
    have i0:(0:Int)<=(j:Int):=by omega
    have i1:(j:Int)<=(p.size:Int):=by omega
    have i2:(j:Int)+2<=(p.size:Int):=by omega
    have HR:Hid (({ data:=(jdf q l.data.toList).toArray }:ByteArray)=p.extract 0 j++l++p.extract (j+2) p.size):=by
     simp only[Hid]
     rw[<- hq,jmu e2]
     symm
     apply jf1
     simp only[ByteArray.data_append,Array.toList_append,ex_dataA,List.drop_zero,Nat.sub_zero]
     rw[List.take_of_length_le (l:=p.data.toList.drop (j+2)) (by rw[List.length_drop,jag];omega)]
    clear hj ho e2
    refine(hJ _).mono ?_
    rintro e w' ⟨rfl,rfl⟩
    go_wp2_with fail
    go_quiet (fail)
    go_wp2
    go_ret
    exact⟨ret_str HR.out.symm,_,rfl⟩
theorem jqu(f l:ByteArray)(save:Int)(w:World)(hM:MxA w)(hf:f.size<=1048576)(hl:l.size<=1048576):
  Cl 298 #[.string f,.string l,iv save] w fun e w'=>e=.returned (.string (jki f l save))/\Bw w w':=by
 by_cases h1:f.size<=8000
 ·by_cases h2:l.size<=8000
  ·obtain⟨m,hm⟩:=hM
   have hC:=Tryz.strings_Cut f ⟨#[47]⟩ m w (by omega) hm
   have sk:∀(p:ByteArray) w',p.data.toList.length<=8000->Bw w w'->Cl 310 #[.string p,.string ⟨#[37,115]⟩,.string l,iv 1] w' fun e cW=>e=.returned (.string ⟨(jdf p.data.toList l.data.toList).toArray⟩)/\Bw w' cW:=fun p w' hp hb=>by
    rw[jag]at hp
    have sA:=jxq p ⟨#[37,115]⟩ (by decide)
    have:=Tryz.strings_Replace p ⟨#[37,115]⟩ l 1 m w' (by omega) (qce hb hm hm) (by decide) (by
     have:=Nat.mul_le_mul (Nat.le_trans sA hp) h2
     omega)
    rw[show(ByteArray.mk #[37,115]).data.toList=[37,115]from rfl,jpu]at this
    exact this
   rw[jjv ⟨h1,h2⟩]
   rw[show(ByteArray.mk #[47]).data.toList=[47]from rfl]at hC
   have dw:=jlz f.data.toList save
   rw[jag]at dw
   have hd:=jag f
   rcases Lib.index_spec f.data.toList [47]with⟨e1,_⟩|⟨i,e1,hi,sH,_⟩
   ·rw[j3w e1]at hC
    rw[jvn e1]
    have aM:=fun w' hb=>sk ⟨f.data.toList.toArray⟩ w' (by simp;omega) hb
    simp only at aM
    generalize (jdf f.data.toList l.data.toList).toArray=x at *
    generalize f.data.toList.toArray=d at *
    clear sk e1 dw hd
    unfold Cl;go_in
    go_wp2_with fail
    refine hC.mono ?_
    rintro e w' ⟨rfl,n,rfl⟩
    go_wp2_with fail
    refine(aM _ (below_drewN (brf _ _) _)).mono ?_
    rintro e w' ⟨rfl,hb⟩
    go_wp2
    go_ret
    exact⟨rfl,(below_drewN (brf _ _) n).trans hb⟩
   ·rw[j3x e1]at hC
    by_cases hs:save=0
    ·subst hs
     rw[j03 e1]
     have aM:=fun w' hb=>sk ⟨(f.data.toList.take i).toArray⟩ w' (by simp;omega) hb
     simp only at aM
     generalize (jdf (f.data.toList.take i) l.data.toList).toArray=x at *
     generalize (f.data.toList.take i).toArray=d at *
     generalize (f.data.toList.drop (i+1)).toArray=d2 at *
     clear sk e1 dw hd
     unfold Cl;go_in
     go_wp2_with fail
     refine hC.mono ?_
     rintro e w' ⟨rfl,n,rfl⟩
     go_wp2_with fail
     refine(aM _ (below_drewN (brf _ _) _)).mono ?_
     rintro e w' ⟨rfl,hb⟩
     go_wp2
     go_ret
     exact⟨rfl,(below_drewN (brf _ _) n).trans hb⟩
    ·rw[j02 e1 hs]
     have aM:=fun w' hb=>sk ⟨(f.data.toList.drop (i+1)).toArray⟩ w' (by simp;omega) hb
     simp only at aM
     generalize (jdf (f.data.toList.drop (i+1)) l.data.toList).toArray=x at *
     generalize (f.data.toList.take i).toArray=d at *
     generalize (f.data.toList.drop (i+1)).toArray=d2 at *
     clear sk e1 dw hd
     unfold Cl;go_in
     go_wp2_with fail
     refine hC.mono ?_
     rintro e w' ⟨rfl,n,rfl⟩
     go_wp2_with fail
     refine(aM _ (below_drewN (brf _ _) _)).mono ?_
     rintro e w' ⟨rfl,hb⟩
     go_wp2
     go_ret
     exact⟨rfl,(below_drewN (brf _ _) n).trans hb⟩
  ·rw[jsm (by omega)]
   unfold Cl;go_in
   go_wp2
   go_ret
   exact⟨rfl,brf _ _⟩
 ·rw[jsm (by omega)]
  unfold Cl;go_in
  go_wp2
  go_ret
  exact⟨rfl,brf _ _⟩
