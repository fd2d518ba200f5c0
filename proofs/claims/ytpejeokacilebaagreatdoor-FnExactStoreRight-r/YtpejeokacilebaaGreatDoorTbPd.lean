import Derived.Test.YtpejeokacilebaaGreatDoorHpUd
set_option maxRecDepth 100000
set_option maxHeartbeats 0
set_option linter.unusedSimpArgs false
open Go.RowKit Go.Sort
namespace Go.Proofs.YtpejeokacilebaaGreatDoor
theorem ex_dataA(s:ByteArray)(a b:Nat):(s.extract a b).data.toList=(s.data.toList.drop a).take (b-a):=by
 rw[ByteArray.data_extract]
 simp[List.take_drop]
theorem toList_dataA(s:ByteArray):s.toList=s.data.toList:=by rw[ByteArray.toList_eq]
theorem jf1{s:ByteArray}{l:List UInt8}(h:s.data.toList=l):s=⟨l.toArray⟩:=by
 subst h
 apply ByteArray.ext
 simp
theorem jag(s:ByteArray):s.data.toList.length=s.size:=by rw[Array.length_toList];rfl
def jdw(d:List UInt8)(save:Int):List UInt8:=
 if 0<=Lib.index d [47]then(if save=0 then d.take (Lib.index d [47]).toNat else d.drop ((Lib.index d [47]).toNat+1))else d
def jdf(p l:List UInt8):List UInt8:=
 if 0<=Lib.index p [37,115]then p.take (Lib.index p [37,115]).toNat++l++p.drop ((Lib.index p [37,115]).toNat+2)else p
theorem jvn{d:List UInt8}{save:Int}(h:Lib.index d [47]= -1):jdw d save=d:=by unfold jdw;rw[if_neg (by omega)]
theorem j03{d:List UInt8}{i:Nat}(h:Lib.index d [47]=i):jdw d 0=d.take i:=by unfold jdw;rw[if_pos (by omega),if_pos rfl,h];simp
theorem j02{d:List UInt8}{save:Int}{i:Nat}(h:Lib.index d [47]=i)(hs:save≠0):jdw d save=d.drop (i+1):=by unfold jdw;rw[if_pos (by omega),if_neg hs,h];simp
theorem jmt{p l:List UInt8}(h:Lib.index p [37,115]= -1):jdf p l=p:=by unfold jdf;rw[if_neg (by omega)]
theorem jmu{p l:List UInt8}{i:Nat}(h:Lib.index p [37,115]=i):jdf p l=p.take i++l++p.drop (i+2):=by unfold jdf;rw[if_pos (by omega),h];simp
theorem jlz(d:List UInt8)(save:Int):(jdw d save).length<=d.length:=by
 unfold jdw
 split
 ·split
  ·rw[List.length_take];omega
  ·rw[List.length_drop];omega
 ·exact nlr _
theorem jvy{p:List UInt8}{i:Nat}(h:Lib.occAt p [37,115] i=true):p.take i++[37,115]++p.drop (i+2)=p:=by
 unfold Lib.occAt at h
 obtain⟨r,hr⟩:=List.isPrefixOf_iff_prefix.1 h
 have e:p.drop (i+2)=r:=by rw[<- List.drop_drop, <- hr];rfl
 rw[e,List.append_assoc,hr,List.take_append_drop]
theorem jpu(p l:List UInt8):Lib.replace p [37,115] l 1=jdf p l:=by
 rcases Lib.index_spec p [37,115]with⟨h1,_⟩|⟨i,h1,_,h3,_⟩
 ·rw[jmt h1]
  unfold Lib.replace Lib.replaceNum
  rw[Lib.count_miss h1]
  split
  ·rfl
  ·rw[if_pos (Or.inr (by omega))];rfl
 ·rw[jmu h1]
  unfold Lib.replace
  split
  ·rename_i hl
   rw[<- (beq_iff_eq.mp hl)]
   exact(jvy h3).symm
  ·have hc:0<Lib.count p [37,115]:=by
    unfold Lib.count Lib.countFrom
    rw[if_neg (by simp;omega)]
    omega
   unfold Lib.replaceNum
   rw[if_neg (by omega)]
   exact Lib.replaceK_hit _ _ 0 p i h1
theorem j3w{d:List UInt8}(h:Lib.index d [47]= -1):Lib.cut d [47]=(d,[],false):=by unfold Lib.cut;rw[if_neg (by omega)]
theorem j3x{d:List UInt8}{i:Nat}(h:Lib.index d [47]=i):Lib.cut d [47]=(d.take i,d.drop (i+1),true):=by unfold Lib.cut;rw[if_pos (by omega),h];simp
theorem jco(s sub:ByteArray)(w:World)(hs:s.size<=8000)(h1:1<=sub.size)(h2:sub.size<=2):
  Cl 185 #[.string s,.string sub] w fun e w'=>e=.returned (iv (Lib.index s.data.toList sub.data.toList))/\w'=w:=by
 have HH:Hid (∀k:Nat,Lib.NoOcc s.data.toList sub.data.toList k->k+sub.size<=s.size->(s.extract k (k+sub.size)).toList==sub.toList->Lib.index s.data.toList sub.data.toList=k):=fun k hn hk he=>by
  refine Lib.index_hit hn (by rw[jag];omega) ?_
  rw[Lib.occAt_iff_take _ _ _ (by rw[jag,jag];exact hk),jag]
  rw[toList_dataA,toList_dataA,ex_dataA,show k+sub.size-k=sub.size by omega]at he
  exact he
 have HM:Hid (∀k:Nat,Lib.NoOcc s.data.toList sub.data.toList k->k+sub.size<=s.size->((s.extract k (k+sub.size)).toList==sub.toList)=false->Lib.NoOcc s.data.toList sub.data.toList (k+1)):=fun k hn hk he=>by
  refine hn.succ ?_
  rw[Lib.occAt_iff_take _ _ _ (by rw[jag,jag];exact hk),jag]
  rw[toList_dataA,toList_dataA,ex_dataA,show k+sub.size-k=sub.size by omega]at he
  exact he
 have HP:Hid (∀k:Nat,Lib.NoOcc s.data.toList sub.data.toList k->s.size<k+sub.size->Lib.index s.data.toList sub.data.toList= -1):=fun k hn hk=>by
  refine Lib.index_past (fun e=>?_) hn (by rw[jag,jag];exact hk)
  have:=jag sub
  rw[e]at this
  simp at this
  omega
 have H0:Hid (Lib.NoOcc s.data.toList sub.data.toList 0):=Lib.NoOcc.zero _ _
 generalize Lib.index s.data.toList sub.data.toList=ix at *
 unfold Cl;go_in
 go_wp2
 go_loop [5] (fun i=>∃k:Nat,k<=s.size+1/\i=iv k/\Hid (Lib.NoOcc s.data.toList sub.data.toList k)) (fun i=>s.size+1-(intOf i).toNat)
 case atStart=>exact⟨0,by omega,rfl,H0⟩
 case round=>
  obtain⟨k,hk,rfl,hn⟩:=hrel
  by_cases hlt:k+sub.size<=s.size
  ·cases hb:((s.extract k (k+sub.size)).toList==sub.toList)
   ·have HR:Hid (Lib.NoOcc s.data.toList sub.data.toList (k+1)):=HM.out k hn.out hlt hb
    go_wp2
    go_round
    case rel=>exact⟨k+1,by omega,by go_num,HR⟩
    case measure=>simp[intOf];omega
   ·have HR:Hid (ix=k):=HH.out k hn.out hlt hb
    go_wp2
    go_ret
    exact⟨ret_int HR.out.symm,rfl⟩
  ·have HR:Hid (ix= -1):=HP.out k hn.out (by omega)
   go_wp2
   go_ret
   exact⟨ret_int HR.out.symm,rfl⟩
theorem ret_str{a b:ByteArray}(h:a=b):Ending.returned (.string a)=.returned (.string b):=by rw[h]
def jki(f l:ByteArray)(save:Int):ByteArray:=if f.size<=8000/\l.size<=8000 then⟨(jdf (jdw f.data.toList save) l.data.toList).toArray⟩else⟨#[]⟩
theorem jsm{f l:ByteArray}{save:Int}(h:¬(f.size<=8000/\l.size<=8000)):jki f l save=⟨#[]⟩:=if_neg h
theorem jjv{f l:ByteArray}{save:Int}(h:f.size<=8000/\l.size<=8000):jki f l save=⟨(jdf (jdw f.data.toList save) l.data.toList).toArray⟩:=if_pos h
def MxA(w:World):Prop:=∃m:Int,w.cell? (ad (1) 0)=some (iv m)
theorem MxA.of_below{w w':World}(h:MxA w)(hb:Bw w w'):MxA w':=by
 obtain⟨m,hm⟩:=h
 exact⟨m,(qce hb hm hm)⟩
theorem jxq(s sub:ByteArray)(h:1<=sub.size):Lib.countB s sub<=s.size:=by
 have:=Lib.countB_mul_le sub h s.size s (nlr _)
 exact Nat.le_trans (Nat.le_mul_of_pos_right _ h) this
theorem jm7(f l:ByteArray)(save:Int)(w:World)(hf:f.size<=8000)(hl:l.size<=8000):
  Cl 160 #[.string f,.string l,iv save] w fun e w'=>e=.returned (.string ⟨(jdf (jdw f.data.toList save) l.data.toList).toArray⟩)/\∃n,w'=w.drewN n:=by
 have hI:=fun w=>jco f ⟨#[47]⟩ w hf (by decide) (by decide)
 have dw:=jlz f.data.toList save
 rw[jag]at dw
 rcases Lib.index_spec f.data.toList [47]with⟨e1,_⟩|⟨i,e1,hi,sH,_⟩
 ·have hq:f.data.toList=jdw f.data.toList save:=(jvn e1).symm
  rw[show(ByteArray.mk #[47]).data.toList=[47]from rfl,e1]at hI
  have hJ:=fun w=>jco f ⟨#[37,115]⟩ w hf (by decide) (by decide)
  rw[show(ByteArray.mk #[37,115]).data.toList=[37,115]from rfl]at hJ
  generalize hqq:jdw f.data.toList save=q at *
  clear hqq dw e1
  obtain⟨p,rfl⟩:∃p:ByteArray,p=f:=⟨f,rfl⟩
  unfold Cl;go_in
  go_wp2_with fail
  refine(hI _).mono ?_
  rintro e w' ⟨rfl,rfl⟩
  go_wp2_with fail
  rcases Lib.index_spec p.data.toList [37,115]with⟨e2,_⟩|⟨j,e2,hj,ho,_⟩
  ·rw[e2]at hJ
   have HR:Hid (({ data:=(jdf q l.data.toList).toArray }:ByteArray)=p):=by simp only[Hid];rw[<- hq,jmt e2]
   refine(hJ _).mono ?_
   rintro e w' ⟨rfl,rfl⟩
   go_wp2
   go_ret
   exact⟨ret_str HR.out.symm,0,rfl⟩
  ·rw[e2]at hJ
   have gk:j+2<=p.size:=by
    rcases Lib.occAt_room ho with h|h
    ·rw[jag]at h;simpa using h
    ·cases h
   have i0:(0:Int)<=(j:Int):=by omega
   have i1:(j:Int)<=(p.size:Int):=by omega
   have i2:(j:Int)+2<=(p.size:Int):=by omega
   have HR:Hid (({ data:=(jdf q l.data.toList).toArray }:ByteArray)=p.extract 0 j++l++p.extract (j+2) p.size):=by
    simp only[Hid]
    rw[<- hq,jmu e2]
    symm
    apply jf1
    simp only[ByteArray.data_append,Array.toList_append,ex_dataA,List.drop_zero,Nat.sub_zero]
    rw[List.take_of_length_le (l:=p.data.toList.drop (j+2)) (by rw[List.length_drop,jag];omega)]
   clear hj ho e2
   refine(hJ _).mono ?_
   rintro e w' ⟨rfl,rfl⟩
   go_wp2_with fail
   go_quiet (fail)
   go_wp2
   go_ret
   exact⟨ret_str HR.out.symm,_,rfl⟩
 ·rw [jag]at hi
  rw[show(ByteArray.mk #[47]).data.toList=[47]from rfl,e1]at hI
  have gk:i+1<=f.size:=by
   rcases Lib.occAt_room sH with h|h
   ·rw[jag]at h;simpa using h
   ·cases h
  have j0:(0:Int)<=(i:Int):=by omega
  have j1:(i:Int)+1<=(f.size:Int):=by omega
  by_cases hs:save=0
  ·subst hs
   have hq:(f.extract 0 i).data.toList=jdw f.data.toList 0:=by rw[j03 e1,ex_dataA];simp
   have hz:(f.extract 0 i).size<=8000:=by rw[ByteArray.size_extract];omega
   have hJ:=fun w=>jco (f.extract 0 i) ⟨#[37,115]⟩ w hz (by decide) (by decide)
   rw[show(ByteArray.mk #[37,115]).data.toList=[37,115]from rfl]at hJ
   generalize hqq:jdw f.data.toList 0=q at *
   clear hqq dw e1 sH
   unfold Cl;go_in
   go_wp2_with fail
   refine(hI _).mono ?_
   rintro e w' ⟨rfl,rfl⟩
   go_wp2_with fail
   generalize f.extract 0 i=p at *
   clear hI j0 j1 gk hi
   rcases Lib.index_spec p.data.toList [37,115]with⟨e2,_⟩|⟨j,e2,hj,ho,_⟩
   ·rw[e2]at hJ
    have HR:Hid (({ data:=(jdf q l.data.toList).toArray }:ByteArray)=p):=by simp only[Hid];rw[<- hq,jmt e2]
    refine(hJ _).mono ?_
    rintro e w' ⟨rfl,rfl⟩
    go_wp2
    go_ret
    exact⟨ret_str HR.out.symm,0,rfl⟩
   ·rw[e2]at hJ
    have gk:j+2<=p.size:=by
     rcases Lib.occAt_room ho with h|h
     ·rw[jag]at h;simpa using h
     ·cases h
    have i0:(0:Int)<=(j:Int):=by omega
    have i1:(j:Int)<=(p.size:Int):=by omega
    have i2:(j:Int)+2<=(p.size:Int):=by omega
    have HR:Hid (({ data:=(jdf q l.data.toList).toArray }:ByteArray)=p.extract 0 j++l++p.extract (j+2) p.size):=by
     simp only[Hid]
     rw[<- hq,jmu e2]
     symm
     apply jf1
     simp only[ByteArray.data_append,Array.toList_append,ex_dataA,List.drop_zero,Nat.sub_zero]
     rw[List.take_of_length_le (l:=p.data.toList.drop (j+2)) (by rw[List.length_drop,jag];omega)]
    clear hj ho e2
    refine(hJ _).mono ?_
    rintro e w' ⟨rfl,rfl⟩
    go_wp2_with fail
    go_quiet (fail)
    go_wp2
    go_ret
    exact⟨ret_str HR.out.symm,_,rfl⟩
  ·have hq:(f.extract (i+1) f.size).data.toList=jdw f.data.toList save:=by rw[j02 e1 hs,ex_dataA,List.take_of_length_le (by rw[List.length_drop,jag];omega)]
   have hz:(f.extract (i+1) f.size).size<=8000:=by rw[ByteArray.size_extract];omega
   have hJ:=fun w=>jco (f.extract (i+1) f.size) ⟨#[37,115]⟩ w hz (by decide) (by decide)
   rw[show(ByteArray.mk #[37,115]).data.toList=[37,115]from rfl]at hJ
   generalize hqq:jdw f.data.toList save=q at *
   have Cw:(save==0)=false:=by simpa using hs
   clear hqq dw e1 sH hs
   unfold Cl;go_in
   go_wp2_with fail
   refine(hI _).mono ?_
   rintro e w' ⟨rfl,rfl⟩
   go_wp2_with fail
   generalize f.extract (i+1) f.size=p at *
   clear hI j0 j1 gk hi
   rcases Lib.index_spec p.data.toList [37,115]with⟨e2,_⟩|⟨j,e2,hj,ho,_⟩
   ·rw[e2]at hJ
    have HR:Hid (({ data:=(jdf q l.data.toList).toArray }:ByteArray)=p):=by simp only[Hid];rw[<- hq,jmt e2]
    refine(hJ _).mono ?_
    rintro e w' ⟨rfl,rfl⟩
    go_wp2
    go_ret
    exact⟨ret_str HR.out.symm,0,rfl⟩
   ·rw[e2]at hJ
    have gk:j+2<=p.size:=by
     rcases Lib.occAt_room ho with h|h
     ·rw[jag]at h;simpa using h
     ·cases h
    have i0:(0:Int)<=(j:Int):=by omega
    have i1:(j:Int)<=(p.size:Int):=by omega
    have i2:(j:Int)+2<=(p.size:Int):=by omega
    have HR:Hid (({ data:=(jdf q l.data.toList).toArray }:ByteArray)=p.extract 0 j++l++p.extract (j+2) p.size):=by
     simp only[Hid]
     rw[<- hq,jmu e2]
     symm
     apply jf1
     simp only[ByteArray.data_append,Array.toList_append,ex_dataA,List.drop_zero,Nat.sub_zero]
     rw[List.take_of_length_le (l:=p.data.toList.drop (j+2)) (by rw[List.length_drop,jag];omega)]
    clear hj ho e2
    refine(hJ _).mono ?_
    rintro e w' ⟨rfl,rfl⟩
    go_wp2_with fail
    go_quiet (fail)
    go_wp2
    go_ret
    exact⟨ret_str HR.out.symm,_,rfl⟩
theorem jqu(f l:ByteArray)(save:Int)(w:World)(hM:MxA w)(hf:f.size<=1048576)(hl:l.size<=1048576):
  Cl 255 #[.string f,.string l,iv save] w fun e w'=>e=.returned (.string (jki f l save))/\Bw w w':=by
 by_cases h1:f.size<=8000
 ·by_cases h2:l.size<=8000
  ·obtain⟨m,hm⟩:=hM
   have hC:=Tryz.strings_Cut f ⟨#[47]⟩ m w (by omega) hm
   have sk:∀(p:ByteArray) w',p.data.toList.length<=8000->Bw w w'->Cl 267 #[.string p,.string ⟨#[37,115]⟩,.string l,iv 1] w' fun e cW=>e=.returned (.string ⟨(jdf p.data.toList l.data.toList).toArray⟩)/\Bw w' cW:=fun p w' hp hb=>by
    rw[jag]at hp
    have sA:=jxq p ⟨#[37,115]⟩ (by decide)
    have:=Tryz.strings_Replace p ⟨#[37,115]⟩ l 1 m w' (by omega) (qce hb hm hm) (by decide) (by
     have:=Nat.mul_le_mul (Nat.le_trans sA hp) h2
     omega)
    rw[show(ByteArray.mk #[37,115]).data.toList=[37,115]from rfl,jpu]at this
    exact this
   rw[jjv ⟨h1,h2⟩]
   rw[show(ByteArray.mk #[47]).data.toList=[47]from rfl]at hC
   have dw:=jlz f.data.toList save
   rw[jag]at dw
   have hd:=jag f
   rcases Lib.index_spec f.data.toList [47]with⟨e1,_⟩|⟨i,e1,hi,sH,_⟩
   ·rw[j3w e1]at hC
    rw[jvn e1]
    have aM:=fun w' hb=>sk ⟨f.data.toList.toArray⟩ w' (by simp;omega) hb
    simp only at aM
    generalize (jdf f.data.toList l.data.toList).toArray=x at *
    generalize f.data.toList.toArray=d at *
    clear sk e1 dw hd
    unfold Cl;go_in
    go_wp2_with fail
    refine hC.mono ?_
    rintro e w' ⟨rfl,n,rfl⟩
    go_wp2_with fail
    refine(aM _ (below_drewN (brf _ _) _)).mono ?_
    rintro e w' ⟨rfl,hb⟩
    go_wp2
    go_ret
    exact⟨rfl,(below_drewN (brf _ _) n).trans hb⟩
   ·rw[j3x e1]at hC
    by_cases hs:save=0
    ·subst hs
     rw[j03 e1]
     have aM:=fun w' hb=>sk ⟨(f.data.toList.take i).toArray⟩ w' (by simp;omega) hb
     simp only at aM
     generalize (jdf (f.data.toList.take i) l.data.toList).toArray=x at *
     generalize (f.data.toList.take i).toArray=d at *
     generalize (f.data.toList.drop (i+1)).toArray=d2 at *
     clear sk e1 dw hd
     unfold Cl;go_in
     go_wp2_with fail
     refine hC.mono ?_
     rintro e w' ⟨rfl,n,rfl⟩
     go_wp2_with fail
     refine(aM _ (below_drewN (brf _ _) _)).mono ?_
     rintro e w' ⟨rfl,hb⟩
     go_wp2
     go_ret
     exact⟨rfl,(below_drewN (brf _ _) n).trans hb⟩
    ·rw[j02 e1 hs]
     have aM:=fun w' hb=>sk ⟨(f.data.toList.drop (i+1)).toArray⟩ w' (by simp;omega) hb
     simp only at aM
     generalize (jdf (f.data.toList.drop (i+1)) l.data.toList).toArray=x at *
     generalize (f.data.toList.take i).toArray=d at *
     generalize (f.data.toList.drop (i+1)).toArray=d2 at *
     clear sk e1 dw hd
     unfold Cl;go_in
     go_wp2_with fail
     refine hC.mono ?_
     rintro e w' ⟨rfl,n,rfl⟩
     go_wp2_with fail
     refine(aM _ (below_drewN (brf _ _) _)).mono ?_
     rintro e w' ⟨rfl,hb⟩
     go_wp2
     go_ret
     exact⟨rfl,(below_drewN (brf _ _) n).trans hb⟩
  ·rw[jsm (by omega)]
   unfold Cl;go_in
   go_wp2
   go_ret
   exact⟨rfl,brf _ _⟩
 ·rw[jsm (by omega)]
  unfold Cl;go_in
  go_wp2
  go_ret
  exact⟨rfl,brf _ _⟩
def jb4:List HapD->ByteArray
 |[]=>⟨#[]⟩
 |h::t=>if h.save=0 then h.letter else jb4 t
theorem jjp{l:List HapD}(h:∀x∈l,x.save≠0):jb4 l=⟨#[]⟩:=by
 induction l with
 |nil=>rfl
 |cons x l ih=>rw[jb4,if_neg (h x (by simp))];exact ih fun y hy=>h y (lmc _ hy)
theorem jo2{l:List HapD}{k:Nat}{x:HapD}(hx:l[k]? =some x)(h0:x.save=0)(hb:∀j y,j<k->l[j]? =some y->y.save≠0):jb4 l=x.letter:=by
 induction l generalizing k with
 |nil=>simp at hx
 | cons a l ih=>
  cases k with
  |zero=>simp at hx;subst hx;rw[jb4,if_pos h0]
  |succ k=>
   rw[jb4,if_neg (hb 0 a (by omega) (by simp))]
   exact ih (by simpa using hx) fun j y hj hy=>hb (j+1) y (by omega) (by simpa using hy)
def jdx(H:List HapD)(t:Int):Nat->Nat
 |0=>0
 |k+1=>match H[k]? with
  |some h=>if h.at_<=t then k+1 else jdx H t k
  |none=>jdx H t k
def hcnt(H:List HapD)(t:Int):Nat:=jdx H t H.length
theorem jtx{H:List HapD}{t:Int}{k:Nat}{h:HapD}(hh:H[k]? =some h)(ht:t<h.at_):jdx H t (k+1)=jdx H t k:=by rw[jdx,hh];simp only;rw[if_neg (by omega)]
theorem jot{H:List HapD}{t:Int}{k:Nat}{h:HapD}(hh:H[k]? =some h)(ht:h.at_<=t):jdx H t (k+1)=k+1:=by rw[jdx,hh];simp only;rw[if_pos ht]
theorem jz1(H:List HapD)(t:Int):∀k,jdx H t k<=k:=by
 intro k
 induction k with
 |zero=>exact nlr _
 |succ k ih=>
  rw[jdx]
  split
  ·split<;>omega
  ·omega
theorem jwz(H:List HapD)(t:Int):hcnt H t<=H.length:=jz1 H t _
theorem jz0{H:List HapD}{t:Int}{n:Nat}:∀{k:Nat},n<=k->(∀i h,n<=i->i<k->H[i]? =some h->t<h.at_)->jdx H t k=jdx H t n:=by
 intro k
 induction k with
 |zero=>intro h _;rw[Nat.le_zero.mp h]
 |succ k ih=>
  intro hn h
  by_cases e:n=k+1
  ·rw[e]
  ·rw[jdx]
   split
   ·rename_i x hx
    rw[if_neg (by have:=h k x (by omega) (by omega) hx;omega)]
    exact ih (by omega) fun i y h1 h2 h3=>h i y h1 (by omega) h3
   ·exact ih (by omega) fun i y h1 h2 h3=>h i y h1 (by omega) h3
theorem jzz{H:List HapD}{t:Int}{n:Nat}(h1:n<=H.length)(h2:∀i h,n<=i->H[i]? =some h->t<h.at_)(h3:∀m h,n=m+1->H[m]? =some h->h.at_<=t):hcnt H t=n:=by
 unfold hcnt
 rw[jz0 h1 fun i h hi _ hh=>h2 i h hi hh]
 cases n with
 |zero=>rfl
 |succ m=>
  obtain⟨x,hx⟩:∃x,H[m]? =some x:=⟨_,lgg (by omega)⟩
  exact jot hx (h3 m x rfl hx)
def jdd(H:List HapD):Nat->HapD
 |0=>⟨0,0,jb4 H⟩
 |m+1=>H[m]?.getD ⟨0,0,⟨#[]⟩⟩
def jas(e:EraD)(H:List HapD)(t:Int):HapD:=if e.rules.size=0 then⟨0,e.save,⟨#[]⟩⟩else jdd H (hcnt H t)
theorem jjm{e:EraD}{H:List HapD}{t:Int}(h:e.rules.size=0):jas e H t=⟨0,e.save,⟨#[]⟩⟩:=if_pos h
theorem jen{e:EraD}{H:List HapD}{t:Int}(h:¬e.rules.size=0):jas e H t=jdd H (hcnt H t):=if_neg h
def jdl(e:EraD)(F:HapD)(t:Int):TurnD:=⟨t,e.offset+F.save,F.save,jki e.format F.letter F.save⟩
def turnE(e:EraD)(H:List HapD)(t:Int):TurnD:=jdl e (jas e H t) t
def endU(e:EraD)(H:List HapD):Int:=if e.of.toList==[115]then e.until_-e.offset else if e.of.toList==[119]then e.until_-e.offset-(jas e H (e.until_-e.offset-1)).save else e.until_
def endE(e:EraD)(H:List HapD)(b:Int):Int:=max b (min (endU e H) 253402300799)
def jd6(y x:TurnD):Bool:=decide (y.offset=x.offset)&&(decide (y.save=x.save)&&(y.abbr.toList==x.abbr.toList))
theorem jtj(x:TurnD):jd6 x x=true:=by simp[jd6]
def addT(T:List TurnD)(x:TurnD):List TurnD:=match T.getLast? with
 |some y=>if jd6 y x=true then T else T++[x]
 |none=>T++[x]
theorem jef{T:List TurnD}{y x:TurnD}(h:T.getLast? =some y)(hl:jd6 y x=true):addT T x=T:=by rw[addT,h];simp only;rw[if_pos hl]
theorem jms{T:List TurnD}{y x:TurnD}(h:T.getLast? =some y)(hl:jd6 y x=false):addT T x=T++[x]:=by rw[addT,h];simp only;rw[if_neg (by rw[hl];simp)]
theorem juc(T:List TurnD)(x:TurnD):addT (addT T x) x=addT T x:=by
 have hn:addT (T++[x]) x=T++[x]:=jef (y:=x) (by simp) (jtj x)
 cases h:T.getLast? with
 |none=>
  have e:addT T x=T++[x]:=by rw[addT,h]
  rw[e,hn]
 |some y=>
  cases hl:jd6 y x
  ·rw[jms h hl,hn]
  ·rw[jef h hl,jef h hl]
theorem j0q(T:List TurnD)(x:TurnD):(addT T x).length<=T.length+1:=by
 unfold addT
 split
 ·split
  ·omega
  ·simp
 ·simp
def ja8(f:Int->TurnD)(L:List Int)(T:List TurnD):List TurnD:=L.foldl (fun T t=>addT T (f t)) T
theorem foldT_cons(f:Int->TurnD)(t:Int)(L:List Int)(T:List TurnD):ja8 f (t::L) T=ja8 f L (addT T (f t)):=rfl
theorem jgk(f:Int->TurnD)(t:Int)(L:List Int)(T:List TurnD):ja8 f (L++[t]) T=addT (ja8 f L T) (f t):=by unfold ja8;rw[List.foldl_append];rfl
theorem jec(f:Int->TurnD):∀(L:List Int) (T:List TurnD),(ja8 f L T).length<=T.length+L.length:=by
 intro L
 induction L with
 |nil=>intro T;simp[ja8]
 |cons t L ih=>
  intro T
  rw[foldT_cons]
  have:=ih (addT T (f t))
  have:=j0q T (f t)
  simp only[List.length_cons]
  omega
theorem jt0(f:Int->TurnD):∀{L A:List Int},L.Pairwise (· <= ·)->A.Pairwise (· < ·)->(∀t,t∈L↔t∈A)->∀T,ja8 f L T=ja8 f A T:=by
 intro L
 induction L with
 |nil=>
  intro A _ _ h T
  cases A with
  |nil=>rfl
  |cons y A=>exact absurd ((h y).mpr (by simp)) (by simp)
 |cons x L ih=>
  intro A hL hA h T
  cases A with
  |nil=>exact absurd ((h x).mp (by simp)) (by simp)
  |cons y A=>
   have km:=List.pairwise_cons.mp hL
   have AO:=List.pairwise_cons.mp hA
   have gI:x=y:=by
    have e1:x<=y:=by
     rcases List.mem_cons.mp ((h y).mpr (by simp))with e|e
     ·omega
     ·exact km.1 y e
    have e2:y<=x:=by
     rcases List.mem_cons.mp ((h x).mp (by simp))with e|e
     ·omega
     ·have:=AO.1 x e;omega
    omega
   subst gI
   rw[foldT_cons,foldT_cons]
   by_cases hm:x∈L
   ·have h2:∀t,t∈L↔t∈x::A:=fun t=>by
     rw[<- h t,List.mem_cons]
     exact⟨.inr,fun e=>e.elim (fun e=>by rw[e];exact hm) id⟩
    rw[ih km.2 hA h2 (addT T (f x)),foldT_cons,juc]
   ·refine ih km.2 AO.2 (fun t=>?_) _
    have ht:=h t
    rw[List.mem_cons,List.mem_cons]at ht
    constructor
    ·intro hl
     rcases ht.mp (.inr hl)with e|e
     ·rw[e]at hl;exact absurd hl hm
     ·exact e
    ·intro ha
     rcases ht.mpr (.inr ha)with e|e
     ·have:=AO.1 t ha;omega
     ·exact e
def insA:List Int->Int->List Int
 |[],n=>[n]
 |a::l,n=>if a<n then a::insA l n else if a=n then a::l else n::a::l
theorem insA_mem{n t:Int}:∀{l:List Int},t∈insA l n↔t∈l\/t=n:=by
 intro l
 induction l with
 |nil=>simp[insA]
 |cons a l ih=>
  rw[insA]
  split
  ·rw[List.mem_cons,ih,List.mem_cons,or_assoc]
  ·split
   ·rename_i h1 h2
    rw[List.mem_cons]
    constructor
    ·exact .inl
    ·rintro(e|e)
     ·exact e
     ·left;omega
   ·rw[List.mem_cons]
    constructor
    ·rintro(e|e)
     ·exact .inr e
     ·exact .inl e
    ·rintro(e|e)
     ·exact .inr e
     ·exact .inl e
theorem j2f{n:Int}:∀{l:List Int},l.Pairwise (· < ·)->(insA l n).Pairwise (· < ·):=by
 intro l
 induction l with
 |nil=>intro _;simp[insA]
 |cons a l ih=>
  intro h
  have h':=List.pairwise_cons.mp h
  rw[insA]
  split
  ·rename_i ha
   refine List.pairwise_cons.mpr ⟨fun t ht=>?_,ih h'.2⟩
   rcases insA_mem.mp ht with e|e
   ·exact h'.1 t e
   ·omega
  ·split
   ·exact h
   ·rename_i h1 h2
    refine List.pairwise_cons.mpr ⟨fun t ht=>?_,h⟩
    rcases List.mem_cons.mp ht with e|e
    ·omega
    ·have:=h'.1 t e;omega
def atsF(b:Int)(X:List Int):List Int:=X.foldl insA [b]
theorem jsk{X A:List Int}(h:A.Pairwise (· < ·)):(X.foldl insA A).Pairwise (· < ·)/\∀t,t∈X.foldl insA A↔t∈A\/t∈X:=by
 induction X generalizing A with
 |nil=>exact⟨h,fun t=>by simp⟩
 |cons x X ih=>
  obtain⟨h1,h2⟩:=ih (j2f (n:=x) h)
  refine⟨h1,fun t=>?_⟩
  rw[List.foldl_cons,h2 t,insA_mem,List.mem_cons,or_assoc]
theorem jzq(l:List Int)(n:Int):(insA l n).length<=l.length+1:=by
 induction l with
 |nil=>simp[insA]
 |cons a l ih=>
  rw[insA]
  split
  ·simp only[List.length_cons];omega
  ·split<;>simp
theorem jjs(b:Int)(X:List Int):(atsF b X).length<=X.length+1:=by
 unfold atsF
 have:∀(X A:List Int),(X.foldl insA A).length<=A.length+X.length:=by
  intro X
  induction X with
  |nil=>intro A;simp
  |cons x X ih=>intro A;rw[List.foldl_cons];have:=ih (insA A x);have:=jzq A x;simp only[List.length_cons];omega
 have:=this X [b]
 simp at this
 omega
def inX(H:List HapD)(b e:Int):List Int:=(H.map HapD.at_).filter fun t=>decide (b<t)&&decide (t<e)
theorem jks(f:Int->TurnD){H:List HapD}{b e:Int}{L:List Int}(h1:L.Pairwise (· <= ·))(h2:L.Perm (b::inX H b e))(T:List TurnD):ja8 f L T=ja8 f (atsF b (inX H b e)) T:=by
 have h:=jsk (X:=inX H b e) (A:=[b]) (by simp)
 refine jt0 f h1 h.1 (fun t=>?_) T
 rw[h2.mem_iff,List.mem_cons,h.2 t,List.mem_singleton]
def sufM:List HapD->List Int
 |[]=>[]
 |h::t=>min ((sufM t).headD 253402300799) h.at_::sufM t
theorem jcc:∀H:List HapD,(sufM H).length=H.length
 |[]=>rfl
 |h::t=>by rw[sufM,List.length_cons,List.length_cons,jcc t]
def ja1(E:List Int)(k:Nat):Int:=E[k]?.getD 253402300799
theorem jip{E:List Int}{k:Nat}(h:E.length<=k):ja1 E k=253402300799:=by unfold ja1;rw[List.getElem?_eq_none h];rfl
theorem jdm{E:List Int}{k:Nat}{t:Int}(h:E[k]? =some t):ja1 E k=t:=by unfold ja1;rw[h];rfl
theorem sufM_at:∀{H:List HapD} {k:Nat} {h:HapD},H[k]? =some h->(sufM H)[k]? =some (min (ja1 (sufM H) (k+1)) h.at_)
 |[],k,h,hh=>by simp at hh
 |a::t,0,h,hh=>by
  simp at hh
  subst hh
  rw[sufM,List.getElem?_cons_zero]
  congr 2
  unfold ja1
  rw[List.getElem?_cons_succ]
  cases sufM t<;>rfl
 |a::t,k+1,h,hh=>by
  rw[List.getElem?_cons_succ]at hh
  rw[sufM,List.getElem?_cons_succ,sufM_at hh]
  congr 2
theorem jzl{H:List HapD}{k:Nat}(hk:k<H.length):ja1 (sufM H) k<=ja1 (sufM H) (k+1):=by
 obtain⟨x,hx⟩:=qgg hk
 rw[jdm (sufM_at hx)]
 omega
theorem jrx{H:List HapD}{i:Nat}:∀{j:Nat},i<=j->j<=H.length->ja1 (sufM H) i<=ja1 (sufM H) j:=by
 intro j
 induction j with
 |zero=>intro h _;rw[Nat.le_zero.mp h];exact Int.le_refl _
 | succ j ih=>
  intro h hj
  by_cases e:i=j+1
  ·rw[e];exact Int.le_refl _
  ·have:=ih (by omega) (by omega)
   have:=jzl (H:=H) (k:=j) (by omega)
   omega
theorem jwe{H:List HapD}{t:Int}{m:Nat}(hH:∀h∈H,h.at_<=253402300799)(h1:m<=H.length)(h2:∀i,i<m->¬t<ja1 (sufM H) i)(h3:∀i,m<=i->i<H.length->t<ja1 (sufM H) i):hcnt H t=m:=by
 refine jzz h1 (fun i h hi hh=>?_) (fun k h e hh=>?_)
 ·have i7:=(lgs hh).1
  have:=h3 i hi i7
  rw[jdm (sufM_at hh)]at this
  omega
 ·have eY:=(lgs hh).1
  have h4:=h2 k (by omega)
  rw[jdm (sufM_at hh)]at h4
  have h5:=hH h (lmg hh)
  rcases Nat.lt_or_ge (k+1) H.length with e1|e1
  ·have:=h3 (k+1) (by omega) e1
   omega
  ·rw[jip (by rw[jcc];exact e1)]at h4
   omega
def Jc(w:World)(g:Nat)(E:List Int)(k:Nat):Prop:=∀i t,k<=i->E[i]? =some t->w.cell? (ad g i)=some (iv t)
theorem Jc.below{w w':World}{g:Nat}{E:List Int}{k:Nat}(h:Jc w g E k)(hb:Bw w w'):Jc w' g E k:=fun i t hk hi=>jaa hb (h i t hk hi)
theorem Jc.set{w:World}{g m:Nat}{E:List Int}{k:Nat}{t:Int}(h:Jc w g E (k+1))(hR:Zg w g m)(hk:k<m)(ht:E[k]? =some t):Jc (w.setCell (ad g k) (iv t)) g E k:=fun i u hi hu=>by
 by_cases e:i=k
 ·subst e
  rw[ht]at hu
  injection hu with hu
  subst hu
  obtain⟨⟨v,hv⟩,_⟩:=hR i hk
  exact wcs _ _ _ hv
 ·rw[wco _ _ _ _ (fun h=>e (by injection h with _ h1;exact h1.symm))]
  exact h i u (by omega) hu
theorem jwo:∃i:TypeInfo,Tryz.prog.info? 2=some i/\i.zero=some (iv 0)/\i.size=1/\i.bytes=8:=⟨_,rfl,rfl,rfl,rfl⟩
theorem jgf(H:List HapD)(a:Option Addr)(ca:Nat)(w:World)(hA:Za w a 3 (H.map HapD.cs))(hl:H.length<=2000):
  Cl 249 #[.slice a H.length ca] w fun e w'=>e=.returned (.slice (some (ad w.heap.size 0)) H.length H.length)/\Jc w' w.heap.size (sufM H) 0/\Bw w w':=by
 obtain⟨i0,hi,aG,aH,aF⟩:=jwo
 obtain⟨w1,dk,ai,dp⟩:=run_make_full (P:=Tryz.prog) w w.heap.size 164 2 i0 _ 1 Tryz.underlying164 hi aG aH .i64 .i64 H.length (by rw[aF];omega) (by unfold maxLen;omega) (nlr _)
 have hR:=jd4 ai
 rw[Nat.mul_one]at hR
 have hB:Bw w w1:=(brf _ _).grown dp (nlr _) (fun k hk=>by cases hk)
 have HE:=@sufM_at H
 have lc:Hid (∀(k:Nat) (h:HapD),H[k]? =some h->(sufM H)[k]? =some (min (ja1 (sufM H) (k+1)) h.at_)):=fun k h hh=>HE hh
 have h0:ja1 (sufM H) H.length=253402300799:=jip (by rw[jcc];exact nlr _)
 have tL:Jc w1 w.heap.size (sufM H) H.length:=fun i t h1 h2=>by have:=(lgs h2).1;rw[jcc]at this;omega
 clear HE
 generalize sufM H=E at *
 clear hi aG aH aF ai dp
 unfold Cl;go_in
 go_wp2
 go_loopw [4,5] (fun s4 s5 wr=>∃m:Nat,m<=H.length/\s4=iv (ja1 E m)/\s5=iv ((m:Int)-1)/\Jc wr w.heap.size E m/\Zg wr w.heap.size H.length/\Bw w wr) (fun _ s5 _=>(intOf s5+1).toNat)
 case atStart=>exact⟨H.length,nlr _,by rw[h0],rfl,tL,hR,hB⟩
 case round=>
  clear hR hB dk h0 tL
  obtain⟨m,hm,rfl,gG,hL,hR,hB⟩:=hrel
  cases m with
  |zero=>
   subst gG
   go_wp2
   go_ret
   exact⟨rfl,hL,hB⟩
  |succ k=>
   rw[show(((k+1:Nat):Int)-1)=(k:Int) by omega]at gG
   subst gG
   obtain⟨x,hx⟩:∃x,H[k]? =some x:=⟨_,lgg (by omega)⟩
   obtain⟨b,o,rfl,hc⟩:=(hA.below hB).at (i:=k) (r:=x.cs) (by rw[lgm,hx];rfl)
   have c0:wr.cell? (ad b (o+k*3))=some (iv x.at_):=hc 0 _ rfl
   have hE:=lc.out k x hx
   have HL:Hid (ja1 E k=min (ja1 E (k+1)) x.at_):=jdm hE
   have nY:=hL.set hR (by omega) hE
   have aM:=hR.set (ad w.heap.size k) (iv (min (ja1 E (k+1)) x.at_))
   have an:Bw w (wr.setCell (ad w.heap.size k) (iv (min (ja1 E (k+1)) x.at_))):=hB.setCell (nlr _) _
   obtain⟨⟨u0,iR⟩,gC⟩:=hR k (by omega)
   have eY:(k:Int)<(H.length:Int):=by omega
   clear hc hx hE hL hR
   generalize ja1 E (k+1)=t at *
   go_wp2
   go_roundw
   case rel=>exact⟨k,by omega,by rw[HL.out],by rfl,nY,aM,an⟩
   case measure=>simp[intOf]
theorem jhj(H:List HapD)(a:Option Addr)(ca:Nat)(w:World)(hA:Za w a 3 (H.map HapD.cs))(hl:H.length<=2000):
  Cl 253 #[.slice a H.length ca] w fun e w'=>e=.returned (.string (jb4 H))/\Bw w w':=by
 have HA:Hid (∀(k:Nat) (x:HapD),H[k]? =some x->x.save=0->(∀j y,j<k->H[j]? =some y->y.save≠0)->jb4 H=x.letter):=fun k x h1 h2 h3=>jo2 h1 h2 h3
 have HN:Hid ((∀j y,j<H.length->H[j]? =some y->y.save≠0)->jb4 H=⟨#[]⟩):=fun h=>jjp fun x hx=>by
  obtain⟨j,hj⟩:=lgo hx
  exact h j x (lgs hj).1 hj
 generalize jb4 H=R at *
 unfold Cl;go_in
 go_wp2
 go_loopw [7] (fun s wr=>∃k:Nat,k<=H.length/\s=iv k/\Hid (∀j y,j<k->H[j]? =some y->y.save≠0)/\Bw w wr) (fun s _=>H.length-(intOf s).toNat)
 case atStart=>exact⟨0,by omega,rfl,fun j y h=>by omega,brf _ _⟩
 case round=>
  obtain⟨k,hk,rfl,hN,hB⟩:=hrel
  have dI:=hB.size
  by_cases hlt:k<H.length
  ·obtain⟨x,hx⟩:=qgg hlt
   obtain⟨b,o,rfl,hc⟩:=(hA.below hB).at (i:=k) (r:=x.cs) (by rw[lgm,hx];rfl)
   have c0:wr.cell? (ad b (o+k*3))=some (iv x.at_):=hc 0 _ rfl
   have c1:=hc 1 _ rfl
   have c2:=hc 2 _ rfl
   have eY:(k:Int)<(H.length:Int):=by omega
   have an:=hB.alloc dI (.cells #[iv x.at_,iv x.save,.string x.letter] 199)
   by_cases h0:x.save=0
   ·have HR:Hid (R=x.letter):=HA.out k x hx h0 hN.out
    rw[h0]at an c1
    clear hc hx hN
    go_wp2
    go_ret
    exact⟨ret_str HR.out.symm,an⟩
   ·have HR:Hid (∀j y,j<k+1->H[j]? =some y->y.save≠0):=fun j y hj hy=>by
     by_cases e:j=k
     ·subst e;rw[hx]at hy;injection hy with hy;subst hy;exact h0
     ·exact hN.out j y (by omega) hy
    clear hc hx hN
    go_wp2
    go_roundw
    case rel=>exact⟨k+1,by omega,by go_num,HR,an⟩
    case measure=>simp[intOf];omega
  ·have HR:Hid (R=⟨#[]⟩):=HN.out fun j y hj hy=>hN.out j y (by omega) hy
   have eY:¬(k:Int)<(H.length:Int):=by omega
   go_wp2
   go_ret
   exact⟨ret_str HR.out.symm,hB⟩
theorem jqm(E:List Int)(g n pe pa i:Nat)(t:Int)(w:World)(hL:Jc w g E 0)(hE:E.length=n)(hi:i<n)(he:w.cell? (ad pe 0)=some (.slice (some (ad g 0)) n n))(ha:w.cell? (ad pa 0)=some (iv t)):
  Cl 252 #[iv i,.pointer (some (ad pe 0)),.pointer (some (ad pa 0))] w fun e w'=>e=.returned (.bool (decide (t<ja1 E i)))/\Bw w w':=by
 obtain⟨x,hx⟩:∃x,E[i]? =some x:=⟨_,lgg (by omega)⟩
 have c0:w.cell? (ad g i)=some (iv x):=hL i x (by omega) hx
 rw[jdm hx]
 have hin:(i:Int)<(n:Int):=by omega
 clear hx hL hE hi
 unfold Cl;go_in
 go_wp2_with fail
 go_quiet (fail)
 go_wp2
 go_ret
 exact⟨rfl,below_drewN (brf _ _) _⟩
theorem jnd(H:List HapD)(g pe pa:Nat)(t:Int)(w:World)(hL:Jc w g (sufM H) 0)(hH:∀h∈H,h.at_<=253402300799)(hl:H.length<=2000)(he:w.cell? (ad pe 0)=some (.slice (some (ad g 0)) H.length H.length))(ha:w.cell? (ad pa 0)=some (iv t)):
  Cl 251 #[iv H.length,.func (.func 252) #[] #[.pointer (some (ad pe 0)),.pointer (some (ad pa 0))]] w fun e w'=>e=.returned (iv (hcnt H t))/\Bw w w':=by
 have HC:Hid (∀m,m<=H.length->(∀i,i<m->ja1 (sufM H) i<=t)->(∀i,m<=i->i<H.length->t<ja1 (sufM H) i)->hcnt H t=m):=fun m h1 h2 h3=>jwe hH h1 (fun i hi=>by have:=h2 i hi;omega) h3
 have HM:Hid (∀a b,a<=b->b<H.length->t<ja1 (sufM H) a->t<ja1 (sufM H) b):=fun a b h1 h2 h3=>by have:=jrx (H:=H) h1 (by omega);omega
 have lZ:=jcc H
 generalize hcnt H t=c at *
 clear hH
 generalize sufM H=E at *
 unfold Cl;go_in
 go_wp2
 go_loopw [5,6] (fun s5 s6 wr=>∃lo hi:Nat,lo<=hi/\hi<=H.length/\s5=iv lo/\s6=iv hi/\Hid (∀i,i<lo->ja1 E i<=t)/\Hid (∀i,hi<=i->i<H.length->t<ja1 E i)/\Bw w wr) (fun s5 s6 _=>(intOf s6).toNat-(intOf s5).toNat)
 case atStart=>exact⟨0,H.length,by omega,by omega,rfl,rfl,fun t ht=>by omega,fun t h1 h2=>by omega,brf _ _⟩
 case round=>
  obtain⟨lo,hi,P5,FX,rfl,rfl,h1,h2,hB⟩:=hrel
  by_cases hlt:lo<hi
  ·have hS:=jqm E g H.length pe pa ((lo+hi) / 2) t wr (hL.below hB) lZ (by omega) (jaa hB he) (jaa hB ha)
   rw[show(((lo+hi) / 2:Nat):Int)=((lo:Int)+(hi:Int)) / 2 by omega]at hS
   by_cases hp:t<ja1 E ((lo+hi) / 2)
   ·have HR:Hid (∀i,(lo+hi) / 2<=i->i<H.length->t<ja1 E i):=fun i ha hb=>HM.out _ i ha hb hp
    rw[dte hp]at hS
    clear hp
    go_wp2_with fail
    refine hS.mono ?_
    rintro e w2 ⟨rfl,ac⟩
    go_wp2
    go_roundw
    case rel=>exact⟨lo,(lo+hi) / 2,by omega,by omega,rfl,by rw[show((lo:Int)+(hi:Int)) / 2=(((lo+hi) / 2:Nat):Int) by omega],h1,HR,(qtr hB ac)⟩
    case measure=>simp[intOf];omega
   ·have HR:Hid (∀i,i<(lo+hi) / 2+1->ja1 E i<=t):=fun i FY=>Int.not_lt.mp fun hc=>hp (HM.out i ((lo+hi) / 2) (by omega) (by omega) hc)
    rw[dfe hp]at hS
    clear hp
    go_wp2_with fail
    refine hS.mono ?_
    rintro e w2 ⟨rfl,ac⟩
    go_wp2
    go_roundw
    case rel=>exact⟨(lo+hi) / 2+1,hi,by omega,FX,by rw[show((lo:Int)+(hi:Int)) / 2+1=(((lo+hi) / 2+1:Nat):Int) by omega],rfl,HR,h2,(qtr hB ac)⟩
    case measure=>simp[intOf];omega
  ·obtain rfl:hi=lo:=by omega
   have HR:Hid (c=hi):=HC.out hi FX h1.out h2.out
   go_wp2
   go_ret
   exact⟨ret_int (by rw[HR.out]),hB⟩
theorem jc8{w:World}{b:Nat}{x0 x1 x2 v0 v1 v2:Value}(h0:w.cell? (ad b 0)=some x0)(h1:w.cell? (ad b 1)=some x1)(h2:w.cell? (ad b 2)=some x2):
  (((w.setCell (ad b 0) v0).setCell (ad b 1) v1).setCell (ad b 2) v2).cell? (ad b 0)=some v0/\(((w.setCell (ad b 0) v0).setCell (ad b 1) v1).setCell (ad b 2) v2).cell? (ad b 1)=some v1/\(((w.setCell (ad b 0) v0).setCell (ad b 1) v1).setCell (ad b 2) v2).cell? (ad b 2)=some v2:=by
 refine⟨?_,?_,?_⟩
 ·rw[wco _ _ _ _ (by simp),wco _ _ _ _ (by simp),wcs _ _ _ h0]
 ·rw[wco _ _ _ _ (by simp)]
  refine wcs _ _ _ (u:=x1) ?_
  rw[wco _ _ _ _ (by simp)];exact h1
 ·refine wcs _ _ _ (u:=x2) ?_
  rw[wco _ _ _ _ (by simp),wco _ _ _ _ (by simp)];exact h2
theorem jqq(pz:Nat)(t s:Int)(w:World)(hz:w.cell? (ad pz 2)=some (iv s)):
  Cl 248 #[iv t,.pointer (some (ad pz 0))] w fun e w'=>e=.returned (HapD.v ⟨0,s,⟨#[]⟩⟩)/\Bw w w':=by
 have aH:=jaa (qal w (.cells #[iv 0,iv 0,.string ⟨#[]⟩] 199)) hz
 simp only[HapD.v]
 unfold Cl;go_in
 go_wp2
 exact bpr (v:=.agg #[iv 0,iv s,.string ⟨#[]⟩]) (by simp[results,Tryz.results248,go_sem]) rfl ⟨rfl,qal _ _⟩
theorem jqp(H:List HapD)(a:Option Addr)(ca g ph pe:Nat)(t:Int)(w:World)(hA:Za w a 3 (H.map HapD.cs))(hL:Jc w g (sufM H) 0)(hH:∀h∈H,h.at_<=253402300799)(hl:H.length<=2000)(hh:w.cell? (ad ph 0)=some (.slice a H.length ca))(he:w.cell? (ad pe 0)=some (.slice (some (ad g 0)) H.length H.length)):
  Cl 250 #[iv t,.pointer (some (ad ph 0)),.pointer (some (ad pe 0))] w fun e w'=>e=.returned (jdd H (hcnt H t)).v/\Bw w w':=by
 have ag:=(qal w (.cells #[iv t] 2)).alloc (by simp) (.cells #[iv 0,iv 0,.string ⟨#[]⟩] 199)
 have hF:=fun w (h:Za w a 3 (H.map HapD.cs))=>jhj H a ca w h hl
 have hc:=jwz H t
 have h0:=jaa ag hh
 have h1:=jaa ag he
 have ha:((w.alloc (.cells #[iv t] 2)).alloc (.cells #[iv 0,iv 0,.string ⟨#[]⟩] 199)).cell? (ad w.heap.size 0)=some (iv t):=by simp[go_sem]
 have hS:=jnd H g pe w.heap.size t ((w.alloc (.cells #[iv t] 2)).alloc (.cells #[iv 0,iv 0,.string ⟨#[]⟩] 199)) (hL.below ag) hH hl h1 ha
 obtain⟨m,hm⟩:=qeb (hcnt H t)
 rw[hm]at hS hc ⊢
 clear hm hH hL
 unfold Cl;go_in
 go_wp2_with fail
 refine hS.mono ?_
 rintro e w1 ⟨rfl,hb1⟩
 obtain⟨aX,dg⟩:=jaf hb1
 have aj:=ag.trans (hb1.mono (by simp;omega))
 have r0:w1.cell? (ad (w.heap.size+1) 0)=some (iv 0):=(aX _ _ (by simp)).trans (by simp[go_sem])
 have r1:w1.cell? (ad (w.heap.size+1) 1)=some (iv 0):=(aX _ _ (by simp)).trans (by simp[go_sem])
 have r2:w1.cell? (ad (w.heap.size+1) 2)=some (.string ⟨#[]⟩):=(aX _ _ (by simp)).trans (by simp[go_sem])
 have f0:w1.frozen? (ad (w.heap.size+1) 0)=false:=(dg _ _ (by simp)).trans (by simp[go_sem])
 have f1:w1.frozen? (ad (w.heap.size+1) 1)=false:=(dg _ _ (by simp)).trans (by simp[go_sem])
 have f2:w1.frozen? (ad (w.heap.size+1) 2)=false:=(dg _ _ (by simp)).trans (by simp[go_sem])
 have y0:=jaa aj hh
 clear aX dg hb1 hS ha h0 h1
 cases m with
 |zero=>
  go_wp2_with fail
  refine(hF _ (hA.below aj)).mono ?_
  rintro e w2 ⟨rfl,ac⟩
  obtain⟨cU,eE⟩:=jaf ac
  have an:=qtr aj ac
  have q0:=jaa ac r0
  have q1:=jaa ac r1
  have q2:=jaa ac r2
  have e0:=(eE _ _ (qbl r0)).trans f0
  have e1:=(eE _ _ (qbl r1)).trans f1
  have e2:=(eE _ _ (qbl r2)).trans f2
  obtain⟨s0,s1,s2⟩:=jc8 (v0:=iv 0) (v1:=iv 0) (v2:=.string (jb4 H)) q0 q1 q2
  clear cU eE ac r0 r1 r2 f0 f1 f2
  go_wp2
  exact bpr (v:=.agg #[iv 0,iv 0,.string (jb4 H)]) (by simp[results,Tryz.results250,go_sem,s0,s1,s2]) rfl ⟨rfl,((an.setCell (show w.heap.size<=w.heap.size+1 by omega) _).setCell (show w.heap.size<=w.heap.size+1 by omega) _).setCell (show w.heap.size<=w.heap.size+1 by omega) _⟩
 |succ m=>
  obtain⟨x,hx⟩:∃x,H[m]? =some x:=⟨_,lgg (by omega)⟩
  obtain⟨b,o,rfl,fx⟩:=(hA.below aj).at (i:=m) (r:=x.cs) (by rw[lgm,hx];rfl)
  have c0:w1.cell? (ad b (o+m*3))=some (iv x.at_):=fx 0 _ rfl
  have c1:=fx 1 _ rfl
  have c2:=fx 2 _ rfl
  have HR:Hid (jdd H (m+1)=x):=by simp only[Hid,jdd];rw[hx];rfl
  obtain⟨s0,s1,s2⟩:=jc8 (v0:=iv x.at_) (v1:=iv x.save) (v2:=.string x.letter) r0 r1 r2
  have P9:(m:Int)<(H.length:Int):=by omega
  clear fx hx
  go_wp2
  exact bpr (v:=.agg #[iv x.at_,iv x.save,.string x.letter]) (by simp[results,Tryz.results250,go_sem,s0,s1,s2]) rfl ⟨by rw[HR.out];rfl,((aj.setCell (show w.heap.size<=w.heap.size+1 by omega) _).setCell (show w.heap.size<=w.heap.size+1 by omega) _).setCell (show w.heap.size<=w.heap.size+1 by omega) _⟩
def Mid(n0 n1:Nat)(w W:World):Prop:=∀b,n0<=b->b<n1->W.heap[b]? =w.heap[b]?
theorem Mid.refl(n0 n1:Nat)(w:World):Mid n0 n1 w w:=fun _ _ _=>rfl
theorem Mid.trans{n0 n1:Nat}{w W W':World}(h:Mid n0 n1 w W)(h':Mid n0 n1 W W'):Mid n0 n1 w W':=fun b h1 h2=>(h' b h1 h2).trans (h b h1 h2)
theorem Mid.of_below{n0 n1:Nat}{w W:World}(h:Bw w W)(hn:n1<=w.heap.size):Mid n0 n1 w W:=fun b _ h2=>h.block b (by omega)
theorem Mid.cell{n0 n1:Nat}{w W:World}(h:Mid n0 n1 w W){b o:Nat}{v:Value}(h1:n0<=b)(h2:b<n1)(hc:w.cell? (ad b o)=some v):W.cell? (ad b o)=some v:=(World.cell?_of_block (a:=(ad b o)) (h b h1 h2)).trans hc
theorem Za.mid{n0 n1:Nat}{w W:World}{a:Option Addr}{q:Nat}{rows:List (List Value)}(h:Za w a q rows)(hm:Mid n0 n1 w W)(ha:∀b o,a=some (ad b o)->n0<=b/\b<n1):Za W a q rows:=by
 rcases h with h|⟨b,o,rfl,h⟩
 ·exact .inl h
 ·obtain⟨h1,h2⟩:=ha b o rfl
  exact .inr ⟨b,o,rfl,fun i j r c hi hj=>hm.cell h1 h2 (h i j r c hi hj)⟩
structure Ju(w:World)(n0 n1 K:Nat)(cap:Array Value)(e:EraD)(H:List HapD):Prop where
 go:∀(am:Array Value) (W:World),(callFunc K am).run Tryz.prog W=.ok (.enter K am) W
 tell:∀(W:World) (t:Int),Mid n0 n1 w W->Cl K (#[iv t]++cap) W fun r W'=>r=.returned (jas e H t).v/\Bw W W'
theorem Ju.mid{w w':World}{n0 n1 K:Nat}{cap:Array Value}{e:EraD}{H:List HapD}(h:Ju w n0 n1 K cap e H)(hb:Mid n0 n1 w w'):Ju w' n0 n1 K cap e H:=⟨h.go,fun W t hB=>h.tell W t (hb.trans hB)⟩
theorem jom(e:EraD)(H:List HapD)(a:Option Addr)(ca n0:Nat)(w:World)(hA:Za w a 3 (H.map HapD.cs))(ha:∀b o,a=some (ad b o)->n0<=b/\b<w.heap.size)(hn:n0<=w.heap.size)(hH:∀h∈H,h.at_<=253402300799)(hl:H.length<=2000):
  Cl 231 #[e.v,.slice a H.length ca] w fun r W'=>∃K cap,r=.returned (.func (.func K) #[] cap)/\Ju W' n0 W'.heap.size K cap e H/\Bw w W':=by
 have hE:=fun w (h:Za w a 3 (H.map HapD.cs))=>jgf H a ca w h hl
 have ag:=(qal w (.cells #[iv e.offset,.string e.rules,iv e.save,.string e.format,iv e.until_,.string e.of] 133)).alloc (by simp) (.cells #[.slice a H.length ca] 194)
 obtain⟨z0,z1⟩:(fun z:World=>z.cell? (ad w.heap.size 2)=some (iv e.save)/\z.cell? (ad (w.heap.size+1) 0)=some (.slice a H.length ca)) ((w.alloc (.cells #[iv e.offset,.string e.rules,iv e.save,.string e.format,iv e.until_,.string e.of] 133)).alloc (.cells #[.slice a H.length ca] 194)):=by simp[go_sem]
 by_cases h0:e.rules.size=0
 ·have hr:e.rules=⟨#[]⟩:=jf1 (l:=[]) (by rw[<- List.length_eq_zero_iff,jag];exact h0)
  have HF:Hid (Ju ((w.alloc (.cells #[iv e.offset,.string e.rules,iv e.save,.string e.format,iv e.until_,.string e.of] 133)).alloc (.cells #[.slice a H.length ca] 194)) n0 ((w.alloc (.cells #[iv e.offset,.string e.rules,iv e.save,.string e.format,iv e.until_,.string e.of] 133)).alloc (.cells #[.slice a H.length ca] 194)).heap.size 248 #[.pointer (some (ad w.heap.size 0))] e H):=⟨fun _ _=>by kernel_rfl,fun W t hB=>by
   rw[jjm h0]
   exact jqq w.heap.size t e.save W (hB.cell hn (by simp;omega) z0)⟩
  rw[hr]at HF ag
  clear h0 z0 z1
  unfold EraD.v
  unfold Cl;go_in
  go_wp2
  go_ret
  exact⟨_,_,rfl,HF.out,ag⟩
 ·have az:e.rules.toList.isEmpty=false:=by
   cases h:e.rules.toList with
   |nil=>exact absurd (by rw[toList_dataA]at h;rw[<- jag,h];rfl) h0
   |cons x l=>rfl
  have dP:((w.alloc (.cells #[iv e.offset,.string e.rules,iv e.save,.string e.format,iv e.until_,.string e.of] 133)).alloc (.cells #[.slice a H.length ca] 194)).heap.size=w.heap.size+1+1:=by simp
  have pB:=hE ((w.alloc (.cells #[iv e.offset,.string e.rules,iv e.save,.string e.format,iv e.until_,.string e.of] 133)).alloc (.cells #[.slice a H.length ca] 194)) (hA.below ag)
  rw[dP]at pB
  unfold EraD.v
  unfold Cl;go_in
  go_wp2_with fail
  refine pB.mono ?_
  rintro r w1 ⟨rfl,hL,hb1⟩
  have aj:=ag.trans (hb1.mono (by omega))
  have y1:=jaa (by first|exact hb1|(rw[dP];exact hb1)) z1
  have ac:=qal w1 (.cells #[.slice (some (ad (w.heap.size+1+1) 0)) H.length H.length] 164)
  have an:=qtr aj ac
  have x1:=jaa ac y1
  have x2:(w1.alloc (.cells #[.slice (some (ad (w.heap.size+1+1) 0)) H.length H.length] 164)).cell? (ad w1.heap.size 0)=some (.slice (some (ad (w.heap.size+1+1) 0)) H.length H.length):=by simp[go_sem]
  have cY:=hA.below an
  have nY:=hL.below ac
  have HF:Hid (Ju (w1.alloc (.cells #[.slice (some (ad (w.heap.size+1+1) 0)) H.length H.length] 164)) n0 (w1.alloc (.cells #[.slice (some (ad (w.heap.size+1+1) 0)) H.length H.length] 164)).heap.size 250 #[.pointer (some (ad (w.heap.size+1) 0)),.pointer (some (ad w1.heap.size 0))] e H):=⟨fun _ _=>by kernel_rfl,fun W t hB=>by
   rw[jen h0]
   exact jqp H a ca (w.heap.size+1+1) (w.heap.size+1) w1.heap.size t W (cY.mid hB fun b o e=>by have:=ha b o e;have:=an.size;omega) (fun i u hi hu=>hB.cell (by omega) (qbl (nY i u hi hu)) (nY i u hi hu)) hH hl (hB.cell (by omega) (qbl x1) x1) (hB.cell (by have:=aj.size;omega) (qbl x2) x2)⟩
  clear pB hE hL hb1 cY nY x1 x2 ac y1 z0 z1
  go_wp2
  go_ret
  exact⟨_,_,rfl,HF.out,an⟩
theorem jqr(e:EraD)(H:List HapD)(n0 n1 K:Nat)(cap:Array Value)(b:Int)(w:World)(hF:Ju w n0 n1 K cap e H)(hn:n1<=w.heap.size)(h1: -62135596800<=e.until_)(h2:e.until_<=253402300799)(h3: -86400<=e.offset)(h4:e.offset<=86400)(h5:∀t, -7200<=(jas e H t).save/\(jas e H t).save<=7200):
  Cl 232 #[e.v,iv b,.func (.func K) #[] cap] w fun r W'=>r=.returned (iv (endE e H b))/\Bw w W':=by
 have ag:=qal w (.cells #[iv e.offset,.string e.rules,iv e.save,.string e.format,iv e.until_,.string e.of] 133)
 cases hs:(e.of.toList==[115])
 ·cases hw:(e.of.toList==[119])
  ·have HR:Hid (endE e H b=max b (min e.until_ 253402300799)):=by simp only[Hid,endE,endU];rw[hs,hw];rfl
   unfold EraD.v
   unfold Cl;go_in
   go_wp2
   go_ret
   exact⟨ret_int HR.out.symm,ag⟩
  ·have HR:Hid (endE e H b=max b (min (e.until_-e.offset-(jas e H (e.until_-e.offset-1)).save) 253402300799)):=by simp only[Hid,endE,endU];rw[hs,hw];rfl
   have hC:=hF.tell _ (e.until_-e.offset-1) (Mid.of_below ag hn)
   have xZ:=hF.go
   have h6:=h5 (e.until_-e.offset-1)
   generalize jas e H (e.until_-e.offset-1)=F at *
   have qA:∀w,(Instr.field 199 (.agg #[iv F.at_,iv F.save,.string F.letter]) 1).run Tryz.prog w=.ok (iv F.save) w:=fun _=>by kernel_rfl
   unfold HapD.v at hC
   unfold EraD.v
   unfold Cl;go_in
   go_wp2_with fail
   refine hC.mono ?_
   rintro r w1 ⟨rfl,hb1⟩
   go_wp2
   go_ret
   exact⟨ret_int HR.out.symm,ag.trans (hb1.mono (by simp))⟩
 ·have HR:Hid (endE e H b=max b (min (e.until_-e.offset) 253402300799)):=by simp only[Hid,endE,endU];rw[hs];rfl
  unfold EraD.v
  unfold Cl;go_in
  go_wp2
  go_ret
  exact⟨ret_int HR.out.symm,ag⟩
theorem jfo{w:World}{b:Nat}{x0 x1 x2 x3 v0 v1 v2 v3:Value}(h0:w.cell? (ad b 0)=some x0)(h1:w.cell? (ad b 1)=some x1)(h2:w.cell? (ad b 2)=some x2)(h3:w.cell? (ad b 3)=some x3):
  ((((w.setCell (ad b 0) v0).setCell (ad b 1) v1).setCell (ad b 2) v2).setCell (ad b 3) v3).cell? (ad b 0)=some v0/\((((w.setCell (ad b 0) v0).setCell (ad b 1) v1).setCell (ad b 2) v2).setCell (ad b 3) v3).cell? (ad b 1)=some v1/\((((w.setCell (ad b 0) v0).setCell (ad b 1) v1).setCell (ad b 2) v2).setCell (ad b 3) v3).cell? (ad b 2)=some v2/\((((w.setCell (ad b 0) v0).setCell (ad b 1) v1).setCell (ad b 2) v2).setCell (ad b 3) v3).cell? (ad b 3)=some v3:=by
 refine⟨?_,?_,?_,?_⟩
 ·rw[wco _ _ _ _ (by simp),wco _ _ _ _ (by simp),wco _ _ _ _ (by simp),wcs _ _ _ h0]
 ·rw[wco _ _ _ _ (by simp),wco _ _ _ _ (by simp)]
  refine wcs _ _ _ (u:=x1) ?_
  rw[wco _ _ _ _ (by simp)];exact h1
 ·rw[wco _ _ _ _ (by simp)]
  refine wcs _ _ _ (u:=x2) ?_
  rw[wco _ _ _ _ (by simp),wco _ _ _ _ (by simp)];exact h2
 ·refine wcs _ _ _ (u:=x3) ?_
  rw[wco _ _ _ _ (by simp),wco _ _ _ _ (by simp),wco _ _ _ _ (by simp)];exact h3
theorem ji2(e:EraD)(F:HapD)(t:Int)(w:World)(hM:MxA w)(hf:e.format.size<=1048576)(hl:F.letter.size<=1048576)(h3: -86400<=e.offset)(h4:e.offset<=86400)(h5: -7200<=F.save)(h6:F.save<=7200):
  Cl 235 #[e.v,iv t,F.v] w fun r W'=>r=.returned (jdl e F t).v/\Bw w W':=by
 have hA:=fun w hM=>jqu e.format F.letter F.save w hM hf hl
 have HR:Hid ((jdl e F t).v=.agg #[iv t,iv (e.offset+F.save),iv F.save,.string (jki e.format F.letter F.save)]):=rfl
 generalize jki e.format F.letter F.save=ab at *
 generalize (jdl e F t).v=RV at *
 have ag:=(((qal w (.cells #[iv e.offset,.string e.rules,iv e.save,.string e.format,iv e.until_,.string e.of] 133)).alloc (by simp) (.cells #[iv F.at_,iv F.save,.string F.letter] 199)).alloc (by simp;omega) (.cells #[iv 0,iv 0,iv 0,.string ⟨#[]⟩] 167))
 obtain⟨k0,k3,l1,l2,r0,r1,r2,r3⟩:(fun z:World=>z.cell? (ad w.heap.size 0)=some (iv e.offset)/\z.cell? (ad w.heap.size 3)=some (.string e.format)/\z.cell? (ad (w.heap.size+1) 1)=some (iv F.save)/\z.cell? (ad (w.heap.size+1) 2)=some (.string F.letter)/\z.cell? (ad (w.heap.size+1+1) 0)=some (iv 0)/\z.cell? (ad (w.heap.size+1+1) 1)=some (iv 0)/\z.cell? (ad (w.heap.size+1+1) 2)=some (iv 0)/\z.cell? (ad (w.heap.size+1+1) 3)=some (.string ⟨#[]⟩)) (((w.alloc (.cells #[iv e.offset,.string e.rules,iv e.save,.string e.format,iv e.until_,.string e.of] 133)).alloc (.cells #[iv F.at_,iv F.save,.string F.letter] 199)).alloc (.cells #[iv 0,iv 0,iv 0,.string ⟨#[]⟩] 167)):=by simp[go_sem]
 have f0:∀j,j<4->(((w.alloc (.cells #[iv e.offset,.string e.rules,iv e.save,.string e.format,iv e.until_,.string e.of] 133)).alloc (.cells #[iv F.at_,iv F.save,.string F.letter] 199)).alloc (.cells #[iv 0,iv 0,iv 0,.string ⟨#[]⟩] 167)).frozen? (ad (w.heap.size+1+1) j)=false:=fun j hj=>by simp[go_sem]
 unfold EraD.v HapD.v
 unfold Cl;go_in
 go_wp2_with fail
 generalize (((w.alloc (.cells #[iv e.offset,.string e.rules,iv e.save,.string e.format,iv e.until_,.string e.of] 133)).alloc (.cells #[iv F.at_,iv F.save,.string F.letter] 199)).alloc (.cells #[iv 0,iv 0,iv 0,.string ⟨#[]⟩] 167))=W at *
 have bY:Bw w W.drew:=ag.trans ((jab W).mono ag.size)
 have JE:=hM.of_below bY
 have gF:¬w.heap.size+1+1=w.heap.size:=by omega
 have vk:¬w.heap.size=w.heap.size+1+1:=by omega
 have KS:IntKind.i64.wrap (e.offset+F.save)=e.offset+F.save:=by rw[IntKind.wrap_i64];omega
 go_region_held3 (fun w'=>w'.cell? (ad w.heap.size 0)=some (iv e.offset)/\w'.cell? (ad w.heap.size 3)=some (.string e.format)/\w'.cell? (ad (w.heap.size+1) 1)=some (iv F.save)/\w'.cell? (ad (w.heap.size+1) 2)=some (.string F.letter)) (go_keep) ((go_at_call 255;refine(hA _ JE).mono ?_;rintro r w4 ⟨rfl,hb⟩;have q0:=jaa hb k0;have q3:=jaa hb k3;have p1:=jaa hb l1;have p2:=jaa hb l2;have s0:=jaa hb r0;have s1:=jaa hb r1;have s2:=jaa hb r2;have s3:=jaa hb r3;have z0:w4.frozen? (ad (w.heap.size+1+1) 0)=false:=((jaf hb).2 _ _ (qbl r0)).trans (f0 0 (by omega));have z1:w4.frozen? (ad (w.heap.size+1+1) 1)=false:=((jaf hb).2 _ _ (qbl r0)).trans (f0 1 (by omega));have z2:w4.frozen? (ad (w.heap.size+1+1) 2)=false:=((jaf hb).2 _ _ (qbl r0)).trans (f0 2 (by omega));have z3:w4.frozen? (ad (w.heap.size+1+1) 3)=false:=((jaf hb).2 _ _ (qbl r0)).trans (f0 3 (by omega))))
 all_goals
  go_wp2
  have hB:Bw w w4:=qtr bY hb
  obtain⟨u0,u1,u2,u3⟩:=jfo (v0:=iv t) (v1:=iv (e.offset+F.save)) (v2:=iv F.save) (v3:=.string ab) s0 s1 s2 s3
  exact bpr (v:=.agg #[iv t,iv (e.offset+F.save),iv F.save,.string ab]) (by simp[results,Tryz.results235,go_sem,u0,u1,u2,u3]) rfl ⟨by rw[HR.out],(((hB.setCell (show w.heap.size<=w.heap.size+1+1 by omega) _).setCell (show w.heap.size<=w.heap.size+1+1 by omega) _).setCell (show w.heap.size<=w.heap.size+1+1 by omega) _).setCell (show w.heap.size<=w.heap.size+1+1 by omega) _⟩
def Zf(w:World)(base:Nat)(v:Value)(T:List TurnD):Prop:=w.ownsRow base 167 4 v T.length (T.map TurnD.cs).flatten
theorem Zf.add{w:World}{base:Nat}{v:Value}{T:List TurnD}{x:TurnD}(h:w.ownsRow base 167 4 v (T.length+1) ((T.map TurnD.cs).flatten++x.cs)):Zf w base v (T++[x]):=by
 unfold Zf
 rw[lla,lma,List.flatten_append]
 simpa using h
theorem jsq{P:List TurnD}:∀r∈P.map TurnD.cs,r.length=4:=fun r hr=>by
 obtain⟨x,_,rfl⟩:=List.mem_map.mp hr
 rfl
theorem Zf.seq{w:World}{base:Nat}{v:Value}{T:List TurnD}(h:Zf w base v T):∃a cap,v=.slice a T.length cap/\Za w a 4 (T.map TurnD.cs):=by
 obtain⟨a,cap,h1,h2,h3⟩:=jbe (rows:=T.map TurnD.cs) (by rw[llm];exact h) jsq
 rw[llm]at h1
 exact⟨a,cap,h1,h2⟩
theorem joe:(Tryz.prog.info? 167).map (fun i=>(i.zero,i.size,i.bytes))=some (some (.agg #[iv 0,iv 0,iv 0,.string ⟨#[]⟩]),4,40):=by kernel_rfl
theorem jqz : ∃ a b c d e f g h i j k l, (Tryz.prog.fieldsOf 167).toList = [⟨ "At", 2, 0, false, a, b, c⟩, ⟨ "Offset", 2, 1, false, d, e, f⟩, ⟨ "Save", 2, 2, false, g, h, i⟩, ⟨ "Abbr", 9, 3, false, j, k, l⟩] := ⟨_, _, _, _, _, _, _, _, _, _, _, _, rfl⟩
theorem jse(t o1 s1 o2 s2:Int)(a1 a2:ByteArray)(w:World):(binOp .eql 167 (.agg #[iv t,iv o1,iv s1,.string a1]) (.agg #[iv t,iv o2,iv s2,.string a2])).run Tryz.prog w=.ok (.bool (jd6 ⟨t,o1,s1,a1⟩ ⟨t,o2,s2,a2⟩)) w:=by
 have ht:Tryz.prog.underlying 167=some (.struct (Tryz.prog.fieldsOf 167)):=by kernel_rfl
 have hp:Tryz.prog.stoodInHeld 167=false:=by kernel_rfl
 obtain⟨a,b,c,d,e,f,g,h,i,j,k,l,hf⟩:=jqz
 rw[run_eql_struct,run_equalIn_agg _ 9999 _ _ _ ht hp,hf]
 simp[Op.eqFields,go_sem,jd6]
 by_cases h1:o1=o2
 ·by_cases h2:s1=s2
  ·simp[h1,h2]
   by_cases h3:a1.toList=a2.toList
   ·simp[h3]
   ·simp[h3]
  ·simp[h1,h2]
 ·simp[h1]
theorem jk3(x y:Operand)(v1 v2:Array Value)(w:World):(eqGuard .eql 167 x y (.agg v1) (.agg v2)).run Tryz.prog w=.ok () w:=run_eqGuard_agg w _ _ _ _ _ _ (by kernel_rfl)
theorem jfu(T:List TurnD)(x:TurnD)(v:Value)(base:Nat)(w:World)(hT:Zf w base v T)(hb:base<=w.heap.size)(hl:T.length<=100000):
  Cl 234 #[v,x.v] w fun e W'=>∃v',e=.returned v'/\Zf W' base v' (addT T x)/\Fr (fun b=>v.ownBlock=some b) w W'/\(v'.ownBlock=v.ownBlock\/∃g,v'.ownBlock=some g/\w.heap.size<=g):=by
 obtain⟨i0,hi,aG,aH,aF⟩:=info_parts joe
 obtain⟨a,cap,rfl,hS⟩:=hT.seq
 have ag:=qal w (.cells #[iv x.at_,iv x.offset,iv x.save,.string x.abbr] 167)
 cases hL:T.getLast? with
 | none=>
  have fv:T=[]:=by simpa using hL
  subst fv
  have HR:Hid (addT [] x=[]++[x]):=rfl
  have dv:Zf (w.alloc (.cells #[iv x.at_,iv x.offset,iv x.save,.string x.abbr] 167)) base (.slice a 0 cap) []:=woa hT _
  generalize addT [] x=R at *
  unfold TurnD.v
  unfold Cl;go_in
  go_wp2_with (first
   |(at_builtin;refine wpList_append_lies _ rfl _ _ 136 rfl base 167 i0 (.agg #[iv 0,iv 0,iv 0,.string ⟨#[]⟩]) 4 40 Tryz.underlying136 hi aG aH aF rfl (by decide) _ _ _ rfl (woa dv _) ⟨w.heap.size+1,0,none⟩ 1 1 [iv x.at_,iv x.offset,iv x.save,.string x.abbr] rfl rfl ?c1 ?c2 (by decide) ?c3 ?c4 ?c5 _ rfl ?_)
   |fail)
  case c1=>simpa using jah (w.alloc (.cells #[iv x.at_,iv x.offset,iv x.save,.string x.abbr] 167)) [iv x.at_,iv x.offset,iv x.save,.string x.abbr] 167
  case c2=>intro u hu;simp at hu;rcases hu with rfl|rfl|rfl|rfl<;>rfl
  case c3=>unfold maxLen;simp
  case c4=>simp
  case c5=>simp;omega
  intro g1 aC w1 av af bE hlt1
  have HO:Hid (Zf w1 base (.slice (some (ad g1 0)) (0+1) aC) ([]++[x])):=Zf.add (T:=[]) av
  have hF:Fr (fun b=>(Value.slice a 0 cap).ownBlock=some b) w w1:=((Fr.of_below ag).trans (Fr.of_below (qal _ _))).trans (Fr.of_grown af)
  have dh:(Value.slice (some (ad g1 0)) (0+1) aC).ownBlock=(Value.slice a 0 cap).ownBlock\/∃g,(Value.slice (some (ad g1 0)) (0+1) aC).ownBlock=some g/\w.heap.size<=g:=bE.imp (fun h=>h.symm) fun h=>⟨g1,rfl,by rw[h];first|omega|(simp;omega)⟩
  clear av af bE hlt1 hT dv hS
  go_wp2
  go_ret
  exact⟨_,rfl,by rw[HR.out];exact HO.out,hF,dh⟩
 |some y=>
  obtain⟨n,hn⟩:∃n,T.length=n+1:=by
   cases T with
   |nil=>simp at hL
   |cons z Z=>exact⟨Z.length,rfl⟩
  have hy:T[n]? =some y:=by rw[List.getLast?_eq_getElem?,hn]at hL;exact hL
  obtain⟨b,o,ha,hc⟩:=hS.at (i:=n) (r:=y.cs) (by rw[lgm,hy];rfl)
  subst ha
  have c0:(w.alloc (.cells #[iv x.at_,iv x.offset,iv x.save,.string x.abbr] 167)).cell? (ad b (o+n*4))=some (iv y.at_):=jaa ag (hc 0 _ rfl)
  have c1:=jaa ag (hc 1 _ rfl)
  have c2:=jaa ag (hc 2 _ rfl)
  have c3:=jaa ag (hc 3 _ rfl)
  have gg:=fun w=>jse x.at_ y.offset y.save x.offset x.save y.abbr x.abbr w
  have C5:=jk3
  have e1:jd6 ⟨x.at_,y.offset,y.save,y.abbr⟩ ⟨x.at_,x.offset,x.save,x.abbr⟩=jd6 y x:=rfl
  rw[e1]at gg
  have aj:Bw w (((w.alloc (.cells #[iv x.at_,iv x.offset,iv x.save,.string x.abbr] 167)).alloc (.cells #[iv y.at_,iv y.offset,iv y.save,.string y.abbr] 167)).setCell (ad (w.heap.size+1) 0) (iv x.at_)):=(ag.alloc (by simp) _).setCell (show w.heap.size<=w.heap.size+1 by omega) _
  have fH:(n:Int)<((n+1:Nat):Int):=by omega
  clear hc
  rw[hn]at hT ⊢
  cases hl:jd6 y x
  ·have HR:Hid (addT T x=T++[x]):=jms hL hl
   rw[hl]at gg
   have HT:Hid (w.ownsRow base 167 4 (.slice (some (ad b o)) (n+1) cap) (n+1) (T.map TurnD.cs).flatten):=by unfold Zf at hT;rw[hn]at hT;exact hT
   have HN:=hid hn
   clear hl hL e1 hS hy hT
   generalize addT T x=R at *
   unfold TurnD.v
   unfold Cl;go_in
   go_wp2_with (first
    |(at_builtin;refine wpList_append_lies _ rfl _ _ 136 rfl base 167 i0 (.agg #[iv 0,iv 0,iv 0,.string ⟨#[]⟩]) 4 40 Tryz.underlying136 hi aG aH aF rfl (by decide) (.slice (some ⟨b,o,none⟩) (n+1) cap) (n+1) (T.map TurnD.cs).flatten rfl ?d0 ⟨w.heap.size+1+1,0,none⟩ 1 1 [iv x.at_,iv x.offset,iv x.save,.string x.abbr] rfl rfl ?d1 ?d2 (by decide) ?d3 ?d4 ?d5 _ rfl ?_)
    |fail)
   case d0=>exact woa (woa (woa HT.out _) _) _
   case d1=>simpa using jah ((w.alloc (.cells #[iv x.at_,iv x.offset,iv x.save,.string x.abbr] 167)).alloc (.cells #[iv x.at_,iv y.offset,iv y.save,.string y.abbr] 167)) [iv x.at_,iv x.offset,iv x.save,.string x.abbr] 167
   case d2=>intro u hu;simp at hu;rcases hu with rfl|rfl|rfl|rfl<;>rfl
   case d3=>unfold maxLen;omega
   case d4=>omega
   case d5=>simp;omega
   intro g1 aC w1 av af bE hlt1
   have HO:Hid (Zf w1 base (.slice (some (ad g1 0)) (n+1+1) aC) (T++[x])):=Zf.add (by rw[HN.out];exact av)
   have hF:Fr (fun tj=>(Value.slice (some (ad b o)) (n+1) cap).ownBlock=some tj) w w1:=(((Fr.of_below ag).trans (Fr.of_below (qal _ _))).trans (Fr.of_below (qal _ _))).trans (Fr.of_grown af)
   have dh:(Value.slice (some (ad g1 0)) (n+1+1) aC).ownBlock=(Value.slice (some (ad b o)) (n+1) cap).ownBlock\/∃g,(Value.slice (some (ad g1 0)) (n+1+1) aC).ownBlock=some g/\w.heap.size<=g:=bE.imp (fun h=>h.symm) fun h=>⟨g1,rfl,by rw[h];first|omega|(simp;omega)⟩
   clear av af bE hlt1
   go_wp2
   go_ret
   exact⟨_,rfl,by rw[HR.out];exact HO.out,hF,dh⟩
  ·have HR:Hid (addT T x=T):=jef hL hl
   rw[hl]at gg
   have HT:Hid (Zf ((w.alloc (.cells #[iv x.at_,iv x.offset,iv x.save,.string x.abbr] 167)).alloc (.cells #[iv x.at_,iv y.offset,iv y.save,.string y.abbr] 167)) base (.slice (some (ad b o)) (n+1) cap) T):=woa (woa hT _) _
   have hF:Fr (fun tj=>(Value.slice (some (ad b o)) (n+1) cap).ownBlock=some tj) w ((w.alloc (.cells #[iv x.at_,iv x.offset,iv x.save,.string x.abbr] 167)).alloc (.cells #[iv x.at_,iv y.offset,iv y.save,.string y.abbr] 167)):=(Fr.of_below ag).trans (Fr.of_below (qal _ _))
   clear hl hL e1 hS hy hT
   generalize addT T x=R at *
   unfold TurnD.v
   unfold Cl;go_in
   go_wp2
   go_ret
   exact⟨_,rfl,by rw[HR.out];exact HT.out,hF,.inl rfl⟩
theorem j0v{A:List Int}(h:A.Pairwise (· < ·)){i k:Nat}(oB:i<k){x y:Int}(hx:A[i]? =some x)(hy:A[k]? =some y):x<y:=by
 obtain⟨h1,rfl⟩:=lgs hx
 obtain⟨h2,rfl⟩:=lgs hy
 exact List.pairwise_iff_getElem.mp h i k h1 h2 oB
theorem jzr:∀{L:List Int} {n:Int},(∀x∈L,x<n)->insA L n=L++[n]:=by
 intro L
 induction L with
 |nil=>intro n _;rfl
 |cons x L ih=>
  intro n h
  unfold insA
  rw[if_pos (h x (by simp)),ih fun y hy=>h y (lmc _ hy)]
  rfl
theorem jwm:∀{L:List Int} {n:Int} {k:Nat},(∀i x,i<k->L[i]? =some x->x<n)->L[k]? =some n->insA L n=L:=by
 intro L
 induction L with
 |nil=>intro n k _ h;simp at h
 | cons x L ih=>
  intro n k h hk
  cases k with
  |zero=>
   simp at hk
   subst hk
   unfold insA
   rw[if_neg (by omega),if_pos rfl]
  |succ k=>
   unfold insA
   rw[if_pos (h 0 x (by omega) rfl),ih (k:=k) (fun i y hi hy=>h (i+1) y (by omega) (by simpa using hy)) (by simpa using hk)]
theorem jzp:∀{L:List Int} {n:Int} {k:Nat} {y:Int},(∀i x,i<k->L[i]? =some x->x<n)->L[k]? =some y->n<y->insA L n=(L.take k++[n])++L.drop k:=by
 intro L
 induction L with
 |nil=>intro n k y _ h;simp at h
 | cons x L ih=>
  intro n k y h hk hy
  cases k with
  |zero=>
   simp at hk
   subst hk
   unfold insA
   rw[if_neg (by omega),if_neg (by omega)]
   rfl
  |succ k=>
   unfold insA
   rw[if_pos (h 0 x (by omega) rfl),ih (k:=k) (y:=y) (fun i z hi hz=>h (i+1) z (by omega) (by simpa using hz)) (by simpa using hk) hy]
   rfl
theorem jmb:(Tryz.prog.info? 2).map (fun i=>(i.zero,i.size,i.bytes))=some (some (iv 0),1,8):=by kernel_rfl
def Zs(w:World)(base:Nat)(v:Value)(L:List Int):Prop:=w.ownsRow base 2 1 v L.length (L.map (Value.int .i64))
theorem Zs.add{w:World}{base:Nat}{v:Value}{L M:List Int}(h:w.ownsRow base 2 1 v (L.length+M.length) (L.map (Value.int .i64)++M.map (Value.int .i64))):Zs w base v (L++M):=by
 unfold Zs
 rw[lla,lma]
 exact h
theorem Zs.open{w:World}{base:Nat}{v:Value}{L:List Int}(h:Zs w base v L)(hn:0<L.length):∃g cap,v=.slice (some (ad g 0)) L.length cap/\L.length<=cap/\g<w.heap.size/\base<=g/\∀(i:Nat) x,L[i]? =some x->w.cell? (ad g i)=some (iv x):=by
 rcases h.2 with⟨_,h0⟩|⟨g,cap,cur,hv,hb,hg,hc,_,_,_⟩
 ·omega
 ·refine⟨g,cap,hv,hc,(Array.getElem?_eq_some_iff.1 hg).1,hb,fun i x hx=>?_⟩
  have h2:w.ownsRow base 2 1 (.slice (some (ad g 0)) L.length cap) L.length (L.map (Value.int .i64)):=hv ▸ h
  rw[h2.cellAt i (by have:=(lgs hx).1;omega),lgm,hx];rfl
theorem jls(L:List Int)(v:Value)(n:Int)(base:Nat)(w:World)(ai:Zs w base v L)(BR:base<=w.heap.size)(h0:0<L.length)(h1:L.length<=100000)(jk:L.Pairwise (· < ·)):
  Cl 127 #[v,iv n] w fun e W'=>∃v',e=.returned v'/\Zs W' base v' (insA L n)/\Below base w W':=by
 obtain⟨i0,hi,aG,aH,aF⟩:=info_parts jmb
 obtain⟨g,cap,rfl,eh,hg,jG,aE⟩:=ai.open h0
 obtain⟨q,hq⟩:∃q,L.length=q+1:=⟨L.length-1,by omega⟩
 obtain⟨z,hz⟩:∃z,L[q]? =some z:=⟨_,lgg (by omega)⟩
 have cz:=aE q z hz
 have HC:=hid aE
 have HQ:=hid hq
 have cr:∀x∈L,x<=z:=fun x hx=>by
  obtain⟨i,hi⟩:=lgo hx
  have i7:=(lgs hi).1
  by_cases e:i=q
  ·subst e;rw[hz]at hi;obtain rfl:=osi hi;exact Int.le_refl _
  ·have:=j0v jk (show i<q by omega) hi hz;omega
 have av:=ai
 rw[hq]at av eh h1 ⊢
 clear aE hq
 have bq:IntKind.i64.wrap ((q:Int)+1-1)=q:=by rw[show(q:Int)+1-1=q by omega];exact wrap_small _ (by omega) (by omega)
 by_cases yl:z<n
 ·have HE:Hid (insA L n=L++[n]):=jzr fun x hx=>by have:=cr x hx;omega
  clear cr HC jk hz
  unfold Cl;go_in
  go_wp2_with (first
   |(at_builtin;refine wpList_append_own _ rfl _ _ 164 rfl base 2 i0 (iv 0) 1 8 Tryz.underlying164 hi aG aH aF rfl (by decide) _ _ _ rfl (woa av _) ⟨w.heap.size,0,none⟩ 1 1 [iv n] rfl rfl ?c1 ?c2 ?c3 ?c4 ?c5 ?_)
   |fail)
  case c1=>exact cell_one_new _ _ _
  case c2=>intro u hu;simp at hu;subst hu;rfl
  case c3=>have:=HQ.out;unfold maxLen;omega
  case c4=>have:=HQ.out;omega
  case c5=>simp;omega
  intro v' w1 ao af _
  have aj:Below base w w1:=((brf base w).alloc BR _).grown af (by simp;omega) (fun j hj=>(av.lt j hj).1)
  have HO:Hid (Zs w1 base v' (insA L n)):=by simp only[Hid];rw[HE.out];exact Zs.add (M:=[n]) ao
  clear af ao ai av
  go_wp2
  go_ret
  exact⟨_,rfl,HO.out,aj⟩
 ·have Cq:n<=z:=by omega
  unfold Cl;go_in
  go_wp2
  go_loopw [5] (fun s wr=>∃k:Nat,k<=q/\s=iv k/\Hid (∀i x,i<k->L[i]? =some x->x<n)/\wr=w) (fun s _=>q+1-(intOf s).toNat)
  case atStart=>exact⟨0,by omega,rfl,fun i x hi=>by omega,rfl⟩
  case round=>
   obtain⟨k,hk,rfl,HS,hw⟩:=hrel
   have hw:=hw.symm
   subst hw
   obtain⟨y,hy⟩:∃y,L[k]? =some y:=⟨_,lgg (by rw[HQ.out];omega)⟩
   have cy:=HC.out k y hy
   by_cases sO:y<n
   ·have P4:k<q:=by
     by_cases e:k=q
     ·subst e;rw[hz]at hy;obtain rfl:=osi hy;omega
     ·omega
    have HR:Hid (∀i x,i<k+1->L[i]? =some x->x<n):=fun i x hi hx=>by
     by_cases e:i=k
     ·subst e;rw[hy]at hx;obtain rfl:=osi hx;exact sO
     ·exact HS.out i x (by omega) hx
    clear HS hy hz HC
    go_wp2
    go_roundw
    case rel=>exact⟨k+1,by omega,by go_num,HR,trivial⟩
    case measure=>simp[intOf];omega
   ·by_cases e:y=n
    ·subst e
     have HE:Hid (insA L y=L):=jwm HS.out hy
     clear HS hy hz HC
     go_wp2
     go_ret
     exact⟨_,rfl,by rw[HE.out];exact av,brf _ _⟩
    ·have HE:Hid (insA L n=(L.take k++[n])++L.drop k):=jzp HS.out hy (by omega)
     have ey:(y==n)=false:=by simpa using e
     have lk:(L.take k).length=k:=by rw[List.length_take,HQ.out];omega
     have ld:(L.drop k).length=q+1-k:=by rw[List.length_drop,HQ.out]
     have n1:∀j u,((L.take k).map (Value.int .i64))[j]? =some u->(w.alloc (.cells #[] 2)).cell? (((ad g 0):Addr).add j)=some u:=fun j u hj=>by
      rw[lgm]at hj
      obtain⟨x,hx,rfl⟩:=Option.map_eq_some_iff.mp hj
      have Cc:j<k:=by have:=(lgs hx).1;omega
      rw[List.getElem?_take_of_lt Cc]at hx
      rw[addP,Nat.zero_add]
      exact jaa (qal w _) (HC.out j x hx)
     have HD:Hid (∀w2,Bw w w2->∀j u,((L.drop k).map (Value.int .i64))[j]? =some u->w2.cell? (((ad g k):Addr).add j)=some u):=fun w2 hb j u hj=>by
      rw[lgm]at hj
      obtain⟨x,hx,rfl⟩:=Option.map_eq_some_iff.mp hj
      rw[List.getElem?_drop]at hx
      rw[addP]
      exact jaa hb (HC.out (k+j) x hx)
     have o1:∀u∈(L.take k).map (Value.int .i64),u.oneCell'=true:=fun u hu=>by obtain⟨x,_,rfl⟩:=List.mem_map.mp hu;rfl
     have o2:∀u∈(L.drop k).map (Value.int .i64),u.oneCell'=true:=fun u hu=>by obtain⟨x,_,rfl⟩:=List.mem_map.mp hu;rfl
     have hE:=ja5 w 2 1
     have t1:((L.take k).map (Value.int .i64)).length=k*1:=by rw[llm,lk];omega
     have t2:((L.drop k).map (Value.int .i64)).length=(q+1-k)*1:=by rw[llm,ld];omega
     have iH:¬cap=k:=by omega
     have bk:(0:Int)<=(k:Int):=by omega
     have EL:(k:Int)<=(cap:Int):=by omega
     have Iq:(k:Int)<=(q:Int)+1:=by omega
     clear HS hy hz HC
     go_wp2_with (first
      |(at_builtin;refine wpList_append_own _ rfl _ _ 164 rfl w.heap.size 2 i0 (iv 0) 1 8 Tryz.underlying164 hi aG aH aF rfl (by decide) _ _ _ rfl hE ⟨g,0,none⟩ k cap ((L.take k).map (Value.int .i64)) rfl t1 n1 o1 ?d3 ?d4 ?d5 ?_)
      |fail)
     case d3=>unfold maxLen;omega
     case d4=>omega
     intro v1 w1 aw aP _
     have aj:Bw w w1:=(qal w _).grown aP (by simp) (fun j hj=>(hE.lt j hj).1)
     obtain⟨a1,m1,c1,rfl⟩:=jad aw
     have bU:=aj.size
     clear aP hE n1 o1
     go_wp2_with (first
      |(at_builtin;refine wpList_append_own _ rfl _ _ 164 rfl w.heap.size 2 i0 (iv 0) 1 8 Tryz.underlying164 hi aG aH aF rfl (by decide) _ _ _ rfl (woa aw _) ⟨w1.heap.size,0,none⟩ 1 1 [iv n] rfl rfl ?e1 ?e2 ?e3 ?e4 ?e5 ?_)
      |fail)
     case e1=>exact cell_one_new _ _ _
     case e2=>intro u hu;simp at hu;subst hu;rfl
     case e3=>unfold maxLen;omega
     case e4=>omega
     case e5=>simp;omega
     intro v2 w2 aI aU _
     have an:Bw w w2:=(aj.alloc aj.size _).grown aU (by simp;omega) (fun j hj=>(aw.lt j hj).1)
     obtain⟨a2,m2,c2,rfl⟩:=jad aI
     have dR:=an.size
     have n2:=HD.out w2 an
     clear aU aw
     go_wp2_with (first
      |(at_builtin;refine wpList_append_own _ rfl _ _ 164 rfl w.heap.size 2 i0 (iv 0) 1 8 Tryz.underlying164 hi aG aH aF rfl (by decide) _ _ _ rfl aI ⟨g,k,none⟩ (q+1-k) (cap-k) ((L.drop k).map (Value.int .i64)) rfl t2 n2 o2 ?f3 ?f4 ?f5 ?_)
      |fail)
     case f3=>unfold maxLen;omega
     case f4=>omega
     case f5=>omega
     intro v3 w3 gj aJ _
     have ax:Bw w w3:=an.grown aJ (by omega) (fun j hj=>(aI.lt j hj).1)
     have HO:Hid (Zs w3 base v3 (insA L n)):=by
      simp only[Hid]
      rw[HE.out]
      refine jaj (Zs.add (base:=w.heap.size) ?_) BR
      rw[lla,lk,ld,lma]
      simpa using gj
     clear aJ gj aI
     go_wp2
     go_ret
     exact⟨_,rfl,HO.out,ax.mono BR⟩
theorem jr6{H:List HapD}{b e:Int}{k:Nat}{x:HapD}(hx:H[k]? =some x):inX (H.take (k+1)) b e=inX (H.take k) b e++(if b<x.at_/\x.at_<e then [x.at_]else []):=by
 unfold inX
 rw[List.take_add_one,hx,lma,List.filter_append]
 congr 1
 by_cases h:b<x.at_/\x.at_<e
 ·rw[if_pos h];simp[h.1,h.2]
 ·rw[if_neg h];simp;intro h1;exact Int.not_lt.mp fun h2=>h ⟨h1,h2⟩
theorem jdo(H:List HapD)(b e:Int):(inX H b e).length<=H.length:=by
 unfold inX
 have:=List.length_filter_le (fun t=>decide (b<t)&&decide (t<e)) (H.map HapD.at_)
 rw[llm]at this
 exact this
theorem jod(l:List Int):(l.mergeSort fun x y=>decide (x<=y)).Pairwise (· <= ·):=by
 have:=List.pairwise_mergeSort (le:=fun(x y:Int)=>decide (x<=y)) (fun a b c h1 h2=>by
  have:=odt h1
  have:=odt h2
  exact dte (by omega)) (fun a b=>by
  by_cases h:a<=b
  ·simp[h]
  ·simp[show b<=a by omega]) l
 exact this.imp fun h=>odt h
theorem je1(H:List HapD)(a:Option Addr)(ca:Nat)(b e:Int)(w:World)(hA:Za w a 3 (H.map HapD.cs))(hl:H.length<=2000):
  Cl 233 #[.slice a H.length ca,iv b,iv e] w fun r W'=>∃v L,r=.returned v/\Zs W' w.heap.size v L/\L.Pairwise (· <= ·)/\L.Perm (b::inX H b e)/\Bw w W':=by
 obtain⟨i0,hi,aG,aH,aF⟩:=info_parts jmb
 have ag:=qal w (.cells #[iv b] 2)
 have nZ:Zs (w.alloc (.cells #[iv b] 2)) w.heap.size (.slice (some (ad w.heap.size 0)) 1 1) (b::inX (H.take 0) b e):=⟨by simp[inX],.inr ⟨w.heap.size,1,#[iv b],by simp[inX],nlr _,heap_alloc_new w _,by simp[inX],by unfold maxLen;omega,by simp,by simp[inX]⟩⟩
 unfold Cl;go_in
 go_wp2
 go_loopw [7,14] (fun s7 kY wr=>∃(k:Nat) (p:Option Addr) (m c:Nat),k<=H.length/\kY=iv k/\s7=.slice p m c/\Zs wr w.heap.size (.slice p m c) (b::inX (H.take k) b e)/\Bw w wr) (fun _ kY _=>H.length-(intOf kY).toNat)
 case atStart=>exact⟨0,_,_,_,by omega,rfl,rfl,nZ,ag⟩
 case round=>
  clear nZ ag
  obtain⟨k,p,m,c,hk,rfl,rfl,hO,hB⟩:=hrel
  have dI:=hB.size
  by_cases hlt:k<H.length
  ·obtain⟨x,hx⟩:=qgg hlt
   obtain⟨b9,o9,rfl,hc⟩:=(hA.below hB).at (i:=k) (r:=x.cs) (by rw[lgm,hx];rfl)
   have c0:wr.cell? (ad b9 (o9+k*3))=some (iv x.at_):=hc 0 _ rfl
   have c1:=hc 1 _ rfl
   have c2:=hc 2 _ rfl
   have eY:(k:Int)<(H.length:Int):=by omega
   have HX:=jr6 (b:=b) (e:=e) hx
   have iD:=jdo (H.take k) b e
   have sL:(H.take k).length<=2000:=by rw[List.length_take];omega
   have an:=hB.alloc dI (.cells #[iv x.at_,iv x.save,.string x.letter] 199)
   have aW:Zs (wr.alloc (.cells #[iv x.at_,iv x.save,.string x.letter] 199)) w.heap.size (.slice p m c) (b::inX (H.take k) b e):=woa hO _
   obtain⟨X,lC⟩:=qeb (inX (H.take k) b e)
   rw[lC]at hO aW HX iD
   clear hc hx lC
   by_cases hin:b<x.at_/\x.at_<e
   ·rw[if_pos hin]at HX
    have yX:=hid HX
    obtain⟨g1,g2⟩:=hin
    clear HX
    go_wp2_with (first
     |(at_builtin;refine wpList_append_own _ rfl _ _ 164 rfl w.heap.size 2 i0 (iv 0) 1 8 Tryz.underlying164 hi aG aH aF rfl (by decide) _ _ _ rfl (woa aW _) ⟨wr.heap.size+1,0,none⟩ 1 1 [iv x.at_] rfl rfl ?c1 ?c2 ?c3 ?c4 ?c5 ?_)
     |fail)
    case c1=>simpa using cell_one_new (wr.alloc _) (iv x.at_) _
    case c2=>intro u hu;simp at hu;subst hu;rfl
    case c3=>unfold maxLen;simp;omega
    case c4=>simp;omega
    case c5=>simp;omega
    ·intro v' w1 ao af _
     have ax:Bw w w1:=(an.alloc (by simp;omega) _).grown af (by simp;omega) (fun j hj=>(World.ownsRow.lt hO j hj).1)
     have HO:Hid (Zs w1 w.heap.size v' (b::(X++[x.at_]))):=by simpa [Hid,Zs]using ao
     obtain⟨p',m',c',rfl⟩:=jad ao
     clear af ao hO aW
     go_wp2
     go_roundw
     case rel=>exact⟨k+1,p',m',c',by omega,by go_num,rfl,by rw[yX.out];exact HO.out,ax⟩
     case measure=>simp[intOf];omega
   ·rw[if_neg hin,List.append_nil]at HX
    have HO:Hid (Zs (wr.alloc (.cells #[iv x.at_,iv x.save,.string x.letter] 199)) w.heap.size (.slice p m c) (b::inX (H.take (k+1)) b e)):=by rw[HX];exact aW
    clear HX hO aW
    by_cases g1:b<x.at_
    ·have g2:¬x.at_<e:=fun h=>hin ⟨g1,h⟩
     clear hin
     go_wp2
     go_roundw
     case rel=>exact⟨k+1,p,m,c,by omega,by go_num,rfl,HO.out,an⟩
     case measure=>simp[intOf];omega
    ·clear hin
     go_wp2
     go_roundw
     case rel=>exact⟨k+1,p,m,c,by omega,by go_num,rfl,HO.out,an⟩
     case measure=>simp[intOf];omega
  ·have kD:k=H.length:=by omega
   subst kD
   rw[List.take_length]at hO
   have iD:=jdo H b e
   obtain⟨Z,hZ⟩:=qeb (b::inX H b e)
   have JQ:Z.length<=2001:=by rw[<- hZ,List.length_cons];omega
   have j8:1<=Z.length:=by rw[<- hZ,List.length_cons];omega
   have HZ:=hid hZ
   rw[hZ]at hO
   clear hZ
   have mI:Value.slice p m c≠nS:=fun h=>by
    rcases hO.2 with⟨_,h0⟩|⟨g,cap,cur,h0,_⟩
    ·omega
    ·rw[h]at h0;cases h0
   obtain⟨g',fK,he,xT,mB,vo,qw,sP,hH⟩:=Lib.holds_of_ownsRow hO mI
   injection he with he1 he2 iI
   subst he1 he2 iI
   have hS:=Tryz.slices_Sort_int g' 0 c Z wr hH mB (by omega)
   obtain⟨so,vF⟩:∃so,(Z.mergeSort fun x y=>decide (x<=y))=so:=⟨_,rfl⟩
   have nH:Hid (so.Pairwise (· <= ·)):=vF ▸ jod Z
   have ju:Hid (so.Perm (b::inX H b e)):=by rw[HZ.out];exact vF ▸ List.mergeSort_perm Z _
   have iP:so.length=Z.length:=by rw[<- vF];exact List.length_mergeSort Z
   rw[vF]at hS
   have Fc:∀q os,Bw w (grow (putRow (Value.int .i64) (Sort.ahead wr q) g' 0 so.toArray) os)/\Zs (grow (putRow (Value.int .i64) (Sort.ahead wr q) g' 0 so.toArray) os) w.heap.size (.slice (some (ad g' 0)) Z.length c) so:=fun q os=>by
    have hb1:=Lib.below_putRow (enc:=Value.int .i64) (q:=q) (d:=so.toArray) hB xT
    have sH:=Lib.ownsRow_putRow (q:=q) (k:=Z.length) hO iP (nlr _)
    have cQ:Below (putRow (Value.int .i64) (Sort.ahead wr q) g' 0 so.toArray).heap.size (putRow (Value.int .i64) (Sort.ahead wr q) g' 0 so.toArray) (grow (putRow (Value.int .i64) (Sort.ahead wr q) g' 0 so.toArray) os):=⟨rfl,rfl,rfl,by simp,fun k hk=>Go.Sort.heap_grow_old _ _ hk⟩
    refine⟨(qtr hb1 cQ),?_⟩
    have yd:=jac sH cQ
    unfold Zs
    rw[iP]
    rw[show so.take Z.length=so by rw[<- iP,List.take_length]]at yd
    exact yd
   have HG:=hid Fc
   clear Fc iP vF hH hO JQ mI sP iD
   go_wp2_with fail
   refine hS.mono ?_
   rintro r w2 ⟨rfl,q,os,rfl⟩
   obtain⟨ac,yd⟩:=HG.out q os
   generalize grow (putRow (Value.int .i64) (Sort.ahead wr q) g' 0 so.toArray) os=w3 at *
   go_wp2
   go_ret
   exact⟨_,so,rfl,yd,nH.out,ju.out,ac⟩
theorem j05{x y z:Int}(h:vldB x y z=true)(hx:x<=2037):num x y z<=24836:=by
 have ⟨a,b,c,d,e,f⟩:=jyc h
 have h3:=Cal.cum_succ x y c d
 have h4:=Cal.cum_mono (y:=x) (a:=y+1) (b:=13) (by omega) (by omega) (by omega)
 have h5:=Cal.cum_13 x
 have h6:=Cal.dby_succ x a
 have h7:=Cal.dby_mono (a:=x+1) (b:=2038) (by omega) (by omega)
 have h8:Cal.dby 2038=743999:=by unfold Cal.dby;omega
 unfold num
 omega
theorem j3f{y m:Int}(h2:y<=2037)(t:ByteArray):nbV y m t<=24836:=by
 unfold nbV
 split
 ·rename_i h
  unfold nbB at h
  simp only[bat]at h
  exact j05 h.2.2 h2
 ·omega
theorem mo_up{y m:Int}{s:ByteArray}(hy:ymB y m=true)(h2:y<=2037):moV y m s<=24843:=by
 have nl:=j05 (jbp hy) h2
 have nb:=j3f (m:=m) h2 (s.extract 5 s.size)
 have yo:=j3f (m:=m) h2 s
 have w1:=jc6 (s.extract 4 7)
 have w2:=jc6 (s.extract 0 3)
 unfold moV
 split
 ·unfold jcg
  split<;>omega
 ·split
  ·unfold jff
   split<;>omega
  ·split
   ·unfold jcg
    split<;>omega
   ·omega
theorem juj{i:Nat}{x:RuleD}{y:Int}(hx:Jo x){m:WallD}:∀{n:Nat},1960<=y->y+n<=2038->m∈wallsN i x y n->m.wall<=2200000000:=by
 intro n
 induction n with
 |zero=>intro _ _ h;simp[wallsN]at h
 |succ n ih=>
  intro h1 h2 h
  rw[wallsN,List.mem_append]at h
  rcases h with h|h
  ·exact ih h1 (by omega) h
  ·have hb:=mo_up (s:=x.on) (jx9 (y:=y+n) (m:=x.month) (by omega) (by omega) hx.month.1 hx.month.2) (by omega)
   have ha:=hx.at_
   unfold jdy at h
   split at h
   ·simp at h
   ·simp at h
    subst h
    show 86400*moV (y+n) x.month x.on+x.at_<=2200000000
    omega
theorem jui{nm:ByteArray}{l:List RuleD}(hl:∀x∈l,Jo x){m:WallD}:∀{k:Nat},m∈jaq nm l k->m.wall<=2200000000:=by
 intro k
 induction k with
 |zero=>intro h;simp[jaq]at h
 |succ k ih=>
  intro h
  rw[jaq,List.mem_append]at h
  rcases h with h|h
  ·exact ih h
  ·split at h
   ·rename_i x hx
    split at h
    ·unfold jcf at h
     by_cases hy:yrs x=0
     ·rw[hy]at h;simp[wallsN]at h
     ·exact juj (hl x (lmg hx)) (by omega) (by unfold yrs at *;omega) h
    ·simp at h
   ·simp at h
theorem jw8{l:List RuleD}{off:Int}(hl:∀x∈l,Jo x):∀(P:List WallD) (st:List HapD × Int), -7200<=st.2/\st.2<=7200->∀h∈(P.foldl (jdh l off) st).1,h∈st.1\/∃m∈P,∃x sv,x∈l/\ -7200<=sv/\sv<=7200/\h=jeb x m.wall off sv:=by
 intro P
 induction P with
 |nil=>intro st _ h hh;exact .inl hh
 |cons m P ih=>
  intro st hs h hh
  rw[List.foldl_cons]at hh
  cases hx:l[m.place]? with
  |none=>
   have e:jdh l off st m=st:=by unfold jdh;rw[hx]
   rw[e]at hh
   rcases ih st hs h hh with h1|⟨q,hq,h2⟩
   ·exact .inl h1
   ·exact .inr ⟨q,lmc _ hq,h2⟩
  |some x=>
   have e:jdh l off st m=(st.1++[jeb x m.wall off st.2],x.save):=by unfold jdh;rw[hx]
   rw[e]at hh
   have de:=lmg hx
   rcases ih _ (hl x de).save h hh with h1|⟨q,hq,h2⟩
   ·rcases List.mem_append.mp h1 with h1|h1
    ·exact .inl h1
    ·simp at h1
     exact .inr ⟨m,by simp,x,st.2,de,hs.1,hs.2,h1⟩
   ·exact .inr ⟨q,lmc _ hq,h2⟩
def srtF(l:List WallD):List WallD:=l.foldr (fun x s=>ja0 [x] s) []
theorem jfm:∀l:List WallD,Ja l (srtF l)
 |[]=>jfl (by simp)
 |x::l=>jm3 (l1:=[x]) (jfl (by simp)) (jfm l)
def ja2(r:RelD)(nm:ByteArray)(off:Int):List HapD × Bool:=if (jaq nm r.rules r.rules.length).length<=2000 then((jbv r.rules off (srtF (jaq nm r.rules r.rules.length))).1,true)else([],false)
theorem j2i(r:RelD)(nm:ByteArray)(off:Int):jxz r nm off (ja2 r nm off).1 (ja2 r nm off).2:=by
 unfold ja2
 split
 ·rename_i h
  exact⟨_,.inl ⟨h,rfl,jfm _⟩,rfl⟩
 ·rename_i h
  exact⟨[],.inr ⟨h,rfl,rfl⟩,rfl⟩
theorem jz3{r:RelD}{nm:ByteArray}{off:Int}{H:List HapD}{b:Bool}(h:jx0 (jbt r.rules nm) off H b):H=(ja2 r nm off).1/\b=(ja2 r nm off).2:=jw1 h (j2i r nm off)
theorem jz2{r:RelD}{nm:ByteArray}{off:Int}{H:List HapD}{b:Bool}(h:jxz r nm off H b):H=(ja2 r nm off).1/\b=(ja2 r nm off).2:=by
 obtain⟨s,hs,rfl⟩:=h
 unfold ja2
 rcases hs with⟨g,rfl,hS⟩|⟨g,rfl,rfl⟩
 ·rw[if_pos g]
  have hF:=jfm (jaq nm r.rules r.rules.length)
  rw[jvc hS.up hF.up fun t=>by rw[hS.at_,hF.at_]]
  exact⟨rfl,rfl⟩
 ·rw[if_neg g]
  exact⟨rfl,rfl⟩
structure HapB(h:HapD):Prop where
 at_:h.at_<=253402300799
 save: -7200<=h.save/\h.save<=7200
 letter:h.letter.size<=6
theorem jmi{r:RelD}{nm:ByteArray}{off:Int}(hr:∀x∈r.rules,jaw x=true)(h1: -86400<=off)(h2:off<=86400):∀h∈(ja2 r nm off).1,HapB h:=by
 have hR:∀x∈r.rules,Jo x:=fun x hx=>jrg (hr x hx)
 intro h hh
 unfold ja2 at hh
 split at hh
 ·rcases jw8 hR _ _ (by simp) h hh with h0|⟨m,hm,x,sv,hx,s1,s2,rfl⟩
  ·simp at h0
  ·have hw:=jui hR (jpo (jfm _) hm)
   have hL:x.letter.size<=6:=by
    have:=hr x hx
    unfold jaw ltB at this
    simp only[bat,decide_eq_true_eq]at this
    exact this.2.2.2.2.2.2.2.2.1
   refine⟨?_,(hR x hx).save,hL⟩
   cases hs:(x.of.toList==[115])
   ·cases hv:(x.of.toList==[119])
    ·rw[j2k hs hv];show m.wall<=253402300799;omega
    ·rw[j2j hs hv];show m.wall-off-sv<=253402300799;omega
   ·rw[j2l hs];show m.wall-off<=253402300799;omega
 ·simp at hh
theorem jea{r:RelD}{nm:ByteArray}{off:Int}:(ja2 r nm off).1.length<=2000:=by
 unfold ja2
 split
 ·rename_i h
  have hF:=jfm (jaq nm r.rules r.rules.length)
  have:∀(P:List WallD) (st:List HapD × Int),(P.foldl (jdh r.rules off) st).1.length<=st.1.length+P.length:=by
   intro P
   induction P with
   |nil=>intro st;simp
   | cons m P ih=>
    intro st
    rw[List.foldl_cons]
    have h1:=ih (jdh r.rules off st m)
    have h2:(jdh r.rules off st m).1.length<=st.1.length+1:=by
     unfold jdh
     split
     ·simp
     ·omega
    simp only[List.length_cons]
    omega
  have h3:=this (srtF (jaq nm r.rules r.rules.length)) ([],0)
  rw[hF.len]at h3
  simp at h3
  unfold jbv
  exact Nat.le_trans h3 h
 ·simp
