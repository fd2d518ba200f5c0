import Derived.Test.YtbbgeelamjmgaaaGreatDoorHpUd
set_option maxRecDepth 100000
set_option maxHeartbeats 0
set_option linter.unusedSimpArgs false
open Go.RowKit Go.Sort
namespace Go.Proofs.YtbbgeelamjmgaaaGreatDoor
variable{f nm s:ByteArray}{d l p:List UInt8}{off YX t y:Int}{b base g i k m n n0 n1:Nat}{W w w':World}{x:ZK}{H:List Z5}{h:Z5}{e:ZH}{T:List ZK}{A E L:List Int}{v v0 v1 v2 x0 x1 x2:Value}{r:ZW}
theorem vcl(s:ByteArray)(a b:Nat):(s.extract a b).data.toList=(s.data.toList.drop a).take (b-a):=by
 rw[ByteArray.data_extract];simp[List.take_drop]
theorem vbh(s:ByteArray):s.toList=s.data.toList:=by rw[ByteArray.toList_eq]
theorem jf1(h:s.data.toList=l):s=⟨l.toArray⟩:=by
 subst h;apply ByteArray.ext;simp
theorem Rm(s:ByteArray):s.data.toList.length=s.size:=by rw[Array.length_toList];rfl
def jdw(d:List UInt8)(YX:Int):List UInt8:=
 if 0<=Lib.index d [47]then(if YX=0 then d.take (Lib.index d [47]).toNat else d.drop ((Lib.index d [47]).toNat+1))else d
def jdf(p l:List UInt8):List UInt8:=
 if 0<=Lib.index p [37,115]then p.take (Lib.index p [37,115]).toNat++l++p.drop ((Lib.index p [37,115]).toNat+2)else p
theorem jvn(h:Lib.index d [47]= -1):jdw d YX=d:=by unfold jdw;rw[if_neg Q]
theorem j03(h:Lib.index d [47]=i):jdw d 0=d.take i:=by unfold jdw;rw[if_pos Q,if_pos rfl,h];simp
theorem j02(h:Lib.index d [47]=i)(hs:YX≠0):jdw d YX=d.drop (i+1):=by unfold jdw;rw[if_pos Q,if_neg hs,h];simp
theorem jmt(h:Lib.index p [37,115]= -1):jdf p l=p:=by unfold jdf;rw[if_neg Q]
theorem jmu(h:Lib.index p [37,115]=i):jdf p l=p.take i++l++p.drop (i+2):=by unfold jdf;rw[if_pos Q,h];simp
theorem jlz(d:List UInt8)(YX:Int):(jdw d YX).length<=d.length:=by
 unfold jdw;split
 .split
  .rw[List.length_take];omega
  .rw[List.length_drop];omega
 .exact ZD _
theorem jvy(h:Lib.occAt p [37,115] i=true):p.take i++[37,115]++p.drop (i+2)=p:=by
 unfold Lib.occAt at h;have⟨r,hr⟩:=List.isPrefixOf_iff_prefix.1 h;have e:p.drop (i+2)=r:=by rw[<- List.drop_drop, <- hr];rfl
 rw[e,List.append_assoc,hr,List.take_append_drop]
theorem jpu(p l:List UInt8):Lib.replace p [37,115] l 1=jdf p l:=by
 rcases Lib.index_spec p [37,115]with⟨h1,_⟩|⟨i,h1,_,h3,_⟩
 .rw[jmt h1]
  unfold Lib.replace Lib.replaceNum;rw[Lib.count_miss h1];split
  .rfl
  .rw[if_pos (Or.inr Q)];rfl
 .rw[jmu h1]
  unfold Lib.replace;split
  .rename_i hl
   rw[<- (beq_iff_eq.mp hl)];exact(jvy h3).symm
  .have hc:0<Lib.count p [37,115]:=by
    unfold Lib.count Lib.countFrom;rw[if_neg RO];omega
   unfold Lib.replaceNum;rw[if_neg Q];exact Lib.replaceK_hit _ _ 0 p i h1
theorem j3w(h:Lib.index d [47]= -1):Lib.cut d [47]=(d,[],false):=by unfold Lib.cut;rw[if_neg Q]
theorem j3x(h:Lib.index d [47]=i):Lib.cut d [47]=(d.take i,d.drop (i+1),true):=by unfold Lib.cut;rw[if_pos Q,h];simp
theorem jco(s sub:ByteArray)(w:World)(hs:s.size<=8000)(h1:1<=sub.size)(h2:sub.size<=2):
  C 247 #[I s,I sub] w λe w'=>e=V (J (Lib.index s.data.toList sub.data.toList))/\w'=w:=by
 have HH:Hid (∀k:Nat,Lib.NoOcc s.data.toList sub.data.toList k->k+sub.size<=s.size->(s.extract k (k+sub.size)).toList==sub.toList->Lib.index s.data.toList sub.data.toList=k):=λk hn hk he=>by
  refine Lib.index_hit hn (by rw[Rm];omega) ?_;rw[Lib.occAt_iff_take _ _ _ (by rw[Rm,Rm];exact hk),Rm];rw[vbh,vbh,vcl,show k+sub.size-k=sub.size by omega]at he;exact he
 have HM:Hid (∀k:Nat,Lib.NoOcc s.data.toList sub.data.toList k->k+sub.size<=s.size->((s.extract k (k+sub.size)).toList==sub.toList)=false->Lib.NoOcc s.data.toList sub.data.toList (k+1)):=λk hn hk he=>by
  refine hn.succ ?_;rw[Lib.occAt_iff_take _ _ _ (by rw[Rm,Rm];exact hk),Rm];rw[vbh,vbh,vcl,show k+sub.size-k=sub.size by omega]at he;exact he
 have HP:Hid (∀k:Nat,Lib.NoOcc s.data.toList sub.data.toList k->s.size<k+sub.size->Lib.index s.data.toList sub.data.toList= -1):=λk hn hk=>by
  refine Lib.index_past (λe=>?_) hn (by rw[Rm,Rm];exact hk);have:=Rm sub;rw[e]at this;simp at this;omega
 have H0:Hid (Lib.NoOcc s.data.toList sub.data.toList 0):=Lib.NoOcc.zero _ _;generalize Lib.index s.data.toList sub.data.toList=ix at *;unfold C;go_in;go_wp2;go_loop [5] (λi=>∃k:Nat,k<=s.size+1/\i=J k/\Hid (Lib.NoOcc s.data.toList sub.data.toList k)) (λi=>s.size+1-(intOf i).toNat)
 .exact⟨0,Q,rfl,H0⟩
 ·
  obtain⟨k,hk,rfl,hn⟩:=hrel;by_cases hlt:k+sub.size<=s.size
  .cases hb:((s.extract k (k+sub.size)).toList==sub.toList)
   .have HR:Hid (Lib.NoOcc s.data.toList sub.data.toList (k+1)):=HM.out k hn.out hlt hb
    go_wp2;go_round
    .exact⟨k+1,Q,RP,HR⟩
    .simp[intOf];omega
   .have HR:Hid (ix=k):=HH.out k hn.out hlt hb
    go_wp2;go_ret;exact⟨Fh HR.out.symm,rfl⟩
  .have HR:Hid (ix= -1):=HP.out k hn.out Q
   go_wp2;go_ret;exact⟨Fh HR.out.symm,rfl⟩
theorem vcb{a b:ByteArray}(h:a=b):V (I a)=V (I b):=by rw[h]
def jki(f l:ByteArray)(YX:Int):ByteArray:=if f.size<=8000/\l.size<=8000 then⟨(jdf (jdw f.data.toList YX) l.data.toList).toArray⟩else⟨#[]⟩
theorem jsm{l:ByteArray}(h:¬(f.size<=8000/\l.size<=8000)):jki f l YX=⟨#[]⟩:=if_neg h
theorem jjv{l:ByteArray}(h:f.size<=8000/\l.size<=8000):jki f l YX=⟨(jdf (jdw f.data.toList YX) l.data.toList).toArray⟩:=if_pos h
def MxA(w:World):Prop:=∃m:Int,w.cell? (O (1) 0)=some (J m)
theorem MxA.of_below(h:MxA w)(hb:Bw w w'):MxA w':=by
 have⟨m,hm⟩:=h;exact⟨m,(Z7 hb hm hm)⟩
theorem jxq(s sub:ByteArray)(h:1<=sub.size):Lib.countB s sub<=s.size:=by
 have:=Lib.countB_mul_le sub h s.size s (ZD _);exact Nat.le_trans (Nat.le_mul_of_pos_right _ h) this
theorem jm7(f l:ByteArray)(YX:Int)(w:World)(hf:f.size<=8000)(hl:l.size<=8000):
  C 215 #[I f,I l,J YX] w λe w'=>e=V (I ⟨(jdf (jdw f.data.toList YX) l.data.toList).toArray⟩)/\∃n,w'=w.drewN n:=by
 have hI:=λw=>jco f ⟨#[47]⟩ w hf RN RN
 have dw:=jlz f.data.toList YX;rw[Rm]at dw;rcases Lib.index_spec f.data.toList [47]with⟨e1,_⟩|⟨i,e1,hi,sH,_⟩
 .have hq:f.data.toList=jdw f.data.toList YX:=(jvn e1).symm
  rw[show(ByteArray.mk #[47]).data.toList=[47]from rfl,e1]at hI;have hJ:=λw=>jco f ⟨#[37,115]⟩ w hf RN RN
  rw[show(ByteArray.mk #[37,115]).data.toList=[37,115]from rfl]at hJ;generalize hqq:jdw f.data.toList YX=q at *;clear hqq dw e1;obtain⟨p,rfl⟩:∃p:ByteArray,p=f:=⟨f,rfl⟩;unfold C;go_in;go_wp2_with fail;refine(hI _).mono ?_;rintro e w' ⟨rfl,rfl⟩;go_wp2_with fail;rcases Lib.index_spec p.data.toList [37,115]with⟨e2,_⟩|⟨j,e2,hj,ho,_⟩
  .rw[e2]at hJ
   have HR:Hid (({ data:=(jdf q l.data.toList).toArray }:ByteArray)=p):=by simp only[Hid];rw[<- hq,jmt e2]
   refine(hJ _).mono ?_;rintro e w' ⟨rfl,rfl⟩;go_wp2;go_ret;exact⟨vcb HR.out.symm,0,rfl⟩
  .rw[e2]at hJ
   have gk:j+2<=p.size:=by
    rcases Lib.occAt_room ho with h|h
    .rw[Rm]at h;simpa using h
    .cases h
   have i0:(0:Int)<=(j:Int):=Q;have i1:(j:Int)<=(p.size:Int):=Q;have i2:(j:Int)+2<=(p.size:Int):=Q;have HR:Hid (({ data:=(jdf q l.data.toList).toArray }:ByteArray)=p.extract 0 j++l++p.extract (j+2) p.size):=by
    simp only[Hid];rw[<- hq,jmu e2]
    symm
    apply jf1;simp only[ByteArray.data_append,Array.toList_append,vcl,List.drop_zero,Nat.sub_zero];rw[List.take_of_length_le (l:=p.data.toList.drop (j+2)) (by rw[List.length_drop,Rm];omega)]
   clear hj ho e2;refine(hJ _).mono ?_;rintro e w' ⟨rfl,rfl⟩;go_wp2_with fail;go_quiet (fail);go_wp2;go_ret;exact⟨vcb HR.out.symm,_,rfl⟩
 .rw [Rm]at hi
  rw[show(ByteArray.mk #[47]).data.toList=[47]from rfl,e1]at hI;have gk:i+1<=f.size:=by
   rcases Lib.occAt_room sH with h|h
   .rw[Rm]at h;simpa using h
   .cases h
  have j0:(0:Int)<=(i:Int):=Q;have j1:(i:Int)+1<=(f.size:Int):=Q;by_cases hs:YX=0
  .subst hs
   have hq:(f.extract 0 i).data.toList=jdw f.data.toList 0:=by rw[j03 e1,vcl];simp
   have hz:(f.extract 0 i).size<=8000:=by rw[ByteArray.size_extract];omega
   have hJ:=λw=>jco (f.extract 0 i) ⟨#[37,115]⟩ w hz RN RN
   rw[show(ByteArray.mk #[37,115]).data.toList=[37,115]from rfl]at hJ;generalize hqq:jdw f.data.toList 0=q at *;clear hqq dw e1 sH;unfold C;go_in;go_wp2_with fail;refine(hI _).mono ?_;rintro e w' ⟨rfl,rfl⟩;go_wp2_with fail;generalize f.extract 0 i=p at *;clear hI j0 j1 gk hi;rcases Lib.index_spec p.data.toList [37,115]with⟨e2,_⟩|⟨j,e2,hj,ho,_⟩
   .rw[e2]at hJ
    have HR:Hid (({ data:=(jdf q l.data.toList).toArray }:ByteArray)=p):=by simp only[Hid];rw[<- hq,jmt e2]
    refine(hJ _).mono ?_;rintro e w' ⟨rfl,rfl⟩;go_wp2;go_ret;exact⟨vcb HR.out.symm,0,rfl⟩
   .rw[e2]at hJ
    have gk:j+2<=p.size:=by
     rcases Lib.occAt_room ho with h|h
     .rw[Rm]at h;simpa using h
     .cases h
    have i0:(0:Int)<=(j:Int):=Q;have i1:(j:Int)<=(p.size:Int):=Q;have i2:(j:Int)+2<=(p.size:Int):=Q;have HR:Hid (({ data:=(jdf q l.data.toList).toArray }:ByteArray)=p.extract 0 j++l++p.extract (j+2) p.size):=by
     simp only[Hid];rw[<- hq,jmu e2]
     symm
     apply jf1;simp only[ByteArray.data_append,Array.toList_append,vcl,List.drop_zero,Nat.sub_zero];rw[List.take_of_length_le (l:=p.data.toList.drop (j+2)) (by rw[List.length_drop,Rm];omega)]
    clear hj ho e2;refine(hJ _).mono ?_;rintro e w' ⟨rfl,rfl⟩;go_wp2_with fail;go_quiet (fail);go_wp2;go_ret;exact⟨vcb HR.out.symm,_,rfl⟩
  .have hq:(f.extract (i+1) f.size).data.toList=jdw f.data.toList YX:=by rw[j02 e1 hs,vcl,List.take_of_length_le (by rw[List.length_drop,Rm];omega)]
   have hz:(f.extract (i+1) f.size).size<=8000:=by rw[ByteArray.size_extract];omega
   have hJ:=λw=>jco (f.extract (i+1) f.size) ⟨#[37,115]⟩ w hz RN RN
   rw[show(ByteArray.mk #[37,115]).data.toList=[37,115]from rfl]at hJ;generalize hqq:jdw f.data.toList YX=q at *;have Cw:(YX==0)=false:=by simpa using hs
   clear hqq dw e1 sH hs;unfold C;go_in;go_wp2_with fail;refine(hI _).mono ?_;rintro e w' ⟨rfl,rfl⟩;go_wp2_with fail;generalize f.extract (i+1) f.size=p at *;clear hI j0 j1 gk hi;rcases Lib.index_spec p.data.toList [37,115]with⟨e2,_⟩|⟨j,e2,hj,ho,_⟩
   .rw[e2]at hJ
    have HR:Hid (({ data:=(jdf q l.data.toList).toArray }:ByteArray)=p):=by simp only[Hid];rw[<- hq,jmt e2]
    refine(hJ _).mono ?_;rintro e w' ⟨rfl,rfl⟩;go_wp2;go_ret;exact⟨vcb HR.out.symm,0,rfl⟩
   .rw[e2]at hJ
    have gk:j+2<=p.size:=by
     rcases Lib.occAt_room ho with h|h
     .rw[Rm]at h;simpa using h
     .cases h
    have i0:(0:Int)<=(j:Int):=Q;have i1:(j:Int)<=(p.size:Int):=Q;have i2:(j:Int)+2<=(p.size:Int):=Q;have HR:Hid (({ data:=(jdf q l.data.toList).toArray }:ByteArray)=p.extract 0 j++l++p.extract (j+2) p.size):=by
     simp only[Hid];rw[<- hq,jmu e2]
     symm
     apply jf1;simp only[ByteArray.data_append,Array.toList_append,vcl,List.drop_zero,Nat.sub_zero];rw[List.take_of_length_le (l:=p.data.toList.drop (j+2)) (by rw[List.length_drop,Rm];omega)]
    clear hj ho e2;refine(hJ _).mono ?_;rintro e w' ⟨rfl,rfl⟩;go_wp2_with fail;go_quiet (fail);go_wp2;go_ret;exact⟨vcb HR.out.symm,_,rfl⟩
theorem jqu(f l:ByteArray)(YX:Int)(w:World)(hM:MxA w)(hf:f.size<=1048576)(hl:l.size<=1048576):
  C 289 #[I f,I l,J YX] w λe w'=>e=V (I (jki f l YX))/\Bw w w':=by
 by_cases h1:f.size<=8000
 .by_cases h2:l.size<=8000
  .have⟨m,hm⟩:=hM
   have hC:=Tryz.strings_Cut f ⟨#[47]⟩ m w Q hm;have sk:∀(p:ByteArray) w',p.data.toList.length<=8000->Bw w w'->C 301 #[I p,I ⟨#[37,115]⟩,I l,J 1] w' λe cW=>e=V (I ⟨(jdf p.data.toList l.data.toList).toArray⟩)/\Bw w' cW:=λp w' hp hb=>by
    rw[Rm]at hp;have sA:=jxq p ⟨#[37,115]⟩ RN
    have:=Tryz.strings_Replace p ⟨#[37,115]⟩ l 1 m w' Q (Z7 hb hm hm) RN (by
     have:=Nat.mul_le_mul (Nat.le_trans sA hp) h2
     omega)
    rw[show(ByteArray.mk #[37,115]).data.toList=[37,115]from rfl,jpu]at this;exact this
   rw[jjv ⟨h1,h2⟩];rw[show(ByteArray.mk #[47]).data.toList=[47]from rfl]at hC;have dw:=jlz f.data.toList YX;rw[Rm]at dw;have hd:=Rm f;rcases Lib.index_spec f.data.toList [47]with⟨e1,_⟩|⟨i,e1,hi,sH,_⟩
   .rw[j3w e1]at hC
    rw[jvn e1];have aM:=λw' hb=>sk ⟨f.data.toList.toArray⟩ w' RO hb
    simp only at aM;generalize (jdf f.data.toList l.data.toList).toArray=x at *;generalize f.data.toList.toArray=d at *;clear sk e1 dw hd;unfold C;go_in;go_wp2_with fail;refine hC.mono ?_;rintro e w' ⟨rfl,n,rfl⟩;go_wp2_with fail;refine(aM _ (below_drewN (ZU _ _) _)).mono ?_;rintro e w' ⟨rfl,hb⟩;go_wp2;go_ret;exact⟨rfl,(below_drewN (ZU _ _) n).trans hb⟩
   .rw[j3x e1]at hC
    by_cases hs:YX=0
    .subst hs
     rw[j03 e1];have aM:=λw' hb=>sk ⟨(f.data.toList.take i).toArray⟩ w' RO hb
     simp only at aM;generalize (jdf (f.data.toList.take i) l.data.toList).toArray=x at *;generalize (f.data.toList.take i).toArray=d at *;generalize (f.data.toList.drop (i+1)).toArray=d2 at *;clear sk e1 dw hd;unfold C;go_in;go_wp2_with fail;refine hC.mono ?_;rintro e w' ⟨rfl,n,rfl⟩;go_wp2_with fail;refine(aM _ (below_drewN (ZU _ _) _)).mono ?_;rintro e w' ⟨rfl,hb⟩;go_wp2;go_ret;exact⟨rfl,(below_drewN (ZU _ _) n).trans hb⟩
    .rw[j02 e1 hs]
     have aM:=λw' hb=>sk ⟨(f.data.toList.drop (i+1)).toArray⟩ w' RO hb
     simp only at aM;generalize (jdf (f.data.toList.drop (i+1)) l.data.toList).toArray=x at *;generalize (f.data.toList.take i).toArray=d at *;generalize (f.data.toList.drop (i+1)).toArray=d2 at *;clear sk e1 dw hd;unfold C;go_in;go_wp2_with fail;refine hC.mono ?_;rintro e w' ⟨rfl,n,rfl⟩;go_wp2_with fail;refine(aM _ (below_drewN (ZU _ _) _)).mono ?_;rintro e w' ⟨rfl,hb⟩;go_wp2;go_ret;exact⟨rfl,(below_drewN (ZU _ _) n).trans hb⟩
  .rw[jsm Q]
   unfold C;go_in;go_wp2;go_ret;exact⟨rfl,ZU _ _⟩
 .rw[jsm Q]
  unfold C;go_in;go_wp2;go_ret;exact⟨rfl,ZU _ _⟩
def jb4:List Z5->ByteArray
 |[]=>⟨#[]⟩
 |h::t=>if h.YX=0 then h.ZR else jb4 t
theorem jjp{l:List Z5}(h:∀x∈l,x.YX≠0):jb4 l=⟨#[]⟩:=by
 induction l with
 |nil=>rfl
 |cons x l ih=>rw[jb4,if_neg (h x M)];exact ih λy hy=>h y (lmc _ hy)
theorem jo2{l:List Z5}{x:Z5}(hx:l[k]? =some x)(h0:x.YX=0)(hb:∀j y,j<k->l[j]? =some y->y.YX≠0):jb4 l=x.ZR:=by
 induction l generalizing k with
 |nil=>simp at hx
 | cons a l ih=>
  cases k with
  |zero=>simp at hx;subst hx;rw[jb4,if_pos h0]
  |succ k=>
   rw[jb4,if_neg (hb 0 a Q M)];exact ih (by simpa using hx) λj y hj hy=>hb (j+1) y Q (by simpa using hy)
def jdx(H:List Z5)(t:Int):Nat->Nat
 |0=>0
 |k+1=>match H[k]? with
  |some h=>if h.at_<=t then k+1 else jdx H t k
  |none=>jdx H t k
def hcnt(H:List Z5)(t:Int):Nat:=jdx H t H.length
theorem jtx(hh:H[k]? =some h)(ht:t<h.at_):jdx H t (k+1)=jdx H t k:=by rw[jdx,hh];simp only;rw[if_neg Q]
theorem jot(hh:H[k]? =some h)(ht:h.at_<=t):jdx H t (k+1)=k+1:=by rw[jdx,hh];simp only;rw[if_pos ht]
theorem jz1(H:List Z5)(t:Int):∀k,jdx H t k<=k:=by
 intro k
 induction k with
 |zero=>exact ZD _
 |succ k ih=>
  rw[jdx];split
  .split<;>omega
  .omega
theorem jwz(H:List Z5)(t:Int):hcnt H t<=H.length:=jz1 H t _
theorem jz0:∀{k:Nat},n<=k->(∀i h,n<=i->i<k->H[i]? =some h->t<h.at_)->jdx H t k=jdx H t n:=by
 intro k
 induction k with
 |zero=>intro h _;rw[Nat.le_zero.mp h]
 |succ k ih=>
  intro hn h;by_cases e:n=k+1
  .rw[e]
  .rw[jdx]
   split
   .rename_i x hx
    rw[if_neg (by have:=h k x Q Q hx;omega)];exact ih Q λi y h1 h2 h3=>h i y h1 Q h3
   .exact ih Q λi y h1 h2 h3=>h i y h1 Q h3
theorem jzz(h1:n<=H.length)(h2:∀i h,n<=i->H[i]? =some h->t<h.at_)(h3:∀m h,n=m+1->H[m]? =some h->h.at_<=t):hcnt H t=n:=by
 unfold hcnt;rw[jz0 h1 λi h hi _ hh=>h2 i h hi hh];cases n with
 |zero=>rfl
 |succ m=>
  obtain⟨x,hx⟩:∃x,H[m]? =some x:=⟨_,ZV Q⟩;exact jot hx (h3 m x rfl hx)
def jdd(H:List Z5):Nat->Z5
 |0=>⟨0,0,jb4 H⟩
 |m+1=>H[m]?.getD ⟨0,0,⟨#[]⟩⟩
def Mv(e:ZH)(H:List Z5)(t:Int):Z5:=if e.Vv.size=0 then⟨0,e.YX,⟨#[]⟩⟩else jdd H (hcnt H t)
theorem jjm(h:e.Vv.size=0):Mv e H t=⟨0,e.YX,⟨#[]⟩⟩:=if_pos h
theorem jen(h:¬e.Vv.size=0):Mv e H t=jdd H (hcnt H t):=if_neg h
def jdl(e:ZH)(F:Z5)(t:Int):ZK:=⟨t,e.Zq+F.YX,F.YX,jki e.mr F.ZR F.YX⟩
def yO(e:ZH)(H:List Z5)(t:Int):ZK:=jdl e (Mv e H t) t
def vck(e:ZH)(H:List Z5):Int:=if e.of.toList==[115]then e.ZO-e.Zq else if e.of.toList==[119]then e.ZO-e.Zq-(Mv e H (e.ZO-e.Zq-1)).YX else e.ZO
def OV(e:ZH)(H:List Z5)(b:Int):Int:=max b (min (vck e H) 253402300799)
def jd6(y x:ZK):Bool:=decide (y.Zq=x.Zq)&&(decide (y.YX=x.YX)&&(y.uh.toList==x.uh.toList))
theorem jtj(x:ZK):jd6 x x=true:=by simp[jd6]
def LP(T:List ZK)(x:ZK):List ZK:=match T.getLast? with
 |some y=>if jd6 y x=true then T else T++[x]
 |none=>T++[x]
theorem jef{y:ZK}(h:T.getLast? =some y)(hl:jd6 y x=true):LP T x=T:=by rw[LP,h];simp only;rw[if_pos hl]
theorem jms{y:ZK}(h:T.getLast? =some y)(hl:jd6 y x=false):LP T x=T++[x]:=by rw[LP,h];simp only;rw[if_neg (by rw[hl];simp)]
theorem juc(T:List ZK)(x:ZK):LP (LP T x) x=LP T x:=by
 have hn:LP (T++[x]) x=T++[x]:=jef (y:=x) M (jtj x);cases h:T.getLast? with
 |none=>
  have e:LP T x=T++[x]:=by rw[LP,h]
  rw[e,hn]
 |some y=>
  cases hl:jd6 y x
  .rw[jms h hl,hn]
  .rw[jef h hl,jef h hl]
theorem j0q(T:List ZK)(x:ZK):(LP T x).length<=T.length+1:=by
 unfold LP;split
 .split
  .omega
  .simp
 .simp
def GB(f:Int->ZK)(L:List Int)(T:List ZK):List ZK:=L.foldl (λT t=>LP T (f t)) T
theorem vc1(f:Int->ZK)(t:Int)(L:List Int)(T:List ZK):GB f (t::L) T=GB f L (LP T (f t)):=rfl
theorem jgk(f:Int->ZK)(t:Int)(L:List Int)(T:List ZK):GB f (L++[t]) T=LP (GB f L T) (f t):=by unfold GB;rw[List.foldl_append];rfl
theorem jec(f:Int->ZK):∀(L:List Int) (T:List ZK),(GB f L T).length<=T.length+L.length:=by
 intro L
 induction L with
 |nil=>intro T;simp[GB]
 |cons t L ih=>
  intro T;rw[vc1];have:=ih (LP T (f t));have:=j0q T (f t);simp only[List.length_cons];omega
theorem jt0(f:Int->ZK):∀{L A:List Int},L.Pairwise (· <= ·)->A.Pairwise (· < ·)->(∀t,t∈L↔t∈A)->∀T,GB f L T=GB f A T:=by
 intro L
 induction L with
 |nil=>
  intro A _ _ h T;cases A with
  |nil=>rfl
  |cons y A=>exact absurd ((h y).mpr M) M
 |cons x L ih=>
  intro A hL hA h T;cases A with
  |nil=>exact absurd ((h x).mp M) M
  |cons y A=>
   have km:=List.pairwise_cons.mp hL;have AO:=List.pairwise_cons.mp hA;have gI:x=y:=by
    have e1:x<=y:=by
     rcases List.mem_cons.mp ((h y).mpr M)with e|e
     .omega
     .exact km.1 y e
    have e2:y<=x:=by
     rcases List.mem_cons.mp ((h x).mp M)with e|e
     .omega
     .have:=AO.1 x e;omega
    omega
   subst gI;rw[vc1,vc1];by_cases hm:x∈L
   .have h2:∀t,t∈L↔t∈x::A:=λt=>by
     rw[<- h t,List.mem_cons];exact⟨.inr,λe=>e.elim (λe=>by rw[e];exact hm) id⟩
    rw[ih km.2 hA h2 (LP T (f x)),vc1,juc]
   .refine ih km.2 AO.2 (λt=>?_) _
    have ht:=h t;rw[List.mem_cons,List.mem_cons]at ht;constructor
    .intro hl
     rcases ht.mp (.inr hl)with e|e
     .rw[e]at hl;exact absurd hl hm
     .exact e
    .intro ha
     rcases ht.mpr (.inr ha)with e|e
     .have:=AO.1 t ha;omega
     .exact e
def JP:List Int->Int->List Int
 |[],n=>[n]
 |a::l,n=>if a<n then a::JP l n else if a=n then a::l else n::a::l
theorem vfw{n:Int}:∀{l:List Int},t∈JP l n↔t∈l\/t=n:=by
 intro l
 induction l with
 |nil=>simp[JP]
 |cons a l ih=>
  rw[JP];split
  .rw[List.mem_cons,ih,List.mem_cons,or_assoc]
  .split
   .rename_i h1 h2
    rw[List.mem_cons];constructor
    .exact .inl
    .rintro(e|e)
     .exact e
     .left;omega
   .rw[List.mem_cons]
    constructor
    .rintro(e|e)
     .exact .inr e
     .exact .inl e
    .rintro(e|e)
     .exact .inr e
     .exact .inl e
theorem j2f{n:Int}:∀{l:List Int},l.Pairwise (· < ·)->(JP l n).Pairwise (· < ·):=by
 intro l
 induction l with
 |nil=>intro _;simp[JP]
 |cons a l ih=>
  intro h;have h':=List.pairwise_cons.mp h;rw[JP];split
  .rename_i ha
   refine List.pairwise_cons.mpr ⟨λt ht=>?_,ih h'.2⟩;rcases vfw.mp ht with e|e
   .exact h'.1 t e
   .omega
  .split
   .exact h
   .rename_i h1 h2
    refine List.pairwise_cons.mpr ⟨λt ht=>?_,h⟩;rcases List.mem_cons.mp ht with e|e
    .omega
    .have:=h'.1 t e;omega
def vaG(b:Int)(X:List Int):List Int:=X.foldl JP [b]
theorem jsk{X:List Int}(h:A.Pairwise (· < ·)):(X.foldl JP A).Pairwise (· < ·)/\∀t,t∈X.foldl JP A↔t∈A\/t∈X:=by
 induction X generalizing A with
 |nil=>exact⟨h,λt=>M⟩
 |cons x X ih=>
  have⟨h1,h2⟩:=ih (j2f (n:=x) h);refine⟨h1,λt=>?_⟩;rw[List.foldl_cons,h2 t,vfw,List.mem_cons,or_assoc]
theorem jzq(l:List Int)(n:Int):(JP l n).length<=l.length+1:=by
 induction l with
 |nil=>simp[JP]
 |cons a l ih=>
  rw[JP];split
  .simp only[List.length_cons];omega
  .split<;>simp
theorem jjs(b:Int)(X:List Int):(vaG b X).length<=X.length+1:=by
 unfold vaG;have:∀(X A:List Int),(X.foldl JP A).length<=A.length+X.length:=by
  intro X
  induction X with
  |nil=>intro A;simp
  |cons x X ih=>intro A;rw[List.foldl_cons];have:=ih (JP A x);have:=jzq A x;simp only[List.length_cons];omega
 have:=this X [b];simp at this;omega
def yM(H:List Z5)(b e:Int):List Int:=(H.map Z5.at_).filter λt=>decide (b<t)&&decide (t<e)
theorem jks(f:Int->ZK){H:List Z5}{b e:Int}{L:List Int}(h1:L.Pairwise (· <= ·))(h2:L.Perm (b::yM H b e))(T:List ZK):GB f L T=GB f (vaG b (yM H b e)) T:=by
 have h:=jsk (X:=yM H b e) (A:=[b]) M;refine jt0 f h1 h.1 (λt=>?_) T;rw[h2.mem_iff,List.mem_cons,h.2 t,List.mem_singleton]
def Gr:List Z5->List Int
 |[]=>[]
 |h::t=>min ((Gr t).headD 253402300799) h.at_::Gr t
theorem jcc:∀H:List Z5,(Gr H).length=H.length
 |[]=>rfl
 |h::t=>by rw[Gr,List.length_cons,List.length_cons,jcc t]
def D4(E:List Int)(k:Nat):Int:=E[k]?.getD 253402300799
theorem jip(h:E.length<=k):D4 E k=253402300799:=by unfold D4;rw[List.getElem?_eq_none h];rfl
theorem jdm(h:E[k]? =some t):D4 E k=t:=by unfold D4;rw[h];rfl
theorem vcO:∀{H:List Z5} {k:Nat} {h:Z5},H[k]? =some h->(Gr H)[k]? =some (min (D4 (Gr H) (k+1)) h.at_)
 |[],k,h,hh=>by simp at hh
 |a::t,0,h,hh=>by
  simp at hh;subst hh;rw[Gr,List.getElem?_cons_zero]
  congr 2
  unfold D4;rw[List.getElem?_cons_succ];cases Gr t<;>rfl
 |a::t,k+1,h,hh=>by
  rw[List.getElem?_cons_succ]at hh;rw[Gr,List.getElem?_cons_succ,vcO hh]
  congr 2
theorem jzl(hk:k<H.length):D4 (Gr H) k<=D4 (Gr H) (k+1):=by
 have⟨x,hx⟩:=DV hk;rw[jdm (vcO hx)];omega
theorem jrx:∀{j:Nat},i<=j->j<=H.length->D4 (Gr H) i<=D4 (Gr H) j:=by
 intro j
 induction j with
 |zero=>intro h _;rw[Nat.le_zero.mp h];exact Int.le_refl _
 | succ j ih=>
  intro h hj;by_cases e:i=j+1
  .rw[e];exact Int.le_refl _
  .have:=ih Q Q
   have:=jzl (H:=H) (k:=j) Q;omega
theorem jwe(hH:∀h∈H,h.at_<=253402300799)(h1:m<=H.length)(h2:∀i,i<m->¬t<D4 (Gr H) i)(h3:∀i,m<=i->i<H.length->t<D4 (Gr H) i):hcnt H t=m:=by
 refine jzz h1 (λi h hi hh=>?_) (λk h e hh=>?_)
 .have i7:=(pO hh).1
  have:=h3 i hi i7;rw[jdm (vcO hh)]at this;omega
 .have eY:=(pO hh).1
  have h4:=h2 k Q;rw[jdm (vcO hh)]at h4;have h5:=hH h (ui hh);rcases Nat.lt_or_ge (k+1) H.length with e1|e1
  .have:=h3 (k+1) Q e1
   omega
  .rw[jip (by rw[jcc];exact e1)]at h4
   omega
def Jc(w:World)(g:Nat)(E:List Int)(k:Nat):Prop:=∀i t,k<=i->E[i]? =some t->w.cell? (O g i)=some (J t)
theorem Jc.below(h:Jc w g E k)(hb:Bw w w'):Jc w' g E k:=λi t hk hi=>YR hb (h i t hk hi)
theorem Jc.set(h:Jc w g E (k+1))(hR:Zg w g m)(hk:k<m)(ht:E[k]? =some t):Jc (w.setCell (O g k) (J t)) g E k:=λi u hi hu=>by
 by_cases e:i=k
 .subst e
  rw[ht]at hu;injection hu with hu
  subst hu;have⟨⟨v,hv⟩,_⟩:=hR i hk;exact Bf _ _ _ hv
 .rw[ZT _ _ _ _ (λh=>e (by injection h with _ h1;exact h1.symm))]
  exact h i u Q hu
theorem jwo:∃i:TypeInfo,Tryz.prog.info? 2=some i/\i.zero=some (J 0)/\i.size=1/\i.bytes=8:=⟨_,rfl,rfl,rfl,rfl⟩
theorem jgf(H:List Z5)(a:Option Addr)(ca:Nat)(w:World)(hA:Za w a 3 (H.map Z5.cs))(hl:H.length<=2000):
  C 283 #[U a H.length ca] w λe w'=>e=V (U (some (O w.heap.size 0)) H.length H.length)/\Jc w' w.heap.size (Gr H) 0/\Bw w w':=by
 have⟨i0,hi,aG,aH,aF⟩:=jwo;have⟨w1,dk,ai,dp⟩:=run_make_full (P:=Tryz.prog) w w.heap.size 90 2 i0 _ 1 Tryz.underlying90 hi aG aH .i64 .i64 H.length (by rw[aF];omega) (by unfold maxLen;omega) (ZD _);have hR:=jd4 ai;rw[Nat.mul_one]at hR;have hB:Bw w w1:=(ZU _ _).grown dp (ZD _) (λk hk=>by cases hk);have HE:=@vcO H;have lc:Hid (∀(k:Nat) (h:Z5),H[k]? =some h->(Gr H)[k]? =some (min (D4 (Gr H) (k+1)) h.at_)):=λk h hh=>HE hh
 have h0:D4 (Gr H) H.length=253402300799:=jip (by rw[jcc];exact ZD _);have tL:Jc w1 w.heap.size (Gr H) H.length:=λi t h1 h2=>by have:=(pO h2).1;rw[jcc]at this;omega
 clear HE;generalize Gr H=E at *;clear hi aG aH aF ai dp;unfold C;go_in;go_wp2;go_loopw [4,5] (λs4 s5 wr=>∃m:Nat,m<=H.length/\s4=J (D4 E m)/\s5=J ((m:Int)-1)/\Jc wr w.heap.size E m/\Zg wr w.heap.size H.length/\Bw w wr) (λ_ s5 _=>(intOf s5+1).toNat)
 .exact⟨H.length,ZD _,by rw[h0],rfl,tL,hR,hB⟩
 ·
  clear hR hB dk h0 tL;obtain⟨m,hm,rfl,gG,hL,hR,hB⟩:=hrel;cases m with
  |zero=>
   subst gG;go_wp2;go_ret;exact⟨rfl,hL,hB⟩
  |succ k=>
   rw[show(((k+1:Nat):Int)-1)=(k:Int) by omega]at gG;subst gG;obtain⟨x,hx⟩:∃x,H[k]? =some x:=⟨_,ZV Q⟩;obtain⟨b,o,rfl,hc⟩:=(hA.below hB).at (i:=k) (r:=x.cs) (by rw[Z8,hx];rfl);have c0:wr.cell? (O b (o+k*3))=some (J x.at_):=hc 0 _ rfl;have hE:=lc.out k x hx;have HL:Hid (D4 E k=min (D4 E (k+1)) x.at_):=jdm hE;have nY:=hL.set hR Q hE;have aM:=hR.set (O w.heap.size k) (J (min (D4 E (k+1)) x.at_));have an:Bw w (wr.setCell (O w.heap.size k) (J (min (D4 E (k+1)) x.at_))):=hB.setCell (ZD _) _;have⟨⟨u0,iR⟩,gC⟩:=hR k Q;have eY:(k:Int)<(H.length:Int):=Q;clear hc hx hE hL hR;generalize D4 E (k+1)=t at *;go_wp2;go_roundw
   .exact⟨k,Q,by rw[HL.out],Si,nY,aM,an⟩
   .simp[intOf]
theorem jhj(H:List Z5)(a:Option Addr)(ca:Nat)(w:World)(hA:Za w a 3 (H.map Z5.cs))(hl:H.length<=2000):
  C 287 #[U a H.length ca] w λe w'=>e=V (I (jb4 H))/\Bw w w':=by
 have HA:Hid (∀(k:Nat) (x:Z5),H[k]? =some x->x.YX=0->(∀j y,j<k->H[j]? =some y->y.YX≠0)->jb4 H=x.ZR):=λk x h1 h2 h3=>jo2 h1 h2 h3
 have HN:Hid ((∀j y,j<H.length->H[j]? =some y->y.YX≠0)->jb4 H=⟨#[]⟩):=λh=>jjp λx hx=>by
  have⟨j,hj⟩:=lgo hx;exact h j x (pO hj).1 hj
 generalize jb4 H=R at *;unfold C;go_in;go_wp2;go_loopw [7] (λs wr=>∃k:Nat,k<=H.length/\s=J k/\Hid (∀j y,j<k->H[j]? =some y->y.YX≠0)/\Bw w wr) (λs _=>H.length-(intOf s).toNat)
 .exact⟨0,Q,rfl,λj y h=>Q,ZU _ _⟩
 ·
  obtain⟨k,hk,rfl,hN,hB⟩:=hrel;have dI:=hB.size;by_cases hlt:k<H.length
  .have⟨x,hx⟩:=DV hlt
   obtain⟨b,o,rfl,hc⟩:=(hA.below hB).at (i:=k) (r:=x.cs) (by rw[Z8,hx];rfl);have c0:wr.cell? (O b (o+k*3))=some (J x.at_):=hc 0 _ rfl;have c1:=hc 1 _ rfl;have c2:=hc 2 _ rfl;have eY:(k:Int)<(H.length:Int):=Q;have an:=hB.alloc dI (G #[J x.at_,J x.YX,I x.ZR] 223);by_cases h0:x.YX=0
   .have HR:Hid (R=x.ZR):=HA.out k x hx h0 hN.out
    rw[h0]at an c1;clear hc hx hN;go_wp2;go_ret;exact⟨vcb HR.out.symm,an⟩
   .have HR:Hid (∀j y,j<k+1->H[j]? =some y->y.YX≠0):=λj y hj hy=>by
     by_cases e:j=k
     .subst e;rw[hx]at hy;injection hy with hy;subst hy;exact h0
     .exact hN.out j y Q hy
    clear hc hx hN;go_wp2;go_roundw
    .exact⟨k+1,Q,RP,HR,an⟩
    .simp[intOf];omega
  .have HR:Hid (R=⟨#[]⟩):=HN.out λj y hj hy=>hN.out j y Q hy
   have eY:¬(k:Int)<(H.length:Int):=Q;go_wp2;go_ret;exact⟨vcb HR.out.symm,hB⟩
theorem jqm(E:List Int)(g n pe pa i:Nat)(t:Int)(w:World)(hL:Jc w g E 0)(hE:E.length=n)(hi:i<n)(he:w.cell? (O pe 0)=some (U (some (O g 0)) n n))(ha:w.cell? (O pa 0)=some (J t)):
  C 286 #[J i,.pointer (some (O pe 0)),.pointer (some (O pa 0))] w λe w'=>e=V (.bool (decide (t<D4 E i)))/\Bw w w':=by
 obtain⟨x,hx⟩:∃x,E[i]? =some x:=⟨_,ZV Q⟩;have c0:w.cell? (O g i)=some (J x):=hL i x Q hx;rw[jdm hx];have hin:(i:Int)<(n:Int):=Q;clear hx hL hE hi;unfold C;go_in;go_wp2_with fail;go_quiet (fail);go_wp2;go_ret;exact⟨rfl,below_drewN (ZU _ _) _⟩
theorem jnd(H:List Z5)(g pe pa:Nat)(t:Int)(w:World)(hL:Jc w g (Gr H) 0)(hH:∀h∈H,h.at_<=253402300799)(hl:H.length<=2000)(he:w.cell? (O pe 0)=some (U (some (O g 0)) H.length H.length))(ha:w.cell? (O pa 0)=some (J t)):
  C 285 #[J H.length,.func (.func 286) #[] #[.pointer (some (O pe 0)),.pointer (some (O pa 0))]] w λe w'=>e=V (J (hcnt H t))/\Bw w w':=by
 have HC:Hid (∀m,m<=H.length->(∀i,i<m->D4 (Gr H) i<=t)->(∀i,m<=i->i<H.length->t<D4 (Gr H) i)->hcnt H t=m):=λm h1 h2 h3=>jwe hH h1 (λi hi=>by have:=h2 i hi;omega) h3
 have HM:Hid (∀a b,a<=b->b<H.length->t<D4 (Gr H) a->t<D4 (Gr H) b):=λa b h1 h2 h3=>by have:=jrx (H:=H) h1 Q;omega
 have lZ:=jcc H;generalize hcnt H t=c at *;clear hH;generalize Gr H=E at *;unfold C;go_in;go_wp2;go_loopw [5,6] (λs5 s6 wr=>∃lo hi:Nat,lo<=hi/\hi<=H.length/\s5=J lo/\s6=J hi/\Hid (∀i,i<lo->D4 E i<=t)/\Hid (∀i,hi<=i->i<H.length->t<D4 E i)/\Bw w wr) (λs5 s6 _=>(intOf s6).toNat-(intOf s5).toNat)
 .exact⟨0,H.length,Q,Q,rfl,rfl,λt ht=>Q,λt h1 h2=>Q,ZU _ _⟩
 ·
  obtain⟨lo,hi,P5,FX,rfl,rfl,h1,h2,hB⟩:=hrel;by_cases hlt:lo<hi
  .have hS:=jqm E g H.length pe pa ((lo+hi) / 2) t wr (hL.below hB) lZ Q (YR hB he) (YR hB ha)
   rw[show(((lo+hi) / 2:Nat):Int)=((lo:Int)+(hi:Int)) / 2 by omega]at hS;by_cases hp:t<D4 E ((lo+hi) / 2)
   .have HR:Hid (∀i,(lo+hi) / 2<=i->i<H.length->t<D4 E i):=λi ha hb=>HM.out _ i ha hb hp
    rw[rT hp]at hS;clear hp;go_wp2_with fail;refine hS.mono ?_;rintro e w2 ⟨rfl,ac⟩;go_wp2;go_roundw
    .exact⟨lo,(lo+hi) / 2,Q,Q,rfl,by rw[show((lo:Int)+(hi:Int)) / 2=(((lo+hi) / 2:Nat):Int) by omega],h1,HR,(Zp hB ac)⟩
    .simp[intOf];omega
   .have HR:Hid (∀i,i<(lo+hi) / 2+1->D4 E i<=t):=λi FY=>Int.not_lt.mp λhc=>hp (HM.out i ((lo+hi) / 2) Q Q hc)
    rw[dfe hp]at hS;clear hp;go_wp2_with fail;refine hS.mono ?_;rintro e w2 ⟨rfl,ac⟩;go_wp2;go_roundw
    .exact⟨(lo+hi) / 2+1,hi,Q,FX,by rw[show((lo:Int)+(hi:Int)) / 2+1=(((lo+hi) / 2+1:Nat):Int) by omega],rfl,HR,h2,(Zp hB ac)⟩
    .simp[intOf];omega
  .obtain rfl:hi=lo:=Q
   have HR:Hid (c=hi):=HC.out hi FX h1.out h2.out;go_wp2;go_ret;exact⟨Fh (by rw[HR.out]),hB⟩
theorem jc8(h0:w.cell? (O b 0)=some x0)(h1:w.cell? (O b 1)=some x1)(h2:w.cell? (O b 2)=some x2):
  (((w.setCell (O b 0) v0).setCell (O b 1) v1).setCell (O b 2) v2).cell? (O b 0)=some v0/\(((w.setCell (O b 0) v0).setCell (O b 1) v1).setCell (O b 2) v2).cell? (O b 1)=some v1/\(((w.setCell (O b 0) v0).setCell (O b 1) v1).setCell (O b 2) v2).cell? (O b 2)=some v2:=by
 refine⟨?_,?_,?_⟩
 .rw[ZT _ _ _ _ M,ZT _ _ _ _ M,Bf _ _ _ h0]
 .rw[ZT _ _ _ _ M]
  refine Bf _ _ _ (u:=x1) ?_;rw[ZT _ _ _ _ M];exact h1
 .refine Bf _ _ _ (u:=x2) ?_
  rw[ZT _ _ _ _ M,ZT _ _ _ _ M];exact h2
theorem jqq(pz:Nat)(t s:Int)(w:World)(hz:w.cell? (O pz 2)=some (J s)):
  C 282 #[J t,.pointer (some (O pz 0))] w λe w'=>e=V (Z5.v ⟨0,s,⟨#[]⟩⟩)/\Bw w w':=by
 have aH:=YR (ZA w (G #[J 0,J 0,Rn] 223)) hz;simp only[Z5.v];unfold C;go_in;go_wp2;exact ZM (v:=.agg #[J 0,J s,Rn]) (by simp[results,Tryz.results282,go_sem]) rfl ⟨rfl,ZA _ _⟩
theorem jqp(H:List Z5)(a:Option Addr)(ca g ph pe:Nat)(t:Int)(w:World)(hA:Za w a 3 (H.map Z5.cs))(hL:Jc w g (Gr H) 0)(hH:∀h∈H,h.at_<=253402300799)(hl:H.length<=2000)(hh:w.cell? (O ph 0)=some (U a H.length ca))(he:w.cell? (O pe 0)=some (U (some (O g 0)) H.length H.length)):
  C 284 #[J t,.pointer (some (O ph 0)),.pointer (some (O pe 0))] w λe w'=>e=V (jdd H (hcnt H t)).v/\Bw w w':=by
 have ag:=(ZA w (G #[J t] 2)).alloc M (G #[J 0,J 0,Rn] 223);have hF:=λw (h:Za w a 3 (H.map Z5.cs))=>jhj H a ca w h hl
 have hc:=jwz H t;have h0:=YR ag hh;have h1:=YR ag he;have ha:((w.alloc (G #[J t] 2)).alloc (G #[J 0,J 0,Rn] 223)).cell? (O w.heap.size 0)=some (J t):=RQ;have hS:=jnd H g pe w.heap.size t ((w.alloc (G #[J t] 2)).alloc (G #[J 0,J 0,Rn] 223)) (hL.below ag) hH hl h1 ha;have⟨m,hm⟩:=ZL (hcnt H t);rw[hm]at hS hc ⊢;clear hm hH hL;unfold C;go_in;go_wp2_with fail;refine hS.mono ?_;rintro e w1 ⟨rfl,hb1⟩;have⟨aX,dg⟩:=Z4 hb1;have aj:=ag.trans (hb1.mono RO);have r0:w1.cell? (O (w.heap.size+1) 0)=some (J 0):=(aX _ _ M).trans RQ;have r1:w1.cell? (O (w.heap.size+1) 1)=some (J 0):=(aX _ _ M).trans RQ;have r2:w1.cell? (O (w.heap.size+1) 2)=some (Rn):=(aX _ _ M).trans RQ;have f0:w1.frozen? (O (w.heap.size+1) 0)=false:=(dg _ _ M).trans RQ;have f1:w1.frozen? (O (w.heap.size+1) 1)=false:=(dg _ _ M).trans RQ;have f2:w1.frozen? (O (w.heap.size+1) 2)=false:=(dg _ _ M).trans RQ;have y0:=YR aj hh;clear aX dg hb1 hS ha h0 h1;cases m with
 |zero=>
  go_wp2_with fail;refine(hF _ (hA.below aj)).mono ?_;rintro e w2 ⟨rfl,ac⟩;have⟨cU,eE⟩:=Z4 ac;have an:=Zp aj ac;have q0:=YR ac r0;have q1:=YR ac r1;have q2:=YR ac r2;have e0:=(eE _ _ (ZI r0)).trans f0;have e1:=(eE _ _ (ZI r1)).trans f1;have e2:=(eE _ _ (ZI r2)).trans f2;have⟨s0,s1,s2⟩:=jc8 (v0:=J 0) (v1:=J 0) (v2:=I (jb4 H)) q0 q1 q2;clear cU eE ac r0 r1 r2 f0 f1 f2;go_wp2;exact ZM (v:=.agg #[J 0,J 0,I (jb4 H)]) (by simp[results,Tryz.results284,go_sem,s0,s1,s2]) rfl ⟨rfl,((an.setCell (vQs _) _).setCell (vQs _) _).setCell (vQs _) _⟩
 |succ m=>
  obtain⟨x,hx⟩:∃x,H[m]? =some x:=⟨_,ZV Q⟩;obtain⟨b,o,rfl,fx⟩:=(hA.below aj).at (i:=m) (r:=x.cs) (by rw[Z8,hx];rfl);have c0:w1.cell? (O b (o+m*3))=some (J x.at_):=fx 0 _ rfl;have c1:=fx 1 _ rfl;have c2:=fx 2 _ rfl;have HR:Hid (jdd H (m+1)=x):=by simp only[Hid,jdd];rw[hx];rfl
  have⟨s0,s1,s2⟩:=jc8 (v0:=J x.at_) (v1:=J x.YX) (v2:=I x.ZR) r0 r1 r2;have P9:(m:Int)<(H.length:Int):=Q;clear fx hx;go_wp2;exact ZM (v:=.agg #[J x.at_,J x.YX,I x.ZR]) (by simp[results,Tryz.results284,go_sem,s0,s1,s2]) rfl ⟨by rw[HR.out];rfl,((aj.setCell (vQs _) _).setCell (vQs _) _).setCell (vQs _) _⟩
def Mid(n0 n1:Nat)(w W:World):Prop:=∀b,n0<=b->b<n1->W.heap[b]? =w.heap[b]?
theorem Mid.refl(n0 n1:Nat)(w:World):Mid n0 n1 w w:=λ_ _ _=>rfl
theorem Mid.trans{W':World}(h:Mid n0 n1 w W)(h':Mid n0 n1 W W'):Mid n0 n1 w W':=λb h1 h2=>(h' b h1 h2).trans (h b h1 h2)
theorem Mid.of_below(h:Bw w W)(hn:n1<=w.heap.size):Mid n0 n1 w W:=λb _ h2=>h.block b Q
theorem Mid.cell(h:Mid n0 n1 w W){b o:Nat}{v:Value}(h1:n0<=b)(h2:b<n1)(hc:w.cell? (O b o)=some v):W.cell? (O b o)=some v:=(World.cell?_of_block (a:=(O b o)) (h b h1 h2)).trans hc
theorem Za.mid{a:Option Addr}{q:Nat}{rows:List (List Value)}(h:Za w a q rows)(hm:Mid n0 n1 w W)(ha:∀b o,a=some (O b o)->n0<=b/\b<n1):Za W a q rows:=by
 rcases h with h|⟨b,o,rfl,h⟩
 .exact .inl h
 .have⟨h1,h2⟩:=ha b o rfl
  exact .inr ⟨b,o,rfl,λi j r c hi hj=>hm.cell h1 h2 (h i j r c hi hj)⟩
structure Ju(w:World)(n0 n1 K:Nat)(cap:Array Value)(e:ZH)(H:List Z5):Prop where
 go:∀(args:Array Value) (W:World),(callFunc K args).run Tryz.prog W=.ok (.enter K args) W
 tell:∀(W:World) (t:Int),Mid n0 n1 w W->C K (#[J t]++cap) W λr W'=>r=V (Mv e H t).v/\Bw W W'
theorem Ju.mid{K:Nat}{cap:Array Value}(h:Ju w n0 n1 K cap e H)(hb:Mid n0 n1 w w'):Ju w' n0 n1 K cap e H:=⟨h.go,λW t hB=>h.tell W t (hb.trans hB)⟩
theorem jom(e:ZH)(H:List Z5)(a:Option Addr)(ca n0:Nat)(w:World)(hA:Za w a 3 (H.map Z5.cs))(ha:∀b o,a=some (O b o)->n0<=b/\b<w.heap.size)(hn:n0<=w.heap.size)(hH:∀h∈H,h.at_<=253402300799)(hl:H.length<=2000):
  C 265 #[e.v,U a H.length ca] w λr W'=>∃K cap,r=V (.func (.func K) #[] cap)/\Ju W' n0 W'.heap.size K cap e H/\Bw w W':=by
 have hE:=λw (h:Za w a 3 (H.map Z5.cs))=>jgf H a ca w h hl
 have ag:=(ZA w (G #[J e.Zq,I e.Vv,J e.YX,I e.mr,J e.ZO,I e.of] 154)).alloc M (G #[U a H.length ca] 218);obtain⟨z0,z1⟩:(λz:World=>z.cell? (O w.heap.size 2)=some (J e.YX)/\z.cell? (O (w.heap.size+1) 0)=some (U a H.length ca)) ((w.alloc (G #[J e.Zq,I e.Vv,J e.YX,I e.mr,J e.ZO,I e.of] 154)).alloc (G #[U a H.length ca] 218)):=RQ;by_cases h0:e.Vv.size=0
 .have hr:e.Vv=⟨#[]⟩:=jf1 (l:=[]) (by rw[<- List.length_eq_zero_iff,Rm];exact h0)
  have HF:Hid (Ju ((w.alloc (G #[J e.Zq,I e.Vv,J e.YX,I e.mr,J e.ZO,I e.of] 154)).alloc (G #[U a H.length ca] 218)) n0 ((w.alloc (G #[J e.Zq,I e.Vv,J e.YX,I e.mr,J e.ZO,I e.of] 154)).alloc (G #[U a H.length ca] 218)).heap.size 282 #[.pointer (some (O w.heap.size 0))] e H):=⟨λ_ _=>RG,λW t hB=>by
   rw[jjm h0]
   exact jqq w.heap.size t e.YX W (hB.cell hn RO z0)⟩
  rw[hr]at HF ag;clear h0 z0 z1;unfold ZH.v;unfold C;go_in;go_wp2;go_ret;exact⟨_,_,rfl,HF.out,ag⟩
 .have az:e.Vv.toList.isEmpty=false:=by
   cases h:e.Vv.toList with
   |nil=>exact absurd (by rw[vbh]at h;rw[<- Rm,h];rfl) h0
   |cons x l=>rfl
  have dP:((w.alloc (G #[J e.Zq,I e.Vv,J e.YX,I e.mr,J e.ZO,I e.of] 154)).alloc (G #[U a H.length ca] 218)).heap.size=w.heap.size+1+1:=M;have pB:=hE ((w.alloc (G #[J e.Zq,I e.Vv,J e.YX,I e.mr,J e.ZO,I e.of] 154)).alloc (G #[U a H.length ca] 218)) (hA.below ag);rw[dP]at pB;unfold ZH.v;unfold C;go_in;go_wp2_with fail;refine pB.mono ?_;rintro r w1 ⟨rfl,hL,hb1⟩;have aj:=ag.trans (hb1.mono Q);have y1:=YR (by first|exact hb1|(rw[dP];exact hb1)) z1;have ac:=ZA w1 (G #[U (some (O (w.heap.size+1+1) 0)) H.length H.length] 90);have an:=Zp aj ac;have x1:=YR ac y1;have x2:(w1.alloc (G #[U (some (O (w.heap.size+1+1) 0)) H.length H.length] 90)).cell? (O w1.heap.size 0)=some (U (some (O (w.heap.size+1+1) 0)) H.length H.length):=RQ;have cY:=hA.below an;have nY:=hL.below ac
  have HF:Hid (Ju (w1.alloc (G #[U (some (O (w.heap.size+1+1) 0)) H.length H.length] 90)) n0 (w1.alloc (G #[U (some (O (w.heap.size+1+1) 0)) H.length H.length] 90)).heap.size 284 #[.pointer (some (O (w.heap.size+1) 0)),.pointer (some (O w1.heap.size 0))] e H):=⟨λ_ _=>RG,λW t hB=>by
   rw[jen h0]
   exact jqp H a ca (w.heap.size+1+1) (w.heap.size+1) w1.heap.size t W (cY.mid hB λb o e=>by have:=ha b o e;have:=an.size;omega) (λi u hi hu=>hB.cell Q (ZI (nY i u hi hu)) (nY i u hi hu)) hH hl (hB.cell Q (ZI x1) x1) (hB.cell (by have:=aj.size;omega) (ZI x2) x2)⟩
  clear pB hE hL hb1 cY nY x1 x2 ac y1 z0 z1;go_wp2;go_ret;exact⟨_,_,rfl,HF.out,an⟩
theorem jqr(e:ZH)(H:List Z5)(n0 n1 K:Nat)(cap:Array Value)(b:Int)(w:World)(hF:Ju w n0 n1 K cap e H)(hn:n1<=w.heap.size)(h1: -62135596800<=e.ZO)(h2:e.ZO<=253402300799)(h3: -86400<=e.Zq)(h4:e.Zq<=86400)(h5:∀t, -7200<=(Mv e H t).YX/\(Mv e H t).YX<=7200):
  C 266 #[e.v,J b,.func (.func K) #[] cap] w λr W'=>r=V (J (OV e H b))/\Bw w W':=by
 have ag:=ZA w (G #[J e.Zq,I e.Vv,J e.YX,I e.mr,J e.ZO,I e.of] 154);cases hs:(e.of.toList==[115])
 .cases hw:(e.of.toList==[119])
  .have HR:Hid (OV e H b=max b (min e.ZO 253402300799)):=by simp only[Hid,OV,vck];rw[hs,hw];rfl
   unfold ZH.v;unfold C;go_in;go_wp2;go_ret;exact⟨Fh HR.out.symm,ag⟩
  .have HR:Hid (OV e H b=max b (min (e.ZO-e.Zq-(Mv e H (e.ZO-e.Zq-1)).YX) 253402300799)):=by simp only[Hid,OV,vck];rw[hs,hw];rfl
   have hC:=hF.tell _ (e.ZO-e.Zq-1) (Mid.of_below ag hn);have xZ:=hF.go;have h6:=h5 (e.ZO-e.Zq-1);generalize Mv e H (e.ZO-e.Zq-1)=F at *;have qA:∀w,(Instr.field 223 (.agg #[J F.at_,J F.YX,I F.ZR]) 1).run Tryz.prog w=.ok (J F.YX) w:=λ_=>RG
   unfold Z5.v at hC;unfold ZH.v;unfold C;go_in;go_wp2_with fail;refine hC.mono ?_;rintro r w1 ⟨rfl,hb1⟩;go_wp2;go_ret;exact⟨Fh HR.out.symm,ag.trans (hb1.mono M)⟩
 .have HR:Hid (OV e H b=max b (min (e.ZO-e.Zq) 253402300799)):=by simp only[Hid,OV,vck];rw[hs];rfl
  unfold ZH.v;unfold C;go_in;go_wp2;go_ret;exact⟨Fh HR.out.symm,ag⟩
theorem jfo{x3 v3:Value}(h0:w.cell? (O b 0)=some x0)(h1:w.cell? (O b 1)=some x1)(h2:w.cell? (O b 2)=some x2)(h3:w.cell? (O b 3)=some x3):
  ((((w.setCell (O b 0) v0).setCell (O b 1) v1).setCell (O b 2) v2).setCell (O b 3) v3).cell? (O b 0)=some v0/\((((w.setCell (O b 0) v0).setCell (O b 1) v1).setCell (O b 2) v2).setCell (O b 3) v3).cell? (O b 1)=some v1/\((((w.setCell (O b 0) v0).setCell (O b 1) v1).setCell (O b 2) v2).setCell (O b 3) v3).cell? (O b 2)=some v2/\((((w.setCell (O b 0) v0).setCell (O b 1) v1).setCell (O b 2) v2).setCell (O b 3) v3).cell? (O b 3)=some v3:=by
 refine⟨?_,?_,?_,?_⟩
 .rw[ZT _ _ _ _ M,ZT _ _ _ _ M,ZT _ _ _ _ M,Bf _ _ _ h0]
 .rw[ZT _ _ _ _ M,ZT _ _ _ _ M]
  refine Bf _ _ _ (u:=x1) ?_;rw[ZT _ _ _ _ M];exact h1
 .rw[ZT _ _ _ _ M]
  refine Bf _ _ _ (u:=x2) ?_;rw[ZT _ _ _ _ M,ZT _ _ _ _ M];exact h2
 .refine Bf _ _ _ (u:=x3) ?_
  rw[ZT _ _ _ _ M,ZT _ _ _ _ M,ZT _ _ _ _ M];exact h3
theorem ji2(e:ZH)(F:Z5)(t:Int)(w:World)(hM:MxA w)(hf:e.mr.size<=1048576)(hl:F.ZR.size<=1048576)(h3: -86400<=e.Zq)(h4:e.Zq<=86400)(h5: -7200<=F.YX)(h6:F.YX<=7200):
  C 269 #[e.v,J t,F.v] w λr W'=>r=V (jdl e F t).v/\Bw w W':=by
 have hA:=λw hM=>jqu e.mr F.ZR F.YX w hM hf hl
 have HR:Hid ((jdl e F t).v=.agg #[J t,J (e.Zq+F.YX),J F.YX,I (jki e.mr F.ZR F.YX)]):=rfl;generalize jki e.mr F.ZR F.YX=ab at *;generalize (jdl e F t).v=RV at *;have ag:=(((ZA w (G #[J e.Zq,I e.Vv,J e.YX,I e.mr,J e.ZO,I e.of] 154)).alloc M (G #[J F.at_,J F.YX,I F.ZR] 223)).alloc RO (G #[J 0,J 0,J 0,Rn] 195));obtain⟨k0,k3,l1,l2,r0,r1,r2,r3⟩:(λz:World=>z.cell? (O w.heap.size 0)=some (J e.Zq)/\z.cell? (O w.heap.size 3)=some (I e.mr)/\z.cell? (O (w.heap.size+1) 1)=some (J F.YX)/\z.cell? (O (w.heap.size+1) 2)=some (I F.ZR)/\z.cell? (O (w.heap.size+1+1) 0)=some (J 0)/\z.cell? (O (w.heap.size+1+1) 1)=some (J 0)/\z.cell? (O (w.heap.size+1+1) 2)=some (J 0)/\z.cell? (O (w.heap.size+1+1) 3)=some (Rn)) (((w.alloc (G #[J e.Zq,I e.Vv,J e.YX,I e.mr,J e.ZO,I e.of] 154)).alloc (G #[J F.at_,J F.YX,I F.ZR] 223)).alloc (G #[J 0,J 0,J 0,Rn] 195)):=RQ;have f0:∀j,j<4->(((w.alloc (G #[J e.Zq,I e.Vv,J e.YX,I e.mr,J e.ZO,I e.of] 154)).alloc (G #[J F.at_,J F.YX,I F.ZR] 223)).alloc (G #[J 0,J 0,J 0,Rn] 195)).frozen? (O (w.heap.size+1+1) j)=false:=λj hj=>RQ
 unfold ZH.v Z5.v;unfold C;go_in;go_wp2_with fail;generalize (((w.alloc (G #[J e.Zq,I e.Vv,J e.YX,I e.mr,J e.ZO,I e.of] 154)).alloc (G #[J F.at_,J F.YX,I F.ZR] 223)).alloc (G #[J 0,J 0,J 0,Rn] 195))=W at *;have bY:Bw w W.drew:=ag.trans ((rW W).mono ag.size);have JE:=hM.of_below bY;have gF:¬w.heap.size+1+1=w.heap.size:=Q;have vk:¬w.heap.size=w.heap.size+1+1:=Q;have KS:IntKind.i64.wrap (e.Zq+F.YX)=e.Zq+F.YX:=by rw[IntKind.wrap_i64];omega
 go_region_held3 (λw'=>w'.cell? (O w.heap.size 0)=some (J e.Zq)/\w'.cell? (O w.heap.size 3)=some (I e.mr)/\w'.cell? (O (w.heap.size+1) 1)=some (J F.YX)/\w'.cell? (O (w.heap.size+1) 2)=some (I F.ZR)) (go_keep) ((go_at_call 289;refine(hA _ JE).mono ?_;rintro r w4 ⟨rfl,hb⟩;have q0:=YR hb k0;have q3:=YR hb k3;have p1:=YR hb l1;have p2:=YR hb l2;have s0:=YR hb r0;have s1:=YR hb r1;have s2:=YR hb r2;have s3:=YR hb r3;have z0:w4.frozen? (O (w.heap.size+1+1) 0)=false:=((Z4 hb).2 _ _ (ZI r0)).trans (f0 0 Q);have z1:w4.frozen? (O (w.heap.size+1+1) 1)=false:=((Z4 hb).2 _ _ (ZI r0)).trans (f0 1 Q);have z2:w4.frozen? (O (w.heap.size+1+1) 2)=false:=((Z4 hb).2 _ _ (ZI r0)).trans (f0 2 Q);have z3:w4.frozen? (O (w.heap.size+1+1) 3)=false:=((Z4 hb).2 _ _ (ZI r0)).trans (f0 3 Q)))
 all_goals
  go_wp2;have hB:Bw w w4:=Zp bY hb;have⟨u0,u1,u2,u3⟩:=jfo (v0:=J t) (v1:=J (e.Zq+F.YX)) (v2:=J F.YX) (v3:=I ab) s0 s1 s2 s3;exact ZM (v:=.agg #[J t,J (e.Zq+F.YX),J F.YX,I ab]) (by simp[results,Tryz.results269,go_sem,u0,u1,u2,u3]) rfl ⟨by rw[HR.out],(((hB.setCell (show w.heap.size<=w.heap.size+1+1 by omega) _).setCell (show w.heap.size<=w.heap.size+1+1 by omega) _).setCell (show w.heap.size<=w.heap.size+1+1 by omega) _).setCell (show w.heap.size<=w.heap.size+1+1 by omega) _⟩
def Zf(w:World)(base:Nat)(v:Value)(T:List ZK):Prop:=w.ownsRow base 195 4 v T.length (T.map ZK.cs).flatten
theorem Zf.add(h:w.ownsRow base 195 4 v (T.length+1) ((T.map ZK.cs).flatten++x.cs)):Zf w base v (T++[x]):=by
 unfold Zf;rw[FB,MZ,List.flatten_append]
 simpa using h
theorem jsq{P:List ZK}:∀r∈P.map ZK.cs,r.length=4:=λr hr=>by
 obtain⟨x,_,rfl⟩:=List.mem_map.mp hr;rfl
theorem Zf.seq(h:Zf w base v T):∃a cap,v=.slice a T.length cap/\Za w a 4 (T.map ZK.cs):=by
 obtain⟨a,cap,h1,h2,h3⟩:=jbe (rows:=T.map ZK.cs) (by rw[BX];exact h) jsq;rw[BX]at h1;exact⟨a,cap,h1,h2⟩
theorem joe:(Tryz.prog.info? 195).map (λi=>(i.zero,i.size,i.bytes))=some (some (.agg #[J 0,J 0,J 0,Rn]),4,40):=RG
theorem jqz: ∃ a b c d e f g h i j k l, (Tryz.prog.fieldsOf 195).toList = [⟨ "At", 2, 0, false, a, b, c⟩, ⟨ "Offset", 2, 1, false, d, e, f⟩, ⟨ "Save", 2, 2, false, g, h, i⟩, ⟨ "Abbr", 9, 3, false, j, k, l⟩] := ⟨_, _, _, _, _, _, _, _, _, _, _, _, rfl⟩
theorem jse(t o1 s1 o2 s2:Int)(a1 a2:ByteArray)(w:World):(binOp .eql 195 (.agg #[J t,J o1,J s1,I a1]) (.agg #[J t,J o2,J s2,I a2])).run Tryz.prog w=.ok (.bool (jd6 ⟨t,o1,s1,a1⟩ ⟨t,o2,s2,a2⟩)) w:=by
 have ht:Tryz.prog.underlying 195=some (.struct (Tryz.prog.fieldsOf 195)):=RG;have hp:Tryz.prog.stoodInHeld 195=false:=RG;have⟨a,b,c,d,e,f,g,h,i,j,k,l,hf⟩:=jqz;rw[run_eql_struct,run_equalIn_agg _ 9999 _ _ _ ht hp,hf];simp[Op.eqFields,go_sem,jd6];by_cases h1:o1=o2
 .by_cases h2:s1=s2
  .simp[h1,h2]
   by_cases h3:a1.toList=a2.toList
   .simp[h3]
   .simp[h3]
  .simp[h1,h2]
 .simp[h1]
theorem jk3(x y:Operand)(v1 v2:Array Value)(w:World):(eqGuard .eql 195 x y (.agg v1) (.agg v2)).run Tryz.prog w=.ok () w:=run_eqGuard_agg w _ _ _ _ _ _ RG
theorem jfu(T:List ZK)(x:ZK)(v:Value)(base:Nat)(w:World)(hT:Zf w base v T)(hb:base<=w.heap.size)(hl:T.length<=100000):
  C 268 #[v,x.v] w λe W'=>∃v',e=V v'/\Zf W' base v' (LP T x)/\Fr (λb=>v.ownBlock=some b) w W'/\(v'.ownBlock=v.ownBlock\/∃g,v'.ownBlock=some g/\w.heap.size<=g):=by
 have⟨i0,hi,aG,aH,aF⟩:=info_parts joe;obtain⟨a,cap,rfl,hS⟩:=hT.seq;have ag:=ZA w (G #[J x.at_,J x.Zq,J x.YX,I x.uh] 195);cases hL:T.getLast? with
 | none=>
  have fv:T=[]:=by simpa using hL
  subst fv;have HR:Hid (LP [] x=[]++[x]):=rfl;have dv:Zf (w.alloc (G #[J x.at_,J x.Zq,J x.YX,I x.uh] 195)) base (U a 0 cap) []:=nO hT _;generalize LP [] x=R at *;unfold ZK.v;unfold C;go_in
  go_wp2_with (first
   |(at_builtin;refine wpList_append_lies _ rfl _ _ 156 rfl base 195 i0 (.agg #[J 0,J 0,J 0,.string ⟨#[]⟩]) 4 40 Tryz.underlying156 hi aG aH aF rfl RN _ _ _ rfl (nO dv _) ⟨w.heap.size+1,0,none⟩ 1 1 [J x.at_,J x.Zq,J x.YX,.string x.uh] rfl rfl ?c1 ?c2 RN ?c3 ?c4 ?c5 _ rfl ?_)
   |fail)
  case c1=>simpa using Ka (w.alloc (G #[J x.at_,J x.Zq,J x.YX,I x.uh] 195)) [J x.at_,J x.Zq,J x.YX,I x.uh] 195
  case c2=>intro u hu;simp at hu;rcases hu with rfl|rfl|rfl|rfl<;>rfl
  case c3=>unfold maxLen;simp
  case c4=>simp
  case c5=>simp;omega
  intro g1 aC w1 av af bE hlt1;have HO:Hid (Zf w1 base (U (some (O g1 0)) (0+1) aC) ([]++[x])):=Zf.add (T:=[]) av;have hF:Fr (λb=>(U a 0 cap).ownBlock=some b) w w1:=((Fr.of_below ag).trans (Fr.of_below (ZA _ _))).trans (Fr.vaT af);have dh:(U (some (O g1 0)) (0+1) aC).ownBlock=(U a 0 cap).ownBlock\/∃g,(U (some (O g1 0)) (0+1) aC).ownBlock=some g/\w.heap.size<=g:=bE.imp (λh=>h.symm) λh=>⟨g1,rfl,by rw[h];first|omega|(simp;omega)⟩
  clear av af bE hlt1 hT dv hS;go_wp2;go_ret;exact⟨_,rfl,by rw[HR.out];exact HO.out,hF,dh⟩
 |some y=>
  obtain⟨n,hn⟩:∃n,T.length=n+1:=by
   cases T with
   |nil=>simp at hL
   |cons z vZZ=>exact⟨vZZ.length,rfl⟩
  have hy:T[n]? =some y:=by rw[List.getLast?_eq_getElem?,hn]at hL;exact hL
  have⟨b,o,ha,hc⟩:=hS.at (i:=n) (r:=y.cs) (by rw[Z8,hy];rfl);subst ha;have c0:(w.alloc (G #[J x.at_,J x.Zq,J x.YX,I x.uh] 195)).cell? (O b (o+n*4))=some (J y.at_):=YR ag (hc 0 _ rfl);have c1:=YR ag (hc 1 _ rfl);have c2:=YR ag (hc 2 _ rfl);have c3:=YR ag (hc 3 _ rfl);have gg:=λw=>jse x.at_ y.Zq y.YX x.Zq x.YX y.uh x.uh w
  have C5:=jk3;have e1:jd6 ⟨x.at_,y.Zq,y.YX,y.uh⟩ ⟨x.at_,x.Zq,x.YX,x.uh⟩=jd6 y x:=rfl;rw[e1]at gg;have aj:Bw w (((w.alloc (G #[J x.at_,J x.Zq,J x.YX,I x.uh] 195)).alloc (G #[J y.at_,J y.Zq,J y.YX,I y.uh] 195)).setCell (O (w.heap.size+1) 0) (J x.at_)):=(ag.alloc M _).setCell (vQs _) _;have fH:(n:Int)<((n+1:Nat):Int):=Q;clear hc;rw[hn]at hT ⊢;cases hl:jd6 y x
  .have HR:Hid (LP T x=T++[x]):=jms hL hl
   rw[hl]at gg;have HT:Hid (w.ownsRow base 195 4 (U (some (O b o)) (n+1) cap) (n+1) (T.map ZK.cs).flatten):=by unfold Zf at hT;rw[hn]at hT;exact hT
   have HN:=hid hn;clear hl hL e1 hS hy hT;generalize LP T x=R at *;unfold ZK.v;unfold C;go_in
   go_wp2_with (first
    |(at_builtin;refine wpList_append_lies _ rfl _ _ 156 rfl base 195 i0 (.agg #[J 0,J 0,J 0,.string ⟨#[]⟩]) 4 40 Tryz.underlying156 hi aG aH aF rfl RN (.slice (some ⟨b,o,none⟩) (n+1) cap) (n+1) (T.map ZK.cs).flatten rfl ?d0 ⟨w.heap.size+1+1,0,none⟩ 1 1 [J x.at_,J x.Zq,J x.YX,.string x.uh] rfl rfl ?d1 ?d2 RN ?d3 ?d4 ?d5 _ rfl ?_)
    |fail)
   case d0=>exact nO (nO (nO HT.out _) _) _
   case d1=>simpa using Ka ((w.alloc (G #[J x.at_,J x.Zq,J x.YX,I x.uh] 195)).alloc (G #[J x.at_,J y.Zq,J y.YX,I y.uh] 195)) [J x.at_,J x.Zq,J x.YX,I x.uh] 195
   case d2=>intro u hu;simp at hu;rcases hu with rfl|rfl|rfl|rfl<;>rfl
   case d3=>unfold maxLen;omega
   case d4=>omega
   case d5=>simp;omega
   intro g1 aC w1 av af bE hlt1;have HO:Hid (Zf w1 base (U (some (O g1 0)) (n+1+1) aC) (T++[x])):=Zf.add (by rw[HN.out];exact av);have hF:Fr (λtj=>(U (some (O b o)) (n+1) cap).ownBlock=some tj) w w1:=(((Fr.of_below ag).trans (Fr.of_below (ZA _ _))).trans (Fr.of_below (ZA _ _))).trans (Fr.vaT af);have dh:(U (some (O g1 0)) (n+1+1) aC).ownBlock=(U (some (O b o)) (n+1) cap).ownBlock\/∃g,(U (some (O g1 0)) (n+1+1) aC).ownBlock=some g/\w.heap.size<=g:=bE.imp (λh=>h.symm) λh=>⟨g1,rfl,by rw[h];first|omega|(simp;omega)⟩
   clear av af bE hlt1;go_wp2;go_ret;exact⟨_,rfl,by rw[HR.out];exact HO.out,hF,dh⟩
  .have HR:Hid (LP T x=T):=jef hL hl
   rw[hl]at gg;have HT:Hid (Zf ((w.alloc (G #[J x.at_,J x.Zq,J x.YX,I x.uh] 195)).alloc (G #[J x.at_,J y.Zq,J y.YX,I y.uh] 195)) base (U (some (O b o)) (n+1) cap) T):=nO (nO hT _) _;have hF:Fr (λtj=>(U (some (O b o)) (n+1) cap).ownBlock=some tj) w ((w.alloc (G #[J x.at_,J x.Zq,J x.YX,I x.uh] 195)).alloc (G #[J x.at_,J y.Zq,J y.YX,I y.uh] 195)):=(Fr.of_below ag).trans (Fr.of_below (ZA _ _));clear hl hL e1 hS hy hT;generalize LP T x=R at *;unfold ZK.v;unfold C;go_in;go_wp2;go_ret;exact⟨_,rfl,by rw[HR.out];exact HT.out,hF,.inl rfl⟩
theorem j0v(h:A.Pairwise (· < ·)){i k:Nat}(oB:i<k){x y:Int}(hx:A[i]? =some x)(hy:A[k]? =some y):x<y:=by
 obtain⟨h1,rfl⟩:=pO hx;obtain⟨h2,rfl⟩:=pO hy;exact List.pairwise_iff_getElem.mp h i k h1 h2 oB
theorem jzr:∀{L:List Int} {n:Int},(∀x∈L,x<n)->JP L n=L++[n]:=by
 intro L
 induction L with
 |nil=>intro n _;rfl
 |cons x L ih=>
  intro n h;unfold JP;rw[if_pos (h x M),ih λy hy=>h y (lmc _ hy)];rfl
theorem jwm:∀{L:List Int} {n:Int} {k:Nat},(∀i x,i<k->L[i]? =some x->x<n)->L[k]? =some n->JP L n=L:=by
 intro L
 induction L with
 |nil=>intro n k _ h;simp at h
 | cons x L ih=>
  intro n k h hk;cases k with
  |zero=>
   simp at hk;subst hk;unfold JP;rw[if_neg Q,if_pos rfl]
  |succ k=>
   unfold JP;rw[if_pos (h 0 x Q rfl),ih (k:=k) (λi y hi hy=>h (i+1) y Q (by simpa using hy)) (by simpa using hk)]
theorem jzp:∀{L:List Int} {n:Int} {k:Nat} {y:Int},(∀i x,i<k->L[i]? =some x->x<n)->L[k]? =some y->n<y->JP L n=(L.take k++[n])++L.drop k:=by
 intro L
 induction L with
 |nil=>intro n k y _ h;simp at h
 | cons x L ih=>
  intro n k y h hk hy;cases k with
  |zero=>
   simp at hk;subst hk;unfold JP;rw[if_neg Q,if_neg Q];rfl
  |succ k=>
   unfold JP;rw[if_pos (h 0 x Q rfl),ih (k:=k) (y:=y) (λi z hi hz=>h (i+1) z Q (by simpa using hz)) (by simpa using hk) hy];rfl
theorem jmb:(Tryz.prog.info? 2).map (λi=>(i.zero,i.size,i.bytes))=some (some (J 0),1,8):=RG
def Zs(w:World)(base:Nat)(v:Value)(L:List Int):Prop:=w.ownsRow base 2 1 v L.length (L.map (Value.int .i64))
theorem Zs.add{vMM:List Int}(h:w.ownsRow base 2 1 v (L.length+vMM.length) (L.map (Value.int .i64)++vMM.map (Value.int .i64))):Zs w base v (L++vMM):=by
 unfold Zs;rw[FB,MZ];exact h
theorem Zs.open(h:Zs w base v L)(hn:0<L.length):∃g cap,v=.slice (some (O g 0)) L.length cap/\L.length<=cap/\g<w.heap.size/\base<=g/\∀(i:Nat) x,L[i]? =some x->w.cell? (O g i)=some (J x):=by
 rcases h.2 with⟨_,h0⟩|⟨g,cap,cur,hv,hb,hg,hc,_,_,_⟩
 .omega
 .refine⟨g,cap,hv,hc,(Array.getElem?_eq_some_iff.1 hg).1,hb,λi x hx=>?_⟩
  have h2:w.ownsRow base 2 1 (.slice (some (O g 0)) L.length cap) L.length (L.map (Value.int .i64)):=hv ▸ h;rw[h2.cellAt i (by have:=(pO hx).1;omega),Z8,hx];rfl
theorem jls(L:List Int)(v:Value)(n:Int)(base:Nat)(w:World)(ai:Zs w base v L)(BR:base<=w.heap.size)(h0:0<L.length)(h1:L.length<=100000)(jk:L.Pairwise (· < ·)):
  C 178 #[v,J n] w λe W'=>∃v',e=V v'/\Zs W' base v' (JP L n)/\Below base w W':=by
 have⟨i0,hi,aG,aH,aF⟩:=info_parts jmb;obtain⟨g,cap,rfl,eh,hg,jG,aE⟩:=ai.open h0;obtain⟨q,hq⟩:∃q,L.length=q+1:=⟨L.length-1,Q⟩;obtain⟨z,hz⟩:∃z,L[q]? =some z:=⟨_,ZV Q⟩;have cz:=aE q z hz;have HC:=hid aE;have HQ:=hid hq;have cr:∀x∈L,x<=z:=λx hx=>by
  have⟨i,hi⟩:=lgo hx;have i7:=(pO hi).1;by_cases e:i=q
  .subst e;rw[hz]at hi;obtain rfl:=Z9 hi;exact Int.le_refl _
  .have:=j0v jk (show i<q by omega) hi hz;omega
 have av:=ai;rw[hq]at av eh h1 ⊢;clear aE hq;have bq:IntKind.i64.wrap ((q:Int)+1-1)=q:=by rw[show(q:Int)+1-1=q by omega];exact wrap_small _ Q Q
 by_cases yl:z<n
 .have HE:Hid (JP L n=L++[n]):=jzr λx hx=>by have:=cr x hx;omega
  clear cr HC jk hz;unfold C;go_in
  go_wp2_with (first
   |(at_builtin;refine wpList_append_own _ rfl _ _ 90 rfl base 2 i0 (J 0) 1 8 Tryz.underlying90 hi aG aH aF rfl RN _ _ _ rfl (nO av _) ⟨w.heap.size,0,none⟩ 1 1 [J n] rfl rfl ?c1 ?c2 ?c3 ?c4 ?c5 ?_)
   |fail)
  case c1=>exact cell_one_new _ _ _
  case c2=>intro u hu;simp at hu;subst hu;rfl
  case c3=>have:=HQ.out;unfold maxLen;omega
  case c4=>have:=HQ.out;omega
  case c5=>simp;omega
  intro v' w1 ao af _;have aj:Below base w w1:=((ZU base w).alloc BR _).grown af RO (λj hj=>(av.lt j hj).1);have HO:Hid (Zs w1 base v' (JP L n)):=by simp only[Hid];rw[HE.out];exact Zs.add (vMM:=[n]) ao
  clear af ao ai av;go_wp2;go_ret;exact⟨_,rfl,HO.out,aj⟩
 .have Cq:n<=z:=Q
  unfold C;go_in;go_wp2;go_loopw [5] (λs wr=>∃k:Nat,k<=q/\s=J k/\Hid (∀i x,i<k->L[i]? =some x->x<n)/\wr=w) (λs _=>q+1-(intOf s).toNat)
  .exact⟨0,Q,rfl,λi x hi=>Q,rfl⟩
  ·
   obtain⟨k,hk,rfl,HS,hw⟩:=hrel;have hw:=hw.symm;subst hw;obtain⟨y,hy⟩:∃y,L[k]? =some y:=⟨_,ZV (by rw[HQ.out];omega)⟩;have cy:=HC.out k y hy;by_cases sO:y<n
   .have P4:k<q:=by
     by_cases e:k=q
     .subst e;rw[hz]at hy;obtain rfl:=Z9 hy;omega
     .omega
    have HR:Hid (∀i x,i<k+1->L[i]? =some x->x<n):=λi x hi hx=>by
     by_cases e:i=k
     .subst e;rw[hy]at hx;obtain rfl:=Z9 hx;exact sO
     .exact HS.out i x Q hx
    clear HS hy hz HC;go_wp2;go_roundw
    .exact⟨k+1,Q,RP,HR,trivial⟩
    .simp[intOf];omega
   .by_cases e:y=n
    .subst e
     have HE:Hid (JP L y=L):=jwm HS.out hy;clear HS hy hz HC;go_wp2;go_ret;exact⟨_,rfl,by rw[HE.out];exact av,ZU _ _⟩
    .have HE:Hid (JP L n=(L.take k++[n])++L.drop k):=jzp HS.out hy Q
     have ey:(y==n)=false:=by simpa using e
     have lk:(L.take k).length=k:=by rw[List.length_take,HQ.out];omega
     have ld:(L.drop k).length=q+1-k:=by rw[List.length_drop,HQ.out]
     have n1:∀j u,((L.take k).map (Value.int .i64))[j]? =some u->(w.alloc (G #[] 2)).cell? (((O g 0):Addr).add j)=some u:=λj u hj=>by
      rw[Z8]at hj;obtain⟨x,hx,rfl⟩:=Option.map_eq_some_iff.mp hj;have Cc:j<k:=by have:=(pO hx).1;omega
      rw[List.getElem?_take_of_lt Cc]at hx;rw[vby,Nat.zero_add];exact YR (ZA w _) (HC.out j x hx)
     have HD:Hid (∀w2,Bw w w2->∀j u,((L.drop k).map (Value.int .i64))[j]? =some u->w2.cell? (((O g k):Addr).add j)=some u):=λw2 hb j u hj=>by
      rw[Z8]at hj;obtain⟨x,hx,rfl⟩:=Option.map_eq_some_iff.mp hj;rw[List.getElem?_drop]at hx;rw[vby];exact YR hb (HC.out (k+j) x hx)
     have o1:∀u∈(L.take k).map (Value.int .i64),u.oneCell'=true:=λu hu=>by obtain⟨x,_,rfl⟩:=List.mem_map.mp hu;rfl
     have o2:∀u∈(L.drop k).map (Value.int .i64),u.oneCell'=true:=λu hu=>by obtain⟨x,_,rfl⟩:=List.mem_map.mp hu;rfl
     have hE:=ja5 w 2 1;have t1:((L.take k).map (Value.int .i64)).length=k*1:=by rw[BX,lk];omega
     have t2:((L.drop k).map (Value.int .i64)).length=(q+1-k)*1:=by rw[BX,ld];omega
     have iH:¬cap=k:=Q;have bk:(0:Int)<=(k:Int):=Q;have EL:(k:Int)<=(cap:Int):=Q;have Iq:(k:Int)<=(q:Int)+1:=Q;clear HS hy hz HC
     go_wp2_with (first
      |(at_builtin;refine wpList_append_own _ rfl _ _ 90 rfl w.heap.size 2 i0 (J 0) 1 8 Tryz.underlying90 hi aG aH aF rfl RN _ _ _ rfl hE ⟨g,0,none⟩ k cap ((L.take k).map (Value.int .i64)) rfl t1 n1 o1 ?d3 ?d4 ?d5 ?_)
      |fail)
     case d3=>unfold maxLen;omega
     case d4=>omega
     intro v1 w1 aw aP _;have aj:Bw w w1:=(ZA w _).grown aP M (λj hj=>(hE.lt j hj).1);obtain⟨a1,m1,c1,rfl⟩:=Dt aw;have bU:=aj.size;clear aP hE n1 o1
     go_wp2_with (first
      |(at_builtin;refine wpList_append_own _ rfl _ _ 90 rfl w.heap.size 2 i0 (J 0) 1 8 Tryz.underlying90 hi aG aH aF rfl RN _ _ _ rfl (nO aw _) ⟨w1.heap.size,0,none⟩ 1 1 [J n] rfl rfl ?e1 ?e2 ?e3 ?e4 ?e5 ?_)
      |fail)
     case e1=>exact cell_one_new _ _ _
     case e2=>intro u hu;simp at hu;subst hu;rfl
     case e3=>unfold maxLen;omega
     case e4=>omega
     case e5=>simp;omega
     intro v2 w2 aI aU _;have an:Bw w w2:=(aj.alloc aj.size _).grown aU RO (λj hj=>(aw.lt j hj).1);obtain⟨a2,m2,c2,rfl⟩:=Dt aI;have dR:=an.size;have n2:=HD.out w2 an;clear aU aw
     go_wp2_with (first
      |(at_builtin;refine wpList_append_own _ rfl _ _ 90 rfl w.heap.size 2 i0 (J 0) 1 8 Tryz.underlying90 hi aG aH aF rfl RN _ _ _ rfl aI ⟨g,k,none⟩ (q+1-k) (cap-k) ((L.drop k).map (Value.int .i64)) rfl t2 n2 o2 ?f3 ?f4 ?f5 ?_)
      |fail)
     case f3=>unfold maxLen;omega
     case f4=>omega
     case f5=>omega
     intro v3 w3 gj aJ _;have ax:Bw w w3:=an.grown aJ Q (λj hj=>(aI.lt j hj).1);have HO:Hid (Zs w3 base v3 (JP L n)):=by
      simp only[Hid];rw[HE.out];refine Ez (Zs.add (base:=w.heap.size) ?_) BR;rw[FB,lk,ld,MZ]
      simpa using gj
     clear aJ gj aI;go_wp2;go_ret;exact⟨_,rfl,HO.out,ax.mono BR⟩
theorem jr6{b e:Int}{x:Z5}(hx:H[k]? =some x):yM (H.take (k+1)) b e=yM (H.take k) b e++(if b<x.at_/\x.at_<e then [x.at_]else []):=by
 unfold yM;rw[List.take_add_one,hx,MZ,List.filter_append]
 congr 1
 by_cases h:b<x.at_/\x.at_<e
 .rw[if_pos h];simp[h.1,h.2]
 .rw[if_neg h];simp;intro h1;exact Int.not_lt.mp λh2=>h ⟨h1,h2⟩
theorem jdo(H:List Z5)(b e:Int):(yM H b e).length<=H.length:=by
 unfold yM;have:=List.length_filter_le (λt=>decide (b<t)&&decide (t<e)) (H.map Z5.at_);rw[BX]at this;exact this
theorem jod(l:List Int):(l.mergeSort λx y=>decide (x<=y)).Pairwise (· <= ·):=by
 have:=List.pairwise_mergeSort (le:=fun(x y:Int)=>decide (x<=y)) (λa b c h1 h2=>by
  have:=Nb h1;have:=Nb h2;exact rT Q) (λa b=>by
  by_cases h:a<=b
  .simp[h]
  .simp[show b<=a by omega]) l
 exact this.imp λh=>Nb h
theorem je1(H:List Z5)(a:Option Addr)(ca:Nat)(b e:Int)(w:World)(hA:Za w a 3 (H.map Z5.cs))(hl:H.length<=2000):
  C 267 #[U a H.length ca,J b,J e] w λr W'=>∃v L,r=V v/\Zs W' w.heap.size v L/\L.Pairwise (· <= ·)/\L.Perm (b::yM H b e)/\Bw w W':=by
 have⟨i0,hi,aG,aH,aF⟩:=info_parts jmb;have ag:=ZA w (G #[J b] 2);have nZ:Zs (w.alloc (G #[J b] 2)) w.heap.size (U (some (O w.heap.size 0)) 1 1) (b::yM (H.take 0) b e):=⟨by simp[yM],.inr ⟨w.heap.size,1,#[J b],by simp[yM],ZD _,heap_alloc_new w _,by simp[yM],by unfold maxLen;omega,M,by simp[yM]⟩⟩;unfold C;go_in;go_wp2;go_loopw [7,14] (λs7 kY wr=>∃(k:Nat) (p:Option Addr) (m c:Nat),k<=H.length/\kY=J k/\s7=U p m c/\Zs wr w.heap.size (U p m c) (b::yM (H.take k) b e)/\Bw w wr) (λ_ kY _=>H.length-(intOf kY).toNat)
 .exact⟨0,_,_,_,Q,rfl,rfl,nZ,ag⟩
 ·
  clear nZ ag;obtain⟨k,p,m,c,hk,rfl,rfl,hO,hB⟩:=hrel;have dI:=hB.size;by_cases hlt:k<H.length
  .have⟨x,hx⟩:=DV hlt
   obtain⟨b9,o9,rfl,hc⟩:=(hA.below hB).at (i:=k) (r:=x.cs) (by rw[Z8,hx];rfl);have c0:wr.cell? (O b9 (o9+k*3))=some (J x.at_):=hc 0 _ rfl;have c1:=hc 1 _ rfl;have c2:=hc 2 _ rfl;have eY:(k:Int)<(H.length:Int):=Q;have HX:=jr6 (b:=b) (e:=e) hx;have iD:=jdo (H.take k) b e;have sL:(H.take k).length<=2000:=by rw[List.length_take];omega
   have an:=hB.alloc dI (G #[J x.at_,J x.YX,I x.ZR] 223);have aW:Zs (wr.alloc (G #[J x.at_,J x.YX,I x.ZR] 223)) w.heap.size (U p m c) (b::yM (H.take k) b e):=nO hO _;have⟨X,lC⟩:=ZL (yM (H.take k) b e);rw[lC]at hO aW HX iD;clear hc hx lC;by_cases hin:b<x.at_/\x.at_<e
   .rw[if_pos hin]at HX
    have yX:=hid HX;have⟨g1,g2⟩:=hin;clear HX
    go_wp2_with (first
     |(at_builtin;refine wpList_append_own _ rfl _ _ 90 rfl w.heap.size 2 i0 (J 0) 1 8 Tryz.underlying90 hi aG aH aF rfl RN _ _ _ rfl (nO aW _) ⟨wr.heap.size+1,0,none⟩ 1 1 [J x.at_] rfl rfl ?c1 ?c2 ?c3 ?c4 ?c5 ?_)
     |fail)
    case c1=>simpa using cell_one_new (wr.alloc _) (J x.at_) _
    case c2=>intro u hu;simp at hu;subst hu;rfl
    case c3=>unfold maxLen;simp;omega
    case c4=>simp;omega
    case c5=>simp;omega
    .intro v' w1 ao af _
     have ax:Bw w w1:=(an.alloc RO _).grown af RO (λj hj=>(World.ownsRow.lt hO j hj).1);have HO:Hid (Zs w1 w.heap.size v' (b::(X++[x.at_]))):=by simpa [Hid,Zs]using ao
     obtain⟨p',m',c',rfl⟩:=Dt ao;clear af ao hO aW;go_wp2;go_roundw
     .exact⟨k+1,p',m',c',Q,RP,rfl,by rw[yX.out];exact HO.out,ax⟩
     .simp[intOf];omega
   .rw[if_neg hin,List.append_nil]at HX
    have HO:Hid (Zs (wr.alloc (G #[J x.at_,J x.YX,I x.ZR] 223)) w.heap.size (U p m c) (b::yM (H.take (k+1)) b e)):=by rw[HX];exact aW
    clear HX hO aW;by_cases g1:b<x.at_
    .have g2:¬x.at_<e:=λh=>hin ⟨g1,h⟩
     clear hin;go_wp2;go_roundw
     .exact⟨k+1,p,m,c,Q,RP,rfl,HO.out,an⟩
     .simp[intOf];omega
    .clear hin
     go_wp2;go_roundw
     .exact⟨k+1,p,m,c,Q,RP,rfl,HO.out,an⟩
     .simp[intOf];omega
  .have kD:k=H.length:=Q
   subst kD;rw[List.take_length]at hO;have iD:=jdo H b e;have⟨vZZ,hZ⟩:=ZL (b::yM H b e);have JQ:vZZ.length<=2001:=by rw[<- hZ,List.length_cons];omega
   have j8:1<=vZZ.length:=by rw[<- hZ,List.length_cons];omega
   have HZ:=hid hZ;rw[hZ]at hO;clear hZ;have mI:U p m c≠nS:=λh=>by
    rcases hO.2 with⟨_,h0⟩|⟨g,cap,cur,h0,_⟩
    .omega
    .rw[h]at h0;cases h0
   have⟨g',fK,he,xT,mB,vo,qw,sP,hH⟩:=Lib.holds_of_ownsRow hO mI;injection he with mD he2 iI
   subst mD he2 iI;have hS:=Tryz.slices_Sort_int g' 0 c vZZ wr hH mB Q;obtain⟨so,vF⟩:∃so,(vZZ.mergeSort λx y=>decide (x<=y))=so:=⟨_,rfl⟩;have nH:Hid (so.Pairwise (· <= ·)):=vF ▸ jod vZZ;have ju:Hid (so.Perm (b::yM H b e)):=by rw[HZ.out];exact vF ▸ List.mergeSort_perm vZZ _
   have iP:so.length=vZZ.length:=by rw[<- vF];exact List.length_mergeSort vZZ
   rw[vF]at hS;have Fc:∀q os,Bw w (grow (putRow (Value.int .i64) (Sort.ahead wr q) g' 0 so.toArray) os)/\Zs (grow (putRow (Value.int .i64) (Sort.ahead wr q) g' 0 so.toArray) os) w.heap.size (U (some (O g' 0)) vZZ.length c) so:=λq os=>by
    have hb1:=Lib.below_putRow (enc:=Value.int .i64) (q:=q) (d:=so.toArray) hB xT;have sH:=Lib.ownsRow_putRow (q:=q) (k:=vZZ.length) hO iP (ZD _);have cQ:Below (putRow (Value.int .i64) (Sort.ahead wr q) g' 0 so.toArray).heap.size (putRow (Value.int .i64) (Sort.ahead wr q) g' 0 so.toArray) (grow (putRow (Value.int .i64) (Sort.ahead wr q) g' 0 so.toArray) os):=⟨rfl,rfl,rfl,M,λk hk=>Go.Sort.heap_grow_old _ _ hk⟩;refine⟨(Zp hb1 cQ),?_⟩;have yd:=uZ sH cQ;unfold Zs;rw[iP];rw[show so.take vZZ.length=so by rw[<- iP,List.take_length]]at yd;exact yd
   have HG:=hid Fc;clear Fc iP vF hH hO JQ mI sP iD;go_wp2_with fail;refine hS.mono ?_;rintro r w2 ⟨rfl,q,os,rfl⟩;have⟨ac,yd⟩:=HG.out q os;generalize grow (putRow (Value.int .i64) (Sort.ahead wr q) g' 0 so.toArray) os=w3 at *;go_wp2;go_ret;exact⟨_,so,rfl,yd,nH.out,ju.out,ac⟩
theorem j05{x z:Int}(h:vbu x y z=true)(hx:x<=2037):num x y z<=24836:=by
 have ⟨a,b,c,d,e,f⟩:=jyc h;have h3:=Cal.vcY x y c d;have h4:=Cal.veY (y:=x) (a:=y+1) (b:=13) Q Q Q;have h5:=Cal.veX x;have h6:=Cal.ve1 x a;have h7:=Cal.ve0 (a:=x+1) (b:=2038) Q Q;have h8:Cal.dby 2038=743999:=by unfold Cal.dby;omega
 unfold num;omega
theorem j3f{m:Int}(h2:y<=2037)(t:ByteArray):Na y m t<=24836:=by
 unfold Na;split
 .rename_i h
  unfold nbB at h;simp only[vB]at h;exact j05 h.2.2 h2
 .omega
theorem vhU{m:Int}(hy:Ng y m=true)(h2:y<=2037):M0 y m s<=24843:=by
 have nl:=j05 (jbp hy) h2;have nb:=j3f (m:=m) h2 (s.extract 5 s.size);have yo:=j3f (m:=m) h2 s;have w1:=jc6 (s.extract 4 7);have w2:=jc6 (s.extract 0 3);unfold M0;split
 .unfold jcg
  split<;>omega
 .split
  .unfold jff
   split<;>omega
  .split
   .unfold jcg
    split<;>omega
   .omega
theorem juj{x:ZQ}(hx:Jo x){m:ZF}:∀{n:Nat},1960<=y->y+n<=2038->m∈EK i x y n->m.YV<=2200000000:=by
 intro n
 induction n with
 |zero=>intro _ _ h;simp[EK]at h
 |succ n ih=>
  intro h1 h2 h;rw[EK,List.mem_append]at h;rcases h with h|h
  .exact ih h1 Q h
  .have hb:=vhU (s:=x.on) (jx9 (y:=y+n) (m:=x.pU) Q Q hx.pU.1 hx.pU.2) Q
   have ha:=hx.at_;unfold jdy at h;split at h
   .simp at h
   .simp at h
    subst h
    show 86400*M0 (y+n) x.pU x.on+x.at_<=2200000000
    omega
theorem jui{l:List ZQ}(hl:∀x∈l,Jo x){m:ZF}:∀{k:Nat},m∈LZ nm l k->m.YV<=2200000000:=by
 intro k
 induction k with
 |zero=>intro h;simp[LZ]at h
 |succ k ih=>
  intro h;rw[LZ,List.mem_append]at h;rcases h with h|h
  .exact ih h
  .split at h
   .rename_i x hx
    split at h
    .unfold jcf at h
     by_cases hy:yrs x=0
     .rw[hy]at h;simp[EK]at h
     .exact juj (hl x (ui hx)) Q (by unfold yrs at *;omega) h
    .simp at h
   .simp at h
theorem jw8{l:List ZQ}(hl:∀x∈l,Jo x):∀(P:List ZF) (st:List Z5 × Int), -7200<=st.2/\st.2<=7200->∀h∈(P.foldl (jdh l off) st).1,h∈st.1\/∃m∈P,∃x sv,x∈l/\ -7200<=sv/\sv<=7200/\h=jeb x m.YV off sv:=by
 intro P
 induction P with
 |nil=>intro st _ h hh;exact .inl hh
 |cons m P ih=>
  intro st hs h hh;rw[List.foldl_cons]at hh;cases hx:l[m.place]? with
  |none=>
   have e:jdh l off st m=st:=by unfold jdh;rw[hx]
   rw[e]at hh;rcases ih st hs h hh with h1|⟨q,hq,h2⟩
   .exact .inl h1
   .exact .inr ⟨q,lmc _ hq,h2⟩
  |some x=>
   have e:jdh l off st m=(st.1++[jeb x m.YV off st.2],x.YX):=by unfold jdh;rw[hx]
   rw[e]at hh;have de:=ui hx;rcases ih _ (hl x de).YX h hh with h1|⟨q,hq,h2⟩
   .rcases List.mem_append.mp h1 with h1|h1
    .exact .inl h1
    .simp at h1
     exact .inr ⟨m,M,x,st.2,de,hs.1,hs.2,h1⟩
   .exact .inr ⟨q,lmc _ hq,h2⟩
def vey(l:List ZF):List ZF:=l.foldr (λx s=>Rj [x] s) []
theorem jfm:∀l:List ZF,Ja l (vey l)
 |[]=>jfl M
 |x::l=>jm3 (l1:=[x]) (jfl M) (jfm l)
def Fg(r:ZW)(nm:ByteArray)(off:Int):List Z5 × Bool:=if (LZ nm r.Vv r.Vv.length).length<=2000 then((PP r.Vv off (vey (LZ nm r.Vv r.Vv.length))).1,true)else([],false)
theorem j2i(r:ZW)(nm:ByteArray)(off:Int):jxz r nm off (Fg r nm off).1 (Fg r nm off).2:=by
 unfold Fg;split
 .rename_i h
  exact⟨_,.inl ⟨h,rfl,jfm _⟩,rfl⟩
 .rename_i h
  exact⟨[],.inr ⟨h,rfl,rfl⟩,rfl⟩
theorem jz3{b:Bool}(h:jx0 (jbt r.Vv nm) off H b):H=(Fg r nm off).1/\b=(Fg r nm off).2:=jw1 h (j2i r nm off)
theorem jz2{b:Bool}(h:jxz r nm off H b):H=(Fg r nm off).1/\b=(Fg r nm off).2:=by
 obtain⟨s,hs,rfl⟩:=h;unfold Fg;rcases hs with⟨g,rfl,hS⟩|⟨g,rfl,rfl⟩
 .rw[if_pos g]
  have hF:=jfm (LZ nm r.Vv r.Vv.length);rw[jvc hS.up hF.up λt=>by rw[hS.at_,hF.at_]];exact⟨rfl,rfl⟩
 .rw[if_neg g]
  exact⟨rfl,rfl⟩
structure vdT(h:Z5):Prop where
 at_:h.at_<=253402300799
 YX: -7200<=h.YX/\h.YX<=7200
 ZR:h.ZR.size<=6
theorem jmi(hr:∀x∈r.Vv,BF x=true)(h1: -86400<=off)(h2:off<=86400):∀h∈(Fg r nm off).1,vdT h:=by
 have hR:∀x∈r.Vv,Jo x:=λx hx=>jrg (hr x hx)
 intro h hh;unfold Fg at hh;split at hh
 .rcases jw8 hR _ _ M h hh with h0|⟨m,hm,x,sv,hx,s1,s2,rfl⟩
  .simp at h0
  .have hw:=jui hR (jpo (jfm _) hm)
   have hL:x.ZR.size<=6:=by
    have:=hr x hx;unfold BF ltB at this;simp only[vB,decide_eq_true_eq]at this;exact this.2.2.2.2.2.2.2.2.1
   refine⟨?_,(hR x hx).YX,hL⟩;cases hs:(x.of.toList==[115])
   .cases hv:(x.of.toList==[119])
    .rw[j2k hs hv];show m.YV<=253402300799;omega
    .rw[j2j hs hv];show m.YV-off-sv<=253402300799;omega
   .rw[j2l hs];show m.YV-off<=253402300799;omega
 .simp at hh
theorem jea:(Fg r nm off).1.length<=2000:=by
 unfold Fg;split
 .rename_i h
  have hF:=jfm (LZ nm r.Vv r.Vv.length);have:∀(P:List ZF) (st:List Z5 × Int),(P.foldl (jdh r.Vv off) st).1.length<=st.1.length+P.length:=by
   intro P
   induction P with
   |nil=>intro st;simp
   | cons m P ih=>
    intro st;rw[List.foldl_cons];have h1:=ih (jdh r.Vv off st m);have h2:(jdh r.Vv off st m).1.length<=st.1.length+1:=by
     unfold jdh;split
     .simp
     .omega
    simp only[List.length_cons];omega
  have h3:=this (vey (LZ nm r.Vv r.Vv.length)) ([],0);rw[hF.len]at h3;simp at h3;unfold PP;exact Nat.le_trans h3 h
 .simp
