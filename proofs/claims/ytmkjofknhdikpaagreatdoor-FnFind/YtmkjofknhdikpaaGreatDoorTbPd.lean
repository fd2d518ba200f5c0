import Derived.Lib.Replace
import Derived.Test.YtmkjofknhdikpaaGreatDoorHpUd
set_option maxRecDepth 100000
set_option maxHeartbeats 0
set_option linter.unusedSimpArgs false
open Go.RowKit Go.Sort
namespace Go.Proofs.YtmkjofknhdikpaaGreatDoor
variable{f nm s:ByteArray}{d l p:List UInt8}{off TF t y:Int}{b base g i k m n n0 n1:Nat}{W w w':World}{x:Ub}{H:List Ur}{h:Ur}{e:TX}{T:List Ub}{A E L:List Int}{v v0 v1 v2 x0 x1 x2:Value}{r:Un}
theorem va0(s:ByteArray)(a b:Nat):(s.extract a b).data.toList=(s.data.toList.drop a).take (b-a):=by
 rw[ByteArray.data_extract];simp[List.take_drop]
theorem YE(s:ByteArray):s.toList=s.data.toList:=by rw[ByteArray.toList_eq]
theorem jf1(h:s.data.toList=l):s=⟨l.toArray⟩:=by
 subst h;apply ByteArray.ext;simp
theorem Wi(s:ByteArray):s.data.toList.length=s.size:=by rw[Array.length_toList];rfl
def XW(d:List UInt8)(TF:Int):List UInt8:=
 if 0<=Lib.index d [47]then(if TF=0 then d.take (Lib.index d [47]).toNat else d.drop ((Lib.index d [47]).toNat+1))else d
def Xv(p l:List UInt8):List UInt8:=
 if 0<=Lib.index p [37,115]then p.take (Lib.index p [37,115]).toNat++l++p.drop ((Lib.index p [37,115]).toNat+2)else p
theorem jvn(h:Lib.index d [47]= -1):XW d TF=d:=by unfold XW;rw[if_neg Q]
theorem j03(h:Lib.index d [47]=i):XW d 0=d.take i:=by unfold XW;rw[if_pos Q,if_pos rfl,h];simp
theorem j02(h:Lib.index d [47]=i)(hs:TF≠0):XW d TF=d.drop (i+1):=by unfold XW;rw[if_pos Q,if_neg hs,h];simp
theorem jmt(h:Lib.index p [37,115]= -1):Xv p l=p:=by unfold Xv;rw[if_neg Q]
theorem jmu(h:Lib.index p [37,115]=i):Xv p l=p.take i++l++p.drop (i+2):=by unfold Xv;rw[if_pos Q,h];simp
theorem jlz(d:List UInt8)(TF:Int):(XW d TF).length<=d.length:=by
 unfold XW;split
 .split
  .rw[List.length_take];omega
  .rw[List.length_drop];omega
 .exact TP _
theorem jvy(h:Lib.occAt p [37,115] i=true):p.take i++[37,115]++p.drop (i+2)=p:=by
 unfold Lib.occAt at h;have⟨r,hr⟩:=List.isPrefixOf_iff_prefix.1 h;have e:p.drop (i+2)=r:=by rw[<- List.drop_drop, <- hr];rfl
 rw[e,List.append_assoc,hr,List.take_append_drop]
theorem jpu(p l:List UInt8):Lib.replace p [37,115] l 1=Xv p l:=by
 rcases Lib.index_spec p [37,115]with⟨h1,_⟩|⟨i,h1,_,h3,_⟩
 .rw[jmt h1]
  unfold Lib.replace Lib.replaceNum;rw[Lib.count_miss h1];split
  .rfl
  .rw[if_pos (Or.inr Q)];rfl
 .rw[jmu h1]
  unfold Lib.replace;split
  .rename_i hl
   rw[<- (beq_iff_eq.mp hl)];exact(jvy h3).symm
  .have hc:0<Lib.count p [37,115]:=by
    unfold Lib.count Lib.countFrom;rw[if_neg Z6];omega
   unfold Lib.replaceNum;rw[if_neg Q];exact Lib.replaceK_hit _ _ 0 p i h1
theorem j3w(h:Lib.index d [47]= -1):Lib.cut d [47]=(d,[],false):=by unfold Lib.cut;rw[if_neg Q]
theorem j3x(h:Lib.index d [47]=i):Lib.cut d [47]=(d.take i,d.drop (i+1),true):=by unfold Lib.cut;rw[if_pos Q,h];simp
theorem jco(s sub:ByteArray)(w:World)(hs:s.size<=8000)(h1:1<=sub.size)(h2:sub.size<=2):
  C 234 #[I s,I sub] w λe w'=>e=V (J (Lib.index s.data.toList sub.data.toList))/\w'=w:=by
 have HH:Hid (∀k:Nat,Lib.NoOcc s.data.toList sub.data.toList k->k+sub.size<=s.size->(s.extract k (k+sub.size)).toList==sub.toList->Lib.index s.data.toList sub.data.toList=k):=λk hn hk he=>by
  refine Lib.index_hit hn (by rw[Wi];omega) ?_;rw[Lib.occAt_iff_take _ _ _ (by rw[Wi,Wi];exact hk),Wi];rw[YE,YE,va0,show k+sub.size-k=sub.size by omega]at he;exact he
 have HM:Hid (∀k:Nat,Lib.NoOcc s.data.toList sub.data.toList k->k+sub.size<=s.size->((s.extract k (k+sub.size)).toList==sub.toList)=false->Lib.NoOcc s.data.toList sub.data.toList (k+1)):=λk hn hk he=>by
  refine hn.succ ?_;rw[Lib.occAt_iff_take _ _ _ (by rw[Wi,Wi];exact hk),Wi];rw[YE,YE,va0,show k+sub.size-k=sub.size by omega]at he;exact he
 have HP:Hid (∀k:Nat,Lib.NoOcc s.data.toList sub.data.toList k->s.size<k+sub.size->Lib.index s.data.toList sub.data.toList= -1):=λk hn hk=>by
  refine Lib.index_past (λe=>?_) hn (by rw[Wi,Wi];exact hk);have:=Wi sub;rw[e]at this;simp at this;omega
 have H0:Hid (Lib.NoOcc s.data.toList sub.data.toList 0):=Lib.NoOcc.zero _ _;generalize Lib.index s.data.toList sub.data.toList=ix at *;delta C;go_in;go_wp2;go_loop [5] (λi=>∃k:Nat,k<=s.size+1/\i=J k/\Hid (Lib.NoOcc s.data.toList sub.data.toList k)) (λi=>s.size+1-(intOf i).toNat)
 .exact⟨0,Q,rfl,H0⟩
 ·
  obtain⟨k,hk,rfl,hn⟩:=hrel;by_cases hlt:k+sub.size<=s.size
  .cases hb:((s.extract k (k+sub.size)).toList==sub.toList)
   .have HR:Hid (Lib.NoOcc s.data.toList sub.data.toList (k+1)):=HM.out k hn.out hlt hb
    go_wp2;go_round
    .exact⟨k+1,Q,Z7,HR⟩
    .simp[intOf];omega
   .have HR:Hid (ix=k):=HH.out k hn.out hlt hb
    go_wp2;go_ret;exact⟨Vh HR.out.symm,rfl⟩
  .have HR:Hid (ix= -1):=HP.out k hn.out Q
   go_wp2;go_ret;exact⟨Vh HR.out.symm,rfl⟩
theorem vaQ{a b:ByteArray}(h:a=b):V (I a)=V (I b):=by rw[h]
def jki(f l:ByteArray)(TF:Int):ByteArray:=if f.size<=8000/\l.size<=8000 then⟨(Xv (XW f.data.toList TF) l.data.toList).toArray⟩else⟨#[]⟩
theorem jsm{l:ByteArray}(h:¬(f.size<=8000/\l.size<=8000)):jki f l TF=⟨#[]⟩:=if_neg h
theorem jjv{l:ByteArray}(h:f.size<=8000/\l.size<=8000):jki f l TF=⟨(Xv (XW f.data.toList TF) l.data.toList).toArray⟩:=if_pos h
def ZH(w:World):Prop:=∃m:Int,w.cell? (O (1) 0)=some (J m)
theorem ZH.of_below(h:ZH w)(hb:Bw w w'):ZH w':=by
 have⟨m,hm⟩:=h;exact⟨m,(Uu hb hm hm)⟩
theorem jxq(s sub:ByteArray)(h:1<=sub.size):Lib.countB s sub<=s.size:=by
 have:=Lib.countB_mul_le sub h s.size s (TP _);exact Nat.le_trans (Nat.le_mul_of_pos_right _ h) this
theorem jm7(f l:ByteArray)(TF:Int)(w:World)(hf:f.size<=8000)(hl:l.size<=8000):
  C 197 #[I f,I l,J TF] w λe w'=>e=V (I ⟨(Xv (XW f.data.toList TF) l.data.toList).toArray⟩)/\∃n,w'=w.drewN n:=by
 have hI:=λw=>jco f ⟨#[47]⟩ w hf Z5 Z5
 have dw:=jlz f.data.toList TF;rw[Wi]at dw;rcases Lib.index_spec f.data.toList [47]with⟨e1,_⟩|⟨i,e1,hi,sH,_⟩
 .have hq:f.data.toList=XW f.data.toList TF:=(jvn e1).symm
  rw[show(ByteArray.mk #[47]).data.toList=[47]from rfl,e1]at hI;have hJ:=λw=>jco f ⟨#[37,115]⟩ w hf Z5 Z5
  rw[show(ByteArray.mk #[37,115]).data.toList=[37,115]from rfl]at hJ;generalize hqq:XW f.data.toList TF=q at *;clear hqq dw e1;obtain⟨p,rfl⟩:∃p:ByteArray,p=f:=⟨f,rfl⟩;delta C;go_in;go_wp2_with fail;refine(hI _).mono ?_;rintro e w' ⟨rfl,rfl⟩;go_wp2_with fail;rcases Lib.index_spec p.data.toList [37,115]with⟨e2,_⟩|⟨j,e2,hj,ho,_⟩
  .rw[e2]at hJ
   have HR:Hid (({ data:=(Xv q l.data.toList).toArray }:ByteArray)=p):=by simp only[Hid];rw[<- hq,jmt e2]
   refine(hJ _).mono ?_;rintro e w' ⟨rfl,rfl⟩;go_wp2;go_ret;exact⟨vaQ HR.out.symm,0,rfl⟩
  .rw[e2]at hJ
   have gk:j+2<=p.size:=by
    rcases Lib.occAt_room ho with h|h
    .rw[Wi]at h;simpa using h
    .cases h
   have i0:(0:Int)<=(j:Int):=Q;have i1:(j:Int)<=(p.size:Int):=Q;have i2:(j:Int)+2<=(p.size:Int):=Q;have HR:Hid (({ data:=(Xv q l.data.toList).toArray }:ByteArray)=p.extract 0 j++l++p.extract (j+2) p.size):=by
    simp only[Hid];rw[<- hq,jmu e2]
    symm
    apply jf1;simp only[ByteArray.data_append,Array.toList_append,va0,List.drop_zero,Nat.sub_zero];rw[List.take_of_length_le (l:=p.data.toList.drop (j+2)) (by rw[List.length_drop,Wi];omega)]
   clear hj ho e2;refine(hJ _).mono ?_;rintro e w' ⟨rfl,rfl⟩;go_wp2_with fail;go_quiet (fail);go_wp2;go_ret;exact⟨vaQ HR.out.symm,_,rfl⟩
 .rw [Wi]at hi
  rw[show(ByteArray.mk #[47]).data.toList=[47]from rfl,e1]at hI;have gk:i+1<=f.size:=by
   rcases Lib.occAt_room sH with h|h
   .rw[Wi]at h;simpa using h
   .cases h
  have j0:(0:Int)<=(i:Int):=Q;have j1:(i:Int)+1<=(f.size:Int):=Q;by_cases hs:TF=0
  .subst hs
   have hq:(f.extract 0 i).data.toList=XW f.data.toList 0:=by rw[j03 e1,va0];simp
   have hz:(f.extract 0 i).size<=8000:=by rw[ByteArray.size_extract];omega
   have hJ:=λw=>jco (f.extract 0 i) ⟨#[37,115]⟩ w hz Z5 Z5
   rw[show(ByteArray.mk #[37,115]).data.toList=[37,115]from rfl]at hJ;generalize hqq:XW f.data.toList 0=q at *;clear hqq dw e1 sH;delta C;go_in;go_wp2_with fail;refine(hI _).mono ?_;rintro e w' ⟨rfl,rfl⟩;go_wp2_with fail;generalize f.extract 0 i=p at *;clear hI j0 j1 gk hi;rcases Lib.index_spec p.data.toList [37,115]with⟨e2,_⟩|⟨j,e2,hj,ho,_⟩
   .rw[e2]at hJ
    have HR:Hid (({ data:=(Xv q l.data.toList).toArray }:ByteArray)=p):=by simp only[Hid];rw[<- hq,jmt e2]
    refine(hJ _).mono ?_;rintro e w' ⟨rfl,rfl⟩;go_wp2;go_ret;exact⟨vaQ HR.out.symm,0,rfl⟩
   .rw[e2]at hJ
    have gk:j+2<=p.size:=by
     rcases Lib.occAt_room ho with h|h
     .rw[Wi]at h;simpa using h
     .cases h
    have i0:(0:Int)<=(j:Int):=Q;have i1:(j:Int)<=(p.size:Int):=Q;have i2:(j:Int)+2<=(p.size:Int):=Q;have HR:Hid (({ data:=(Xv q l.data.toList).toArray }:ByteArray)=p.extract 0 j++l++p.extract (j+2) p.size):=by
     simp only[Hid];rw[<- hq,jmu e2]
     symm
     apply jf1;simp only[ByteArray.data_append,Array.toList_append,va0,List.drop_zero,Nat.sub_zero];rw[List.take_of_length_le (l:=p.data.toList.drop (j+2)) (by rw[List.length_drop,Wi];omega)]
    clear hj ho e2;refine(hJ _).mono ?_;rintro e w' ⟨rfl,rfl⟩;go_wp2_with fail;go_quiet (fail);go_wp2;go_ret;exact⟨vaQ HR.out.symm,_,rfl⟩
  .have hq:(f.extract (i+1) f.size).data.toList=XW f.data.toList TF:=by rw[j02 e1 hs,va0,List.take_of_length_le (by rw[List.length_drop,Wi];omega)]
   have hz:(f.extract (i+1) f.size).size<=8000:=by rw[ByteArray.size_extract];omega
   have hJ:=λw=>jco (f.extract (i+1) f.size) ⟨#[37,115]⟩ w hz Z5 Z5
   rw[show(ByteArray.mk #[37,115]).data.toList=[37,115]from rfl]at hJ;generalize hqq:XW f.data.toList TF=q at *;have Cw:(TF==0)=false:=by simpa using hs
   clear hqq dw e1 sH hs;delta C;go_in;go_wp2_with fail;refine(hI _).mono ?_;rintro e w' ⟨rfl,rfl⟩;go_wp2_with fail;generalize f.extract (i+1) f.size=p at *;clear hI j0 j1 gk hi;rcases Lib.index_spec p.data.toList [37,115]with⟨e2,_⟩|⟨j,e2,hj,ho,_⟩
   .rw[e2]at hJ
    have HR:Hid (({ data:=(Xv q l.data.toList).toArray }:ByteArray)=p):=by simp only[Hid];rw[<- hq,jmt e2]
    refine(hJ _).mono ?_;rintro e w' ⟨rfl,rfl⟩;go_wp2;go_ret;exact⟨vaQ HR.out.symm,0,rfl⟩
   .rw[e2]at hJ
    have gk:j+2<=p.size:=by
     rcases Lib.occAt_room ho with h|h
     .rw[Wi]at h;simpa using h
     .cases h
    have i0:(0:Int)<=(j:Int):=Q;have i1:(j:Int)<=(p.size:Int):=Q;have i2:(j:Int)+2<=(p.size:Int):=Q;have HR:Hid (({ data:=(Xv q l.data.toList).toArray }:ByteArray)=p.extract 0 j++l++p.extract (j+2) p.size):=by
     simp only[Hid];rw[<- hq,jmu e2]
     symm
     apply jf1;simp only[ByteArray.data_append,Array.toList_append,va0,List.drop_zero,Nat.sub_zero];rw[List.take_of_length_le (l:=p.data.toList.drop (j+2)) (by rw[List.length_drop,Wi];omega)]
    clear hj ho e2;refine(hJ _).mono ?_;rintro e w' ⟨rfl,rfl⟩;go_wp2_with fail;go_quiet (fail);go_wp2;go_ret;exact⟨vaQ HR.out.symm,_,rfl⟩
theorem jqu(f l:ByteArray)(TF:Int)(w:World)(hM:ZH w)(hf:f.size<=1048576)(hl:l.size<=1048576):
  C 266 #[I f,I l,J TF] w λe w'=>e=V (I (jki f l TF))/\Bw w w':=by
 by_cases h1:f.size<=8000
 .by_cases h2:l.size<=8000
  .have⟨m,hm⟩:=hM
   have hC:=Tryz.strings_Cut f ⟨#[47]⟩ m w Q hm;have sk:∀(p:ByteArray) w',p.data.toList.length<=8000->Bw w w'->C 288 #[I p,I ⟨#[37,115]⟩,I l,J 1] w' λe cW=>e=V (I ⟨(Xv p.data.toList l.data.toList).toArray⟩)/\Bw w' cW:=λp w' hp hb=>by
    rw[Wi]at hp;have sA:=jxq p ⟨#[37,115]⟩ Z5
    have:=Tryz.strings_Replace p ⟨#[37,115]⟩ l 1 m w' Q (Uu hb hm hm) Z5 (by
     have:=Nat.mul_le_mul (Nat.le_trans sA hp) h2
     omega)
    rw[show(ByteArray.mk #[37,115]).data.toList=[37,115]from rfl,jpu]at this;exact this
   rw[jjv ⟨h1,h2⟩];rw[show(ByteArray.mk #[47]).data.toList=[47]from rfl]at hC;have dw:=jlz f.data.toList TF;rw[Wi]at dw;have hd:=Wi f;rcases Lib.index_spec f.data.toList [47]with⟨e1,_⟩|⟨i,e1,hi,sH,_⟩
   .rw[j3w e1]at hC
    rw[jvn e1];have aM:=λw' hb=>sk ⟨f.data.toList.toArray⟩ w' Z6 hb
    simp only at aM;generalize (Xv f.data.toList l.data.toList).toArray=x at *;generalize f.data.toList.toArray=d at *;clear sk e1 dw hd;delta C;go_in;go_wp2_with fail;refine hC.mono ?_;rintro e w' ⟨rfl,n,rfl⟩;go_wp2_with fail;refine(aM _ (below_drewN (Ui _ _) _)).mono ?_;rintro e w' ⟨rfl,hb⟩;go_wp2;go_ret;exact⟨rfl,(below_drewN (Ui _ _) n).trans hb⟩
   .rw[j3x e1]at hC
    by_cases hs:TF=0
    .subst hs
     rw[j03 e1];have aM:=λw' hb=>sk ⟨(f.data.toList.take i).toArray⟩ w' Z6 hb
     simp only at aM;generalize (Xv (f.data.toList.take i) l.data.toList).toArray=x at *;generalize (f.data.toList.take i).toArray=d at *;generalize (f.data.toList.drop (i+1)).toArray=d2 at *;clear sk e1 dw hd;delta C;go_in;go_wp2_with fail;refine hC.mono ?_;rintro e w' ⟨rfl,n,rfl⟩;go_wp2_with fail;refine(aM _ (below_drewN (Ui _ _) _)).mono ?_;rintro e w' ⟨rfl,hb⟩;go_wp2;go_ret;exact⟨rfl,(below_drewN (Ui _ _) n).trans hb⟩
    .rw[j02 e1 hs]
     have aM:=λw' hb=>sk ⟨(f.data.toList.drop (i+1)).toArray⟩ w' Z6 hb
     simp only at aM;generalize (Xv (f.data.toList.drop (i+1)) l.data.toList).toArray=x at *;generalize (f.data.toList.take i).toArray=d at *;generalize (f.data.toList.drop (i+1)).toArray=d2 at *;clear sk e1 dw hd;delta C;go_in;go_wp2_with fail;refine hC.mono ?_;rintro e w' ⟨rfl,n,rfl⟩;go_wp2_with fail;refine(aM _ (below_drewN (Ui _ _) _)).mono ?_;rintro e w' ⟨rfl,hb⟩;go_wp2;go_ret;exact⟨rfl,(below_drewN (Ui _ _) n).trans hb⟩
  .rw[jsm Q]
   delta C;go_in;go_wp2;go_ret;exact⟨rfl,Ui _ _⟩
 .rw[jsm Q]
  delta C;go_in;go_wp2;go_ret;exact⟨rfl,Ui _ _⟩
def Xu:List Ur->ByteArray
 |[]=>⟨#[]⟩
 |h::t=>if h.TF=0 then h.Uc else Xu t
theorem jjp{l:List Ur}(h:∀x∈l,x.TF≠0):Xu l=⟨#[]⟩:=by
 induction l with
 |nil=>rfl
 |cons x l ih=>rw[Xu,if_neg (h x M)];exact ih λy hy=>h y (VW _ hy)
theorem jo2{l:List Ur}{x:Ur}(hx:l[k]? =some x)(h0:x.TF=0)(hb:∀j y,j<k->l[j]? =some y->y.TF≠0):Xu l=x.Uc:=by
 induction l generalizing k with
 |nil=>simp at hx
 | cons a l ih=>
  cases k with
  |zero=>simp at hx;subst hx;rw[Xu,if_pos h0]
  |succ k=>
   rw[Xu,if_neg (hb 0 a Q M)];exact ih (by simpa using hx) λj y hj hy=>hb (j+1) y Q (by simpa using hy)
def XX(H:List Ur)(t:Int):Nat->Nat
 |0=>0
 |k+1=>match H[k]? with
  |some h=>if h.at_<=t then k+1 else XX H t k
  |none=>XX H t k
def hcnt(H:List Ur)(t:Int):Nat:=XX H t H.length
theorem jtx(hh:H[k]? =some h)(ht:t<h.at_):XX H t (k+1)=XX H t k:=by rw[XX,hh];simp only;rw[if_neg Q]
theorem jot(hh:H[k]? =some h)(ht:h.at_<=t):XX H t (k+1)=k+1:=by rw[XX,hh];simp only;rw[if_pos ht]
theorem jz1(H:List Ur)(t:Int):∀k,XX H t k<=k:=by
 intro k
 induction k with
 |zero=>exact TP _
 |succ k ih=>
  rw[XX];split
  .split<;>omega
  .omega
theorem jwz(H:List Ur)(t:Int):hcnt H t<=H.length:=jz1 H t _
theorem jz0:∀{k:Nat},n<=k->(∀i h,n<=i->i<k->H[i]? =some h->t<h.at_)->XX H t k=XX H t n:=by
 intro k
 induction k with
 |zero=>intro h _;rw[Nat.le_zero.mp h]
 |succ k ih=>
  intro hn h;by_cases e:n=k+1
  .rw[e]
  .rw[XX]
   split
   .rename_i x hx
    rw[if_neg (by have:=h k x Q Q hx;omega)];exact ih Q λi y h1 h2 h3=>h i y h1 Q h3
   .exact ih Q λi y h1 h2 h3=>h i y h1 Q h3
theorem jzz(h1:n<=H.length)(h2:∀i h,n<=i->H[i]? =some h->t<h.at_)(h3:∀m h,n=m+1->H[m]? =some h->h.at_<=t):hcnt H t=n:=by
 unfold hcnt;rw[jz0 h1 λi h hi _ hh=>h2 i h hi hh];cases n with
 |zero=>rfl
 |succ m=>
  obtain⟨x,hx⟩:∃x,H[m]? =some x:=⟨_,Ug Q⟩;exact jot hx (h3 m x rfl hx)
def Zp(H:List Ur):Nat->Ur
 |0=>⟨0,0,Xu H⟩
 |m+1=>H[m]?.getD ⟨0,0,⟨#[]⟩⟩
def Vz(e:TX)(H:List Ur)(t:Int):Ur:=if e.Tw.size=0 then⟨0,e.TF,⟨#[]⟩⟩else Zp H (hcnt H t)
theorem jjm(h:e.Tw.size=0):Vz e H t=⟨0,e.TF,⟨#[]⟩⟩:=if_pos h
theorem jen(h:¬e.Tw.size=0):Vz e H t=Zp H (hcnt H t):=if_neg h
def XF(e:TX)(F:Ur)(t:Int):Ub:=⟨t,e.TI+F.TF,F.TF,jki e.Uz F.Uc F.TF⟩
def UZ(e:TX)(H:List Ur)(t:Int):Ub:=XF e (Vz e H t) t
def vaZ(e:TX)(H:List Ur):Int:=if e.of.toList==[115]then e.Ua-e.TI else if e.of.toList==[119]then e.Ua-e.TI-(Vz e H (e.Ua-e.TI-1)).TF else e.Ua
def VT(e:TX)(H:List Ur)(b:Int):Int:=max b (min (vaZ e H) 253402300799)
def Ye(y x:Ub):Bool:=decide (y.TI=x.TI)&&(decide (y.TF=x.TF)&&(y.UD.toList==x.UD.toList))
theorem jtj(x:Ub):Ye x x=true:=by simp[Ye]
def Vu(T:List Ub)(x:Ub):List Ub:=match T.getLast? with
 |some y=>if Ye y x=true then T else T++[x]
 |none=>T++[x]
theorem jef{y:Ub}(h:T.getLast? =some y)(hl:Ye y x=true):Vu T x=T:=by rw[Vu,h];simp only;rw[if_pos hl]
theorem jms{y:Ub}(h:T.getLast? =some y)(hl:Ye y x=false):Vu T x=T++[x]:=by rw[Vu,h];simp only;rw[if_neg (by rw[hl];simp)]
theorem juc(T:List Ub)(x:Ub):Vu (Vu T x) x=Vu T x:=by
 have hn:Vu (T++[x]) x=T++[x]:=jef (y:=x) M (jtj x);cases h:T.getLast? with
 |none=>
  have e:Vu T x=T++[x]:=by rw[Vu,h]
  rw[e,hn]
 |some y=>
  cases hl:Ye y x
  .rw[jms h hl,hn]
  .rw[jef h hl,jef h hl]
theorem j0q(T:List Ub)(x:Ub):(Vu T x).length<=T.length+1:=by
 unfold Vu;split
 .split
  .omega
  .simp
 .simp
def Vm(f:Int->Ub)(L:List Int)(T:List Ub):List Ub:=L.foldl (λT t=>Vu T (f t)) T
theorem vbG(f:Int->Ub)(t:Int)(L:List Int)(T:List Ub):Vm f (t::L) T=Vm f L (Vu T (f t)):=rfl
theorem jgk(f:Int->Ub)(t:Int)(L:List Int)(T:List Ub):Vm f (L++[t]) T=Vu (Vm f L T) (f t):=by unfold Vm;rw[List.foldl_append];rfl
theorem jec(f:Int->Ub):∀(L:List Int) (T:List Ub),(Vm f L T).length<=T.length+L.length:=by
 intro L
 induction L with
 |nil=>intro T;simp[Vm]
 |cons t L ih=>
  intro T;rw[vbG];have:=ih (Vu T (f t));have:=j0q T (f t);simp only[List.length_cons];omega
theorem jt0(f:Int->Ub):∀{L A:List Int},L.Pairwise (· <= ·)->A.Pairwise (· < ·)->(∀t,t∈L↔t∈A)->∀T,Vm f L T=Vm f A T:=by
 intro L
 induction L with
 |nil=>
  intro A _ _ h T;cases A with
  |nil=>rfl
  |cons y A=>exact absurd ((h y).mpr M) M
 |cons x L ih=>
  intro A hL hA h T;cases A with
  |nil=>exact absurd ((h x).mp M) M
  |cons y A=>
   have km:=List.pairwise_cons.mp hL;have AO:=List.pairwise_cons.mp hA;have gI:x=y:=by
    have e1:x<=y:=by
     rcases List.mem_cons.mp ((h y).mpr M)with e|e
     .omega
     .exact km.1 y e
    have e2:y<=x:=by
     rcases List.mem_cons.mp ((h x).mp M)with e|e
     .omega
     .have:=AO.1 x e;omega
    omega
   subst gI;rw[vbG,vbG];by_cases hm:x∈L
   .have h2:∀t,t∈L↔t∈x::A:=λt=>by
     rw[<- h t,List.mem_cons];exact⟨.inr,λe=>e.elim (λe=>by rw[e];exact hm) id⟩
    rw[ih km.2 hA h2 (Vu T (f x)),vbG,juc]
   .refine ih km.2 AO.2 (λt=>?_) _
    have ht:=h t;rw[List.mem_cons,List.mem_cons]at ht;constructor
    .intro hl
     rcases ht.mp (.inr hl)with e|e
     .rw[e]at hl;exact absurd hl hm
     .exact e
    .intro ha
     rcases ht.mpr (.inr ha)with e|e
     .have:=AO.1 t ha;omega
     .exact e
def Vp:List Int->Int->List Int
 |[],n=>[n]
 |a::l,n=>if a<n then a::Vp l n else if a=n then a::l else n::a::l
theorem vdK{n:Int}:∀{l:List Int},t∈Vp l n↔t∈l\/t=n:=by
 intro l
 induction l with
 |nil=>simp[Vp]
 |cons a l ih=>
  rw[Vp];split
  .rw[List.mem_cons,ih,List.mem_cons,or_assoc]
  .split
   .rename_i h1 h2
    rw[List.mem_cons];constructor
    .exact .inl
    .rintro(e|e)
     .exact e
     .left;omega
   .rw[List.mem_cons]
    constructor
    .rintro(e|e)
     .exact .inr e
     .exact .inl e
    .rintro(e|e)
     .exact .inr e
     .exact .inl e
theorem j2f{n:Int}:∀{l:List Int},l.Pairwise (· < ·)->(Vp l n).Pairwise (· < ·):=by
 intro l
 induction l with
 |nil=>intro _;simp[Vp]
 |cons a l ih=>
  intro h;have h':=List.pairwise_cons.mp h;rw[Vp];split
  .rename_i ha
   refine List.pairwise_cons.mpr ⟨λt ht=>?_,ih h'.2⟩;rcases vdK.mp ht with e|e
   .exact h'.1 t e
   .omega
  .split
   .exact h
   .rename_i h1 h2
    refine List.pairwise_cons.mpr ⟨λt ht=>?_,h⟩;rcases List.mem_cons.mp ht with e|e
    .omega
    .have:=h'.1 t e;omega
def Xn(b:Int)(X:List Int):List Int:=X.foldl Vp [b]
theorem jsk{X:List Int}(h:A.Pairwise (· < ·)):(X.foldl Vp A).Pairwise (· < ·)/\∀t,t∈X.foldl Vp A↔t∈A\/t∈X:=by
 induction X generalizing A with
 |nil=>exact⟨h,λt=>M⟩
 |cons x X ih=>
  have⟨h1,h2⟩:=ih (j2f (n:=x) h);refine⟨h1,λt=>?_⟩;rw[List.foldl_cons,h2 t,vdK,List.mem_cons,or_assoc]
theorem jzq(l:List Int)(n:Int):(Vp l n).length<=l.length+1:=by
 induction l with
 |nil=>simp[Vp]
 |cons a l ih=>
  rw[Vp];split
  .simp only[List.length_cons];omega
  .split<;>simp
theorem jjs(b:Int)(X:List Int):(Xn b X).length<=X.length+1:=by
 unfold Xn;have:∀(X A:List Int),(X.foldl Vp A).length<=A.length+X.length:=by
  intro X
  induction X with
  |nil=>intro A;simp
  |cons x X ih=>intro A;rw[List.foldl_cons];have:=ih (Vp A x);have:=jzq A x;simp only[List.length_cons];omega
 have:=this X [b];simp at this;omega
def UX(H:List Ur)(b e:Int):List Int:=(H.map Ur.at_).filter λt=>decide (b<t)&&decide (t<e)
theorem jks(f:Int->Ub){H:List Ur}{b e:Int}{L:List Int}(h1:L.Pairwise (· <= ·))(h2:L.Perm (b::UX H b e))(T:List Ub):Vm f L T=Vm f (Xn b (UX H b e)) T:=by
 have h:=jsk (X:=UX H b e) (A:=[b]) M;refine jt0 f h1 h.1 (λt=>?_) T;rw[h2.mem_iff,List.mem_cons,h.2 t,List.mem_singleton]
def Vk:List Ur->List Int
 |[]=>[]
 |h::t=>min ((Vk t).headD 253402300799) h.at_::Vk t
theorem jcc:∀H:List Ur,(Vk H).length=H.length
 |[]=>rfl
 |h::t=>by rw[Vk,List.length_cons,List.length_cons,jcc t]
def Vd(E:List Int)(k:Nat):Int:=E[k]?.getD 253402300799
theorem jip(h:E.length<=k):Vd E k=253402300799:=by unfold Vd;rw[List.getElem?_eq_none h];rfl
theorem jdm(h:E[k]? =some t):Vd E k=t:=by unfold Vd;rw[h];rfl
theorem vbq:∀{H:List Ur} {k:Nat} {h:Ur},H[k]? =some h->(Vk H)[k]? =some (min (Vd (Vk H) (k+1)) h.at_)
 |[],k,h,hh=>by simp at hh
 |a::t,0,h,hh=>by
  simp at hh;subst hh;rw[Vk,List.getElem?_cons_zero]
  congr 2
  unfold Vd;rw[List.getElem?_cons_succ];cases Vk t<;>rfl
 |a::t,k+1,h,hh=>by
  rw[List.getElem?_cons_succ]at hh;rw[Vk,List.getElem?_cons_succ,vbq hh]
  congr 2
theorem jzl(hk:k<H.length):Vd (Vk H) k<=Vd (Vk H) (k+1):=by
 have⟨x,hx⟩:=Vb hk;rw[jdm (vbq hx)];omega
theorem jrx:∀{j:Nat},i<=j->j<=H.length->Vd (Vk H) i<=Vd (Vk H) j:=by
 intro j
 induction j with
 |zero=>intro h _;rw[Nat.le_zero.mp h];exact Int.le_refl _
 | succ j ih=>
  intro h hj;by_cases e:i=j+1
  .rw[e];exact Int.le_refl _
  .have:=ih Q Q
   have:=jzl (H:=H) (k:=j) Q;omega
theorem jwe(hH:∀h∈H,h.at_<=253402300799)(h1:m<=H.length)(h2:∀i,i<m->¬t<Vd (Vk H) i)(h3:∀i,m<=i->i<H.length->t<Vd (Vk H) i):hcnt H t=m:=by
 refine jzz h1 (λi h hi hh=>?_) (λk h e hh=>?_)
 .have i7:=(Ux hh).1
  have:=h3 i hi i7;rw[jdm (vbq hh)]at this;omega
 .have eY:=(Ux hh).1
  have h4:=h2 k Q;rw[jdm (vbq hh)]at h4;have h5:=hH h (UH hh);rcases Nat.lt_or_ge (k+1) H.length with e1|e1
  .have:=h3 (k+1) Q e1
   omega
  .rw[jip (by rw[jcc];exact e1)]at h4
   omega
def Jc(w:World)(g:Nat)(E:List Int)(k:Nat):Prop:=∀i t,k<=i->E[i]? =some t->w.cell? (O g i)=some (J t)
theorem Jc.below(h:Jc w g E k)(hb:Bw w w'):Jc w' g E k:=λi t hk hi=>Tx hb (h i t hk hi)
theorem Jc.set(h:Jc w g E (k+1))(hR:Zg w g m)(hk:k<m)(ht:E[k]? =some t):Jc (w.setCell (O g k) (J t)) g E k:=λi u hi hu=>by
 by_cases e:i=k
 .subst e
  rw[ht]at hu;injection hu with hu
  subst hu;have⟨⟨v,hv⟩,_⟩:=hR i hk;exact U8 _ _ _ hv
 .rw[Uh _ _ _ _ (λh=>e (by injection h with _ h1;exact h1.symm))]
  exact h i u Q hu
theorem jwo:∃i:TypeInfo,Tryz.prog.info? 2=some i/\i.zero=some (J 0)/\i.size=1/\i.bytes=8:=⟨_,rfl,rfl,rfl,rfl⟩
theorem jgf(H:List Ur)(a:Option Addr)(ca:Nat)(w:World)(hA:Za w a 3 (H.map Ur.cs))(hl:H.length<=2000):
  C 260 #[U a H.length ca] w λe w'=>e=V (U (some (O w.heap.size 0)) H.length H.length)/\Jc w' w.heap.size (Vk H) 0/\Bw w w':=by
 have⟨i0,hi,aG,aH,aF⟩:=jwo;have⟨w1,dk,ai,dp⟩:=run_make_full (P:=Tryz.prog) w w.heap.size 91 2 i0 _ 1 Tryz.underlying91 hi aG aH .i64 .i64 H.length (by rw[aF];omega) (by unfold maxLen;omega) (TP _);have hR:=jd4 ai;rw[Nat.mul_one]at hR;have hB:Bw w w1:=(Ui _ _).grown dp (TP _) (λk hk=>by cases hk);have HE:=@vbq H;have lc:Hid (∀(k:Nat) (h:Ur),H[k]? =some h->(Vk H)[k]? =some (min (Vd (Vk H) (k+1)) h.at_)):=λk h hh=>HE hh
 have h0:Vd (Vk H) H.length=253402300799:=jip (by rw[jcc];exact TP _);have tL:Jc w1 w.heap.size (Vk H) H.length:=λi t h1 h2=>by have:=(Ux h2).1;rw[jcc]at this;omega
 clear HE;generalize Vk H=E at *;clear hi aG aH aF ai dp;delta C;go_in;go_wp2;go_loopw [4,5] (λs4 s5 wr=>∃m:Nat,m<=H.length/\s4=J (Vd E m)/\s5=J ((m:Int)-1)/\Jc wr w.heap.size E m/\Zg wr w.heap.size H.length/\Bw w wr) (λ_ s5 _=>(intOf s5+1).toNat)
 .exact⟨H.length,TP _,by rw[h0],rfl,tL,hR,hB⟩
 ·
  clear hR hB dk h0 tL;obtain⟨m,hm,rfl,gG,hL,hR,hB⟩:=hrel;cases m with
  |zero=>
   subst gG;go_wp2;go_ret;exact⟨rfl,hL,hB⟩
  |succ k=>
   rw[show(((k+1:Nat):Int)-1)=(k:Int) by omega]at gG;subst gG;obtain⟨x,hx⟩:∃x,H[k]? =some x:=⟨_,Ug Q⟩;obtain⟨b,o,rfl,hc⟩:=(hA.below hB).at (i:=k) (r:=x.cs) (by rw[Uv,hx];rfl);have c0:wr.cell? (O b (o+k*3))=some (J x.at_):=hc 0 _ rfl;have hE:=lc.out k x hx;have HL:Hid (Vd E k=min (Vd E (k+1)) x.at_):=jdm hE;have nY:=hL.set hR Q hE;have aM:=hR.set (O w.heap.size k) (J (min (Vd E (k+1)) x.at_));have an:Bw w (wr.setCell (O w.heap.size k) (J (min (Vd E (k+1)) x.at_))):=hB.setCell (TP _) _;have⟨⟨u0,iR⟩,gC⟩:=hR k Q;have eY:(k:Int)<(H.length:Int):=Q;clear hc hx hE hL hR;generalize Vd E (k+1)=t at *;go_wp2;go_roundw
   .exact⟨k,Q,by rw[HL.out],Z9,nY,aM,an⟩
   .simp[intOf]
theorem jhj(H:List Ur)(a:Option Addr)(ca:Nat)(w:World)(hA:Za w a 3 (H.map Ur.cs))(hl:H.length<=2000):
  C 264 #[U a H.length ca] w λe w'=>e=V (I (Xu H))/\Bw w w':=by
 have HA:Hid (∀(k:Nat) (x:Ur),H[k]? =some x->x.TF=0->(∀j y,j<k->H[j]? =some y->y.TF≠0)->Xu H=x.Uc):=λk x h1 h2 h3=>jo2 h1 h2 h3
 have HN:Hid ((∀j y,j<H.length->H[j]? =some y->y.TF≠0)->Xu H=⟨#[]⟩):=λh=>jjp λx hx=>by
  have⟨j,hj⟩:=Wq hx;exact h j x (Ux hj).1 hj
 generalize Xu H=R at *;delta C;go_in;go_wp2;go_loopw [7] (λs wr=>∃k:Nat,k<=H.length/\s=J k/\Hid (∀j y,j<k->H[j]? =some y->y.TF≠0)/\Bw w wr) (λs _=>H.length-(intOf s).toNat)
 .exact⟨0,Q,rfl,λj y h=>Q,Ui _ _⟩
 ·
  obtain⟨k,hk,rfl,hN,hB⟩:=hrel;have dI:=hB.size;by_cases hlt:k<H.length
  .have⟨x,hx⟩:=Vb hlt
   obtain⟨b,o,rfl,hc⟩:=(hA.below hB).at (i:=k) (r:=x.cs) (by rw[Uv,hx];rfl);have c0:wr.cell? (O b (o+k*3))=some (J x.at_):=hc 0 _ rfl;have c1:=hc 1 _ rfl;have c2:=hc 2 _ rfl;have eY:(k:Int)<(H.length:Int):=Q;have an:=hB.alloc dI (G #[J x.at_,J x.TF,I x.Uc] 201);by_cases h0:x.TF=0
   .have HR:Hid (R=x.Uc):=HA.out k x hx h0 hN.out
    rw[h0]at an c1;clear hc hx hN;go_wp2;go_ret;exact⟨vaQ HR.out.symm,an⟩
   .have HR:Hid (∀j y,j<k+1->H[j]? =some y->y.TF≠0):=λj y hj hy=>by
     by_cases e:j=k
     .subst e;rw[hx]at hy;injection hy with hy;subst hy;exact h0
     .exact hN.out j y Q hy
    clear hc hx hN;go_wp2;go_roundw
    .exact⟨k+1,Q,Z7,HR,an⟩
    .simp[intOf];omega
  .have HR:Hid (R=⟨#[]⟩):=HN.out λj y hj hy=>hN.out j y Q hy
   have eY:¬(k:Int)<(H.length:Int):=Q;go_wp2;go_ret;exact⟨vaQ HR.out.symm,hB⟩
theorem jqm(E:List Int)(g n pe pa i:Nat)(t:Int)(w:World)(hL:Jc w g E 0)(hE:E.length=n)(hi:i<n)(he:w.cell? (O pe 0)=some (U (some (O g 0)) n n))(ha:w.cell? (O pa 0)=some (J t)):
  C 263 #[J i,.pointer (some (O pe 0)),.pointer (some (O pa 0))] w λe w'=>e=V (Z (decide (t<Vd E i)))/\Bw w w':=by
 obtain⟨x,hx⟩:∃x,E[i]? =some x:=⟨_,Ug Q⟩;have c0:w.cell? (O g i)=some (J x):=hL i x Q hx;rw[jdm hx];have hin:(i:Int)<(n:Int):=Q;clear hx hL hE hi;delta C;go_in;go_wp2_with fail;go_quiet (fail);go_wp2;go_ret;exact⟨rfl,below_drewN (Ui _ _) _⟩
theorem jnd(H:List Ur)(g pe pa:Nat)(t:Int)(w:World)(hL:Jc w g (Vk H) 0)(hH:∀h∈H,h.at_<=253402300799)(hl:H.length<=2000)(he:w.cell? (O pe 0)=some (U (some (O g 0)) H.length H.length))(ha:w.cell? (O pa 0)=some (J t)):
  C 262 #[J H.length,.func (.func 263) #[] #[.pointer (some (O pe 0)),.pointer (some (O pa 0))]] w λe w'=>e=V (J (hcnt H t))/\Bw w w':=by
 have HC:Hid (∀m,m<=H.length->(∀i,i<m->Vd (Vk H) i<=t)->(∀i,m<=i->i<H.length->t<Vd (Vk H) i)->hcnt H t=m):=λm h1 h2 h3=>jwe hH h1 (λi hi=>by have:=h2 i hi;omega) h3
 have HM:Hid (∀a b,a<=b->b<H.length->t<Vd (Vk H) a->t<Vd (Vk H) b):=λa b h1 h2 h3=>by have:=jrx (H:=H) h1 Q;omega
 have lZ:=jcc H;generalize hcnt H t=c at *;clear hH;generalize Vk H=E at *;delta C;go_in;go_wp2;go_loopw [5,6] (λs5 s6 wr=>∃lo hi:Nat,lo<=hi/\hi<=H.length/\s5=J lo/\s6=J hi/\Hid (∀i,i<lo->Vd E i<=t)/\Hid (∀i,hi<=i->i<H.length->t<Vd E i)/\Bw w wr) (λs5 s6 _=>(intOf s6).toNat-(intOf s5).toNat)
 .exact⟨0,H.length,Q,Q,rfl,rfl,λt ht=>Q,λt h1 h2=>Q,Ui _ _⟩
 ·
  obtain⟨lo,hi,P5,FX,rfl,rfl,h1,h2,hB⟩:=hrel;by_cases hlt:lo<hi
  .have hS:=jqm E g H.length pe pa ((lo+hi) / 2) t wr (hL.below hB) lZ Q (Tx hB he) (Tx hB ha)
   rw[show(((lo+hi) / 2:Nat):Int)=((lo:Int)+(hi:Int)) / 2 by omega]at hS;by_cases hp:t<Vd E ((lo+hi) / 2)
   .have HR:Hid (∀i,(lo+hi) / 2<=i->i<H.length->t<Vd E i):=λi ha hb=>HM.out _ i ha hb hp
    rw[Uy hp]at hS;clear hp;go_wp2_with fail;refine hS.mono ?_;rintro e w2 ⟨rfl,ac⟩;go_wp2;go_roundw
    .exact⟨lo,(lo+hi) / 2,Q,Q,rfl,by rw[show((lo:Int)+(hi:Int)) / 2=(((lo+hi) / 2:Nat):Int) by omega],h1,HR,(TJ hB ac)⟩
    .simp[intOf];omega
   .have HR:Hid (∀i,i<(lo+hi) / 2+1->Vd E i<=t):=λi FY=>Int.not_lt.mp λhc=>hp (HM.out i ((lo+hi) / 2) Q Q hc)
    rw[dfe hp]at hS;clear hp;go_wp2_with fail;refine hS.mono ?_;rintro e w2 ⟨rfl,ac⟩;go_wp2;go_roundw
    .exact⟨(lo+hi) / 2+1,hi,Q,FX,by rw[show((lo:Int)+(hi:Int)) / 2+1=(((lo+hi) / 2+1:Nat):Int) by omega],rfl,HR,h2,(TJ hB ac)⟩
    .simp[intOf];omega
  .obtain rfl:hi=lo:=Q
   have HR:Hid (c=hi):=HC.out hi FX h1.out h2.out;go_wp2;go_ret;exact⟨Vh (by rw[HR.out]),hB⟩
theorem jc8(h0:w.cell? (O b 0)=some x0)(h1:w.cell? (O b 1)=some x1)(h2:w.cell? (O b 2)=some x2):
  (((w.setCell (O b 0) v0).setCell (O b 1) v1).setCell (O b 2) v2).cell? (O b 0)=some v0/\(((w.setCell (O b 0) v0).setCell (O b 1) v1).setCell (O b 2) v2).cell? (O b 1)=some v1/\(((w.setCell (O b 0) v0).setCell (O b 1) v1).setCell (O b 2) v2).cell? (O b 2)=some v2:=by
 refine⟨?_,?_,?_⟩
 .rw[Uh _ _ _ _ M,Uh _ _ _ _ M,U8 _ _ _ h0]
 .rw[Uh _ _ _ _ M]
  refine U8 _ _ _ (u:=x1) ?_;rw[Uh _ _ _ _ M];exact h1
 .refine U8 _ _ _ (u:=x2) ?_
  rw[Uh _ _ _ _ M,Uh _ _ _ _ M];exact h2
theorem jqq(pz:Nat)(t s:Int)(w:World)(hz:w.cell? (O pz 2)=some (J s)):
  C 259 #[J t,.pointer (some (O pz 0))] w λe w'=>e=V (Ur.v ⟨0,s,⟨#[]⟩⟩)/\Bw w w':=by
 have aH:=Tx (TK w (G #[J 0,J 0,ZV] 201)) hz;simp only[Ur.v];delta C;go_in;go_wp2;exact Ue (v:=.agg #[J 0,J s,ZV]) (by simp[results,Tryz.results259,go_sem]) rfl ⟨rfl,TK _ _⟩
theorem jqp(H:List Ur)(a:Option Addr)(ca g ph pe:Nat)(t:Int)(w:World)(hA:Za w a 3 (H.map Ur.cs))(hL:Jc w g (Vk H) 0)(hH:∀h∈H,h.at_<=253402300799)(hl:H.length<=2000)(hh:w.cell? (O ph 0)=some (U a H.length ca))(he:w.cell? (O pe 0)=some (U (some (O g 0)) H.length H.length)):
  C 261 #[J t,.pointer (some (O ph 0)),.pointer (some (O pe 0))] w λe w'=>e=V (Zp H (hcnt H t)).v/\Bw w w':=by
 have ag:=(TK w (G #[J t] 2)).alloc M (G #[J 0,J 0,ZV] 201);have hF:=λw (h:Za w a 3 (H.map Ur.cs))=>jhj H a ca w h hl
 have hc:=jwz H t;have h0:=Tx ag hh;have h1:=Tx ag he;have ha:((w.alloc (G #[J t] 2)).alloc (G #[J 0,J 0,ZV] 201)).cell? (O w.heap.size 0)=some (J t):=Z8;have hS:=jnd H g pe w.heap.size t ((w.alloc (G #[J t] 2)).alloc (G #[J 0,J 0,ZV] 201)) (hL.below ag) hH hl h1 ha;have⟨m,hm⟩:=TY (hcnt H t);rw[hm]at hS hc ⊢;clear hm hH hL;delta C;go_in;go_wp2_with fail;refine hS.mono ?_;rintro e w1 ⟨rfl,hb1⟩;have⟨aX,dg⟩:=Uq hb1;have aj:=ag.trans (hb1.mono Z6);have r0:w1.cell? (O (w.heap.size+1) 0)=some (J 0):=(aX _ _ M).trans Z8;have r1:w1.cell? (O (w.heap.size+1) 1)=some (J 0):=(aX _ _ M).trans Z8;have r2:w1.cell? (O (w.heap.size+1) 2)=some (ZV):=(aX _ _ M).trans Z8;have f0:w1.frozen? (O (w.heap.size+1) 0)=false:=(dg _ _ M).trans Z8;have f1:w1.frozen? (O (w.heap.size+1) 1)=false:=(dg _ _ M).trans Z8;have f2:w1.frozen? (O (w.heap.size+1) 2)=false:=(dg _ _ M).trans Z8;have y0:=Tx aj hh;clear aX dg hb1 hS ha h0 h1;cases m with
 |zero=>
  go_wp2_with fail;refine(hF _ (hA.below aj)).mono ?_;rintro e w2 ⟨rfl,ac⟩;have⟨cU,eE⟩:=Uq ac;have an:=TJ aj ac;have q0:=Tx ac r0;have q1:=Tx ac r1;have q2:=Tx ac r2;have e0:=(eE _ _ (TV r0)).trans f0;have e1:=(eE _ _ (TV r1)).trans f1;have e2:=(eE _ _ (TV r2)).trans f2;have⟨s0,s1,s2⟩:=jc8 (v0:=J 0) (v1:=J 0) (v2:=I (Xu H)) q0 q1 q2;clear cU eE ac r0 r1 r2 f0 f1 f2;go_wp2;exact Ue (v:=.agg #[J 0,J 0,I (Xu H)]) (by simp[results,Tryz.results261,go_sem,s0,s1,s2]) rfl ⟨rfl,((an.setCell (vQs _) _).setCell (vQs _) _).setCell (vQs _) _⟩
 |succ m=>
  obtain⟨x,hx⟩:∃x,H[m]? =some x:=⟨_,Ug Q⟩;obtain⟨b,o,rfl,fx⟩:=(hA.below aj).at (i:=m) (r:=x.cs) (by rw[Uv,hx];rfl);have c0:w1.cell? (O b (o+m*3))=some (J x.at_):=fx 0 _ rfl;have c1:=fx 1 _ rfl;have c2:=fx 2 _ rfl;have HR:Hid (Zp H (m+1)=x):=by simp only[Hid,Zp];rw[hx];rfl
  have⟨s0,s1,s2⟩:=jc8 (v0:=J x.at_) (v1:=J x.TF) (v2:=I x.Uc) r0 r1 r2;have P9:(m:Int)<(H.length:Int):=Q;clear fx hx;go_wp2;exact Ue (v:=.agg #[J x.at_,J x.TF,I x.Uc]) (by simp[results,Tryz.results261,go_sem,s0,s1,s2]) rfl ⟨by rw[HR.out];rfl,((aj.setCell (vQs _) _).setCell (vQs _) _).setCell (vQs _) _⟩
def Mid(n0 n1:Nat)(w W:World):Prop:=∀b,n0<=b->b<n1->W.heap[b]? =w.heap[b]?
theorem Mid.refl(n0 n1:Nat)(w:World):Mid n0 n1 w w:=λ_ _ _=>rfl
theorem Mid.trans{W':World}(h:Mid n0 n1 w W)(h':Mid n0 n1 W W'):Mid n0 n1 w W':=λb h1 h2=>(h' b h1 h2).trans (h b h1 h2)
theorem Mid.of_below(h:Bw w W)(hn:n1<=w.heap.size):Mid n0 n1 w W:=λb _ h2=>h.block b Q
theorem Mid.cell(h:Mid n0 n1 w W){b o:Nat}{v:Value}(h1:n0<=b)(h2:b<n1)(hc:w.cell? (O b o)=some v):W.cell? (O b o)=some v:=(World.cell?_of_block (a:=(O b o)) (h b h1 h2)).trans hc
theorem Za.Uj{a:Option Addr}{q:Nat}{rows:List (List Value)}(h:Za w a q rows)(hm:Mid n0 n1 w W)(ha:∀b o,a=some (O b o)->n0<=b/\b<n1):Za W a q rows:=by
 rcases h with h|⟨b,o,rfl,h⟩
 .exact .inl h
 .have⟨h1,h2⟩:=ha b o rfl
  exact .inr ⟨b,o,rfl,λi j r c hi hj=>hm.cell h1 h2 (h i j r c hi hj)⟩
structure Ju(w:World)(n0 n1 K:Nat)(cap:Array Value)(e:TX)(H:List Ur):Prop where
 go:∀(args:Array Value) (W:World),(callFunc K args).run Tryz.prog W=.ok (.enter K args) W
 tell:∀(W:World) (t:Int),Mid n0 n1 w W->C K (#[J t]++cap) W λr W'=>r=V (Vz e H t).v/\Bw W W'
theorem Ju.Uj{K:Nat}{cap:Array Value}(h:Ju w n0 n1 K cap e H)(hb:Mid n0 n1 w w'):Ju w' n0 n1 K cap e H:=⟨h.go,λW t hB=>h.tell W t (hb.trans hB)⟩
theorem jom(e:TX)(H:List Ur)(a:Option Addr)(ca n0:Nat)(w:World)(hA:Za w a 3 (H.map Ur.cs))(ha:∀b o,a=some (O b o)->n0<=b/\b<w.heap.size)(hn:n0<=w.heap.size)(hH:∀h∈H,h.at_<=253402300799)(hl:H.length<=2000):
  C 227 #[e.v,U a H.length ca] w λr W'=>∃K cap,r=V (.func (.func K) #[] cap)/\Ju W' n0 W'.heap.size K cap e H/\Bw w W':=by
 have hE:=λw (h:Za w a 3 (H.map Ur.cs))=>jgf H a ca w h hl
 have ag:=(TK w (G #[J e.TI,I e.Tw,J e.TF,I e.Uz,J e.Ua,I e.of] 159)).alloc M (G #[U a H.length ca] 196);obtain⟨z0,z1⟩:(λz:World=>z.cell? (O w.heap.size 2)=some (J e.TF)/\z.cell? (O (w.heap.size+1) 0)=some (U a H.length ca)) ((w.alloc (G #[J e.TI,I e.Tw,J e.TF,I e.Uz,J e.Ua,I e.of] 159)).alloc (G #[U a H.length ca] 196)):=Z8;by_cases h0:e.Tw.size=0
 .have hr:e.Tw=⟨#[]⟩:=jf1 (l:=[]) (by rw[<- List.length_eq_zero_iff,Wi];exact h0)
  have HF:Hid (Ju ((w.alloc (G #[J e.TI,I e.Tw,J e.TF,I e.Uz,J e.Ua,I e.of] 159)).alloc (G #[U a H.length ca] 196)) n0 ((w.alloc (G #[J e.TI,I e.Tw,J e.TF,I e.Uz,J e.Ua,I e.of] 159)).alloc (G #[U a H.length ca] 196)).heap.size 259 #[.pointer (some (O w.heap.size 0))] e H):=⟨λ_ _=>Z4,λW t hB=>by
   rw[jjm h0]
   exact jqq w.heap.size t e.TF W (hB.cell hn Z6 z0)⟩
  rw[hr]at HF ag;clear h0 z0 z1;unfold TX.v;delta C;go_in;go_wp2;go_ret;exact⟨_,_,rfl,HF.out,ag⟩
 .have az:e.Tw.toList.isEmpty=false:=by
   cases h:e.Tw.toList with
   |nil=>exact absurd (by rw[YE]at h;rw[<- Wi,h];rfl) h0
   |cons x l=>rfl
  have dP:((w.alloc (G #[J e.TI,I e.Tw,J e.TF,I e.Uz,J e.Ua,I e.of] 159)).alloc (G #[U a H.length ca] 196)).heap.size=w.heap.size+1+1:=M;have pB:=hE ((w.alloc (G #[J e.TI,I e.Tw,J e.TF,I e.Uz,J e.Ua,I e.of] 159)).alloc (G #[U a H.length ca] 196)) (hA.below ag);rw[dP]at pB;unfold TX.v;delta C;go_in;go_wp2_with fail;refine pB.mono ?_;rintro r w1 ⟨rfl,hL,hb1⟩;have aj:=ag.trans (hb1.mono Q);have y1:=Tx (by first|exact hb1|(rw[dP];exact hb1)) z1;have ac:=TK w1 (G #[U (some (O (w.heap.size+1+1) 0)) H.length H.length] 91);have an:=TJ aj ac;have x1:=Tx ac y1;have x2:(w1.alloc (G #[U (some (O (w.heap.size+1+1) 0)) H.length H.length] 91)).cell? (O w1.heap.size 0)=some (U (some (O (w.heap.size+1+1) 0)) H.length H.length):=Z8;have cY:=hA.below an;have nY:=hL.below ac
  have HF:Hid (Ju (w1.alloc (G #[U (some (O (w.heap.size+1+1) 0)) H.length H.length] 91)) n0 (w1.alloc (G #[U (some (O (w.heap.size+1+1) 0)) H.length H.length] 91)).heap.size 261 #[.pointer (some (O (w.heap.size+1) 0)),.pointer (some (O w1.heap.size 0))] e H):=⟨λ_ _=>Z4,λW t hB=>by
   rw[jen h0]
   exact jqp H a ca (w.heap.size+1+1) (w.heap.size+1) w1.heap.size t W (cY.Uj hB λb o e=>by have:=ha b o e;have:=an.size;omega) (λi u hi hu=>hB.cell Q (TV (nY i u hi hu)) (nY i u hi hu)) hH hl (hB.cell Q (TV x1) x1) (hB.cell (by have:=aj.size;omega) (TV x2) x2)⟩
  clear pB hE hL hb1 cY nY x1 x2 ac y1 z0 z1;go_wp2;go_ret;exact⟨_,_,rfl,HF.out,an⟩
theorem jqr(e:TX)(H:List Ur)(n0 n1 K:Nat)(cap:Array Value)(b:Int)(w:World)(hF:Ju w n0 n1 K cap e H)(hn:n1<=w.heap.size)(h1: -62135596800<=e.Ua)(h2:e.Ua<=253402300799)(h3: -86400<=e.TI)(h4:e.TI<=86400)(h5:∀t, -7200<=(Vz e H t).TF/\(Vz e H t).TF<=7200):
  C 228 #[e.v,J b,.func (.func K) #[] cap] w λr W'=>r=V (J (VT e H b))/\Bw w W':=by
 have ag:=TK w (G #[J e.TI,I e.Tw,J e.TF,I e.Uz,J e.Ua,I e.of] 159);cases hs:(e.of.toList==[115])
 .cases hw:(e.of.toList==[119])
  .have HR:Hid (VT e H b=max b (min e.Ua 253402300799)):=by simp only[Hid,VT,vaZ];rw[hs,hw];rfl
   unfold TX.v;delta C;go_in;go_wp2;go_ret;exact⟨Vh HR.out.symm,ag⟩
  .have HR:Hid (VT e H b=max b (min (e.Ua-e.TI-(Vz e H (e.Ua-e.TI-1)).TF) 253402300799)):=by simp only[Hid,VT,vaZ];rw[hs,hw];rfl
   have hC:=hF.tell _ (e.Ua-e.TI-1) (Mid.of_below ag hn);have xZ:=hF.go;have h6:=h5 (e.Ua-e.TI-1);generalize Vz e H (e.Ua-e.TI-1)=F at *;have qA:∀w,(Instr.field 201 (.agg #[J F.at_,J F.TF,I F.Uc]) 1).run Tryz.prog w=.ok (J F.TF) w:=λ_=>Z4
   unfold Ur.v at hC;unfold TX.v;delta C;go_in;go_wp2_with fail;refine hC.mono ?_;rintro r w1 ⟨rfl,hb1⟩;go_wp2;go_ret;exact⟨Vh HR.out.symm,ag.trans (hb1.mono M)⟩
 .have HR:Hid (VT e H b=max b (min (e.Ua-e.TI) 253402300799)):=by simp only[Hid,VT,vaZ];rw[hs];rfl
  unfold TX.v;delta C;go_in;go_wp2;go_ret;exact⟨Vh HR.out.symm,ag⟩
theorem jfo{x3 v3:Value}(h0:w.cell? (O b 0)=some x0)(h1:w.cell? (O b 1)=some x1)(h2:w.cell? (O b 2)=some x2)(h3:w.cell? (O b 3)=some x3):
  ((((w.setCell (O b 0) v0).setCell (O b 1) v1).setCell (O b 2) v2).setCell (O b 3) v3).cell? (O b 0)=some v0/\((((w.setCell (O b 0) v0).setCell (O b 1) v1).setCell (O b 2) v2).setCell (O b 3) v3).cell? (O b 1)=some v1/\((((w.setCell (O b 0) v0).setCell (O b 1) v1).setCell (O b 2) v2).setCell (O b 3) v3).cell? (O b 2)=some v2/\((((w.setCell (O b 0) v0).setCell (O b 1) v1).setCell (O b 2) v2).setCell (O b 3) v3).cell? (O b 3)=some v3:=by
 refine⟨?_,?_,?_,?_⟩
 .rw[Uh _ _ _ _ M,Uh _ _ _ _ M,Uh _ _ _ _ M,U8 _ _ _ h0]
 .rw[Uh _ _ _ _ M,Uh _ _ _ _ M]
  refine U8 _ _ _ (u:=x1) ?_;rw[Uh _ _ _ _ M];exact h1
 .rw[Uh _ _ _ _ M]
  refine U8 _ _ _ (u:=x2) ?_;rw[Uh _ _ _ _ M,Uh _ _ _ _ M];exact h2
 .refine U8 _ _ _ (u:=x3) ?_
  rw[Uh _ _ _ _ M,Uh _ _ _ _ M,Uh _ _ _ _ M];exact h3
theorem ji2(e:TX)(F:Ur)(t:Int)(w:World)(hM:ZH w)(hf:e.Uz.size<=1048576)(hl:F.Uc.size<=1048576)(h3: -86400<=e.TI)(h4:e.TI<=86400)(h5: -7200<=F.TF)(h6:F.TF<=7200):
  C 231 #[e.v,J t,F.v] w λr W'=>r=V (XF e F t).v/\Bw w W':=by
 have hA:=λw hM=>jqu e.Uz F.Uc F.TF w hM hf hl
 have HR:Hid ((XF e F t).v=.agg #[J t,J (e.TI+F.TF),J F.TF,I (jki e.Uz F.Uc F.TF)]):=rfl;generalize jki e.Uz F.Uc F.TF=ab at *;generalize (XF e F t).v=RV at *;have ag:=(((TK w (G #[J e.TI,I e.Tw,J e.TF,I e.Uz,J e.Ua,I e.of] 159)).alloc M (G #[J F.at_,J F.TF,I F.Uc] 201)).alloc Z6 (G #[J 0,J 0,J 0,ZV] 157));obtain⟨k0,k3,l1,l2,r0,r1,r2,r3⟩:(λz:World=>z.cell? (O w.heap.size 0)=some (J e.TI)/\z.cell? (O w.heap.size 3)=some (I e.Uz)/\z.cell? (O (w.heap.size+1) 1)=some (J F.TF)/\z.cell? (O (w.heap.size+1) 2)=some (I F.Uc)/\z.cell? (O (w.heap.size+1+1) 0)=some (J 0)/\z.cell? (O (w.heap.size+1+1) 1)=some (J 0)/\z.cell? (O (w.heap.size+1+1) 2)=some (J 0)/\z.cell? (O (w.heap.size+1+1) 3)=some (ZV)) (((w.alloc (G #[J e.TI,I e.Tw,J e.TF,I e.Uz,J e.Ua,I e.of] 159)).alloc (G #[J F.at_,J F.TF,I F.Uc] 201)).alloc (G #[J 0,J 0,J 0,ZV] 157)):=Z8;have f0:∀j,j<4->(((w.alloc (G #[J e.TI,I e.Tw,J e.TF,I e.Uz,J e.Ua,I e.of] 159)).alloc (G #[J F.at_,J F.TF,I F.Uc] 201)).alloc (G #[J 0,J 0,J 0,ZV] 157)).frozen? (O (w.heap.size+1+1) j)=false:=λj hj=>Z8
 unfold TX.v Ur.v;delta C;go_in;go_wp2_with fail;generalize (((w.alloc (G #[J e.TI,I e.Tw,J e.TF,I e.Uz,J e.Ua,I e.of] 159)).alloc (G #[J F.at_,J F.TF,I F.Uc] 201)).alloc (G #[J 0,J 0,J 0,ZV] 157))=W at *;have bY:Bw w W.drew:=ag.trans ((UF W).mono ag.size);have JE:=hM.of_below bY;have gF:¬w.heap.size+1+1=w.heap.size:=Q;have vk:¬w.heap.size=w.heap.size+1+1:=Q;have KS:IntKind.i64.wrap (e.TI+F.TF)=e.TI+F.TF:=by rw[IntKind.wrap_i64];omega
 go_region_held3 (λw'=>w'.cell? (O w.heap.size 0)=some (J e.TI)/\w'.cell? (O w.heap.size 3)=some (I e.Uz)/\w'.cell? (O (w.heap.size+1) 1)=some (J F.TF)/\w'.cell? (O (w.heap.size+1) 2)=some (I F.Uc)) (go_keep) ((go_at_call 266;refine(hA _ JE).mono ?_;rintro r w4 ⟨rfl,hb⟩;have q0:=Tx hb k0;have q3:=Tx hb k3;have p1:=Tx hb l1;have p2:=Tx hb l2;have s0:=Tx hb r0;have s1:=Tx hb r1;have s2:=Tx hb r2;have s3:=Tx hb r3;have z0:w4.frozen? (O (w.heap.size+1+1) 0)=false:=((Uq hb).2 _ _ (TV r0)).trans (f0 0 Q);have z1:w4.frozen? (O (w.heap.size+1+1) 1)=false:=((Uq hb).2 _ _ (TV r0)).trans (f0 1 Q);have z2:w4.frozen? (O (w.heap.size+1+1) 2)=false:=((Uq hb).2 _ _ (TV r0)).trans (f0 2 Q);have z3:w4.frozen? (O (w.heap.size+1+1) 3)=false:=((Uq hb).2 _ _ (TV r0)).trans (f0 3 Q)))
 all_goals
  go_wp2;have hB:Bw w w4:=TJ bY hb;have⟨u0,u1,u2,u3⟩:=jfo (v0:=J t) (v1:=J (e.TI+F.TF)) (v2:=J F.TF) (v3:=I ab) s0 s1 s2 s3;exact Ue (v:=.agg #[J t,J (e.TI+F.TF),J F.TF,I ab]) (by simp[results,Tryz.results231,go_sem,u0,u1,u2,u3]) rfl ⟨by rw[HR.out],(((hB.setCell (show w.heap.size<=w.heap.size+1+1 by omega) _).setCell (show w.heap.size<=w.heap.size+1+1 by omega) _).setCell (show w.heap.size<=w.heap.size+1+1 by omega) _).setCell (show w.heap.size<=w.heap.size+1+1 by omega) _⟩
def Zf(w:World)(base:Nat)(v:Value)(T:List Ub):Prop:=w.ownsRow base 157 4 v T.length (T.map Ub.cs).flatten
theorem Zf.add(h:w.ownsRow base 157 4 v (T.length+1) ((T.map Ub.cs).flatten++x.cs)):Zf w base v (T++[x]):=by
 unfold Zf;rw[Vq,Vr,List.flatten_append]
 simpa using h
theorem jsq{P:List Ub}:∀r∈P.map Ub.cs,r.length=4:=λr hr=>by
 obtain⟨x,_,rfl⟩:=List.mem_map.mp hr;rfl
theorem Zf.seq(h:Zf w base v T):∃a cap,v=.slice a T.length cap/\Za w a 4 (T.map Ub.cs):=by
 obtain⟨a,cap,h1,h2,h3⟩:=Ym (rows:=T.map Ub.cs) (by rw[U7];exact h) jsq;rw[U7]at h1;exact⟨a,cap,h1,h2⟩
theorem joe:(Tryz.prog.info? 157).map (λi=>(i.zero,i.size,i.bytes))=some (some (.agg #[J 0,J 0,J 0,ZV]),4,40):=Z4
theorem jqz: ∃ a b c d e f g h i j k l, (Tryz.prog.fieldsOf 157).toList = [⟨ "At", 2, 0, false, a, b, c⟩, ⟨ "Offset", 2, 1, false, d, e, f⟩, ⟨ "Save", 2, 2, false, g, h, i⟩, ⟨ "Abbr", 9, 3, false, j, k, l⟩] := ⟨_, _, _, _, _, _, _, _, _, _, _, _, rfl⟩
theorem jse(t o1 s1 o2 s2:Int)(a1 a2:ByteArray)(w:World):(binOp .eql 157 (.agg #[J t,J o1,J s1,I a1]) (.agg #[J t,J o2,J s2,I a2])).run Tryz.prog w=.ok (Z (Ye ⟨t,o1,s1,a1⟩ ⟨t,o2,s2,a2⟩)) w:=by
 have ht:Tryz.prog.underlying 157=some (.struct (Tryz.prog.fieldsOf 157)):=Z4;have hp:Tryz.prog.stoodInHeld 157=false:=Z4;have⟨a,b,c,d,e,f,g,h,i,j,k,l,hf⟩:=jqz;rw[run_eql_struct,run_equalIn_agg _ 9999 _ _ _ ht hp,hf];simp[Op.eqFields,go_sem,Ye];by_cases h1:o1=o2
 .by_cases h2:s1=s2
  .simp[h1,h2]
   by_cases h3:a1.toList=a2.toList
   .simp[h3]
   .simp[h3]
  .simp[h1,h2]
 .simp[h1]
theorem jk3(x y:Operand)(v1 v2:Array Value)(w:World):(eqGuard .eql 157 x y (.agg v1) (.agg v2)).run Tryz.prog w=.ok () w:=run_eqGuard_agg w _ _ _ _ _ _ Z4
theorem jfu(T:List Ub)(x:Ub)(v:Value)(base:Nat)(w:World)(hT:Zf w base v T)(hb:base<=w.heap.size)(hl:T.length<=100000):
  C 230 #[v,x.v] w λe W'=>∃v',e=V v'/\Zf W' base v' (Vu T x)/\Fr (λb=>v.ownBlock=some b) w W'/\(v'.ownBlock=v.ownBlock\/∃g,v'.ownBlock=some g/\w.heap.size<=g):=by
 have⟨i0,hi,aG,aH,aF⟩:=info_parts joe;obtain⟨a,cap,rfl,hS⟩:=hT.seq;have ag:=TK w (G #[J x.at_,J x.TI,J x.TF,I x.UD] 157);cases hL:T.getLast? with
 | none=>
  have fv:T=[]:=by simpa using hL
  subst fv;have HR:Hid (Vu [] x=[]++[x]):=rfl;have dv:Zf (w.alloc (G #[J x.at_,J x.TI,J x.TF,I x.UD] 157)) base (U a 0 cap) []:=UC hT _;generalize Vu [] x=R at *;unfold Ub.v;delta C;go_in
  go_wp2_with (first
   |(at_builtin;refine wpList_append_lies _ rfl _ _ 106 rfl base 157 i0 (.agg #[J 0,J 0,J 0,.string ⟨#[]⟩]) 4 40 Tryz.underlying106 hi aG aH aF rfl Z5 _ _ _ rfl (UC dv _) ⟨w.heap.size+1,0,none⟩ 1 1 [J x.at_,J x.TI,J x.TF,.string x.UD] rfl rfl ?c1 ?c2 Z5 ?c3 ?c4 ?c5 _ rfl ?_)
   |fail)
  case c1=>simpa using Vy (w.alloc (G #[J x.at_,J x.TI,J x.TF,I x.UD] 157)) [J x.at_,J x.TI,J x.TF,I x.UD] 157
  case c2=>intro u hu;simp at hu;rcases hu with rfl|rfl|rfl|rfl<;>rfl
  case c3=>unfold maxLen;simp
  case c4=>simp
  case c5=>simp;omega
  intro g1 aC w1 av af bE hlt1;have HO:Hid (Zf w1 base (U (some (O g1 0)) (0+1) aC) ([]++[x])):=Zf.add (T:=[]) av;have hF:Fr (λb=>(U a 0 cap).ownBlock=some b) w w1:=((Fr.of_below ag).trans (Fr.of_below (TK _ _))).trans (Fr.XY af);have dh:(U (some (O g1 0)) (0+1) aC).ownBlock=(U a 0 cap).ownBlock\/∃g,(U (some (O g1 0)) (0+1) aC).ownBlock=some g/\w.heap.size<=g:=bE.imp (λh=>h.symm) λh=>⟨g1,rfl,by rw[h];first|omega|(simp;omega)⟩
  clear av af bE hlt1 hT dv hS;go_wp2;go_ret;exact⟨_,rfl,by rw[HR.out];exact HO.out,hF,dh⟩
 |some y=>
  obtain⟨n,hn⟩:∃n,T.length=n+1:=by
   cases T with
   |nil=>simp at hL
   |cons z Tt=>exact⟨Tt.length,rfl⟩
  have hy:T[n]? =some y:=by rw[List.getLast?_eq_getElem?,hn]at hL;exact hL
  have⟨b,o,ha,hc⟩:=hS.at (i:=n) (r:=y.cs) (by rw[Uv,hy];rfl);subst ha;have c0:(w.alloc (G #[J x.at_,J x.TI,J x.TF,I x.UD] 157)).cell? (O b (o+n*4))=some (J y.at_):=Tx ag (hc 0 _ rfl);have c1:=Tx ag (hc 1 _ rfl);have c2:=Tx ag (hc 2 _ rfl);have c3:=Tx ag (hc 3 _ rfl);have gg:=λw=>jse x.at_ y.TI y.TF x.TI x.TF y.UD x.UD w
  have C5:=jk3;have e1:Ye ⟨x.at_,y.TI,y.TF,y.UD⟩ ⟨x.at_,x.TI,x.TF,x.UD⟩=Ye y x:=rfl;rw[e1]at gg;have aj:Bw w (((w.alloc (G #[J x.at_,J x.TI,J x.TF,I x.UD] 157)).alloc (G #[J y.at_,J y.TI,J y.TF,I y.UD] 157)).setCell (O (w.heap.size+1) 0) (J x.at_)):=(ag.alloc M _).setCell (vQs _) _;have fH:(n:Int)<((n+1:Nat):Int):=Q;clear hc;rw[hn]at hT ⊢;cases hl:Ye y x
  .have HR:Hid (Vu T x=T++[x]):=jms hL hl
   rw[hl]at gg;have HT:Hid (w.ownsRow base 157 4 (U (some (O b o)) (n+1) cap) (n+1) (T.map Ub.cs).flatten):=by unfold Zf at hT;rw[hn]at hT;exact hT
   have HN:=hid hn;clear hl hL e1 hS hy hT;generalize Vu T x=R at *;unfold Ub.v;delta C;go_in
   go_wp2_with (first
    |(at_builtin;refine wpList_append_lies _ rfl _ _ 106 rfl base 157 i0 (.agg #[J 0,J 0,J 0,.string ⟨#[]⟩]) 4 40 Tryz.underlying106 hi aG aH aF rfl Z5 (.slice (some ⟨b,o,none⟩) (n+1) cap) (n+1) (T.map Ub.cs).flatten rfl ?d0 ⟨w.heap.size+1+1,0,none⟩ 1 1 [J x.at_,J x.TI,J x.TF,.string x.UD] rfl rfl ?d1 ?d2 Z5 ?d3 ?d4 ?d5 _ rfl ?_)
    |fail)
   case d0=>exact UC (UC (UC HT.out _) _) _
   case d1=>simpa using Vy ((w.alloc (G #[J x.at_,J x.TI,J x.TF,I x.UD] 157)).alloc (G #[J x.at_,J y.TI,J y.TF,I y.UD] 157)) [J x.at_,J x.TI,J x.TF,I x.UD] 157
   case d2=>intro u hu;simp at hu;rcases hu with rfl|rfl|rfl|rfl<;>rfl
   case d3=>unfold maxLen;omega
   case d4=>omega
   case d5=>simp;omega
   intro g1 aC w1 av af bE hlt1;have HO:Hid (Zf w1 base (U (some (O g1 0)) (n+1+1) aC) (T++[x])):=Zf.add (by rw[HN.out];exact av);have hF:Fr (λtj=>(U (some (O b o)) (n+1) cap).ownBlock=some tj) w w1:=(((Fr.of_below ag).trans (Fr.of_below (TK _ _))).trans (Fr.of_below (TK _ _))).trans (Fr.XY af);have dh:(U (some (O g1 0)) (n+1+1) aC).ownBlock=(U (some (O b o)) (n+1) cap).ownBlock\/∃g,(U (some (O g1 0)) (n+1+1) aC).ownBlock=some g/\w.heap.size<=g:=bE.imp (λh=>h.symm) λh=>⟨g1,rfl,by rw[h];first|omega|(simp;omega)⟩
   clear av af bE hlt1;go_wp2;go_ret;exact⟨_,rfl,by rw[HR.out];exact HO.out,hF,dh⟩
  .have HR:Hid (Vu T x=T):=jef hL hl
   rw[hl]at gg;have HT:Hid (Zf ((w.alloc (G #[J x.at_,J x.TI,J x.TF,I x.UD] 157)).alloc (G #[J x.at_,J y.TI,J y.TF,I y.UD] 157)) base (U (some (O b o)) (n+1) cap) T):=UC (UC hT _) _;have hF:Fr (λtj=>(U (some (O b o)) (n+1) cap).ownBlock=some tj) w ((w.alloc (G #[J x.at_,J x.TI,J x.TF,I x.UD] 157)).alloc (G #[J x.at_,J y.TI,J y.TF,I y.UD] 157)):=(Fr.of_below ag).trans (Fr.of_below (TK _ _));clear hl hL e1 hS hy hT;generalize Vu T x=R at *;unfold Ub.v;delta C;go_in;go_wp2;go_ret;exact⟨_,rfl,by rw[HR.out];exact HT.out,hF,.inl rfl⟩
theorem j0v(h:A.Pairwise (· < ·)){i k:Nat}(oB:i<k){x y:Int}(hx:A[i]? =some x)(hy:A[k]? =some y):x<y:=by
 obtain⟨h1,rfl⟩:=Ux hx;obtain⟨h2,rfl⟩:=Ux hy;exact List.pairwise_iff_getElem.mp h i k h1 h2 oB
theorem jzr:∀{L:List Int} {n:Int},(∀x∈L,x<n)->Vp L n=L++[n]:=by
 intro L
 induction L with
 |nil=>intro n _;rfl
 |cons x L ih=>
  intro n h;unfold Vp;rw[if_pos (h x M),ih λy hy=>h y (VW _ hy)];rfl
theorem jwm:∀{L:List Int} {n:Int} {k:Nat},(∀i x,i<k->L[i]? =some x->x<n)->L[k]? =some n->Vp L n=L:=by
 intro L
 induction L with
 |nil=>intro n k _ h;simp at h
 | cons x L ih=>
  intro n k h hk;cases k with
  |zero=>
   simp at hk;subst hk;unfold Vp;rw[if_neg Q,if_pos rfl]
  |succ k=>
   unfold Vp;rw[if_pos (h 0 x Q rfl),ih (k:=k) (λi y hi hy=>h (i+1) y Q (by simpa using hy)) (by simpa using hk)]
theorem jzp:∀{L:List Int} {n:Int} {k:Nat} {y:Int},(∀i x,i<k->L[i]? =some x->x<n)->L[k]? =some y->n<y->Vp L n=(L.take k++[n])++L.drop k:=by
 intro L
 induction L with
 |nil=>intro n k y _ h;simp at h
 | cons x L ih=>
  intro n k y h hk hy;cases k with
  |zero=>
   simp at hk;subst hk;unfold Vp;rw[if_neg Q,if_neg Q];rfl
  |succ k=>
   unfold Vp;rw[if_pos (h 0 x Q rfl),ih (k:=k) (y:=y) (λi z hi hz=>h (i+1) z Q (by simpa using hz)) (by simpa using hk) hy];rfl
theorem jmb:(Tryz.prog.info? 2).map (λi=>(i.zero,i.size,i.bytes))=some (some (J 0),1,8):=Z4
def Zs(w:World)(base:Nat)(v:Value)(L:List Int):Prop:=w.ownsRow base 2 1 v L.length (L.map (Value.int .i64))
theorem Zs.add{lH:List Int}(h:w.ownsRow base 2 1 v (L.length+lH.length) (L.map (Value.int .i64)++lH.map (Value.int .i64))):Zs w base v (L++lH):=by
 unfold Zs;rw[Vq,Vr];exact h
theorem Zs.open(h:Zs w base v L)(hn:0<L.length):∃g cap,v=.slice (some (O g 0)) L.length cap/\L.length<=cap/\g<w.heap.size/\base<=g/\∀(i:Nat) x,L[i]? =some x->w.cell? (O g i)=some (J x):=by
 rcases h.2 with⟨_,h0⟩|⟨g,cap,cur,hv,hb,hg,hc,_,_,_⟩
 .omega
 .refine⟨g,cap,hv,hc,(Array.getElem?_eq_some_iff.1 hg).1,hb,λi x hx=>?_⟩
  have h2:w.ownsRow base 2 1 (.slice (some (O g 0)) L.length cap) L.length (L.map (Value.int .i64)):=hv ▸ h;rw[h2.cellAt i (by have:=(Ux hx).1;omega),Uv,hx];rfl
theorem jls(L:List Int)(v:Value)(n:Int)(base:Nat)(w:World)(ai:Zs w base v L)(BR:base<=w.heap.size)(h0:0<L.length)(h1:L.length<=100000)(jk:L.Pairwise (· < ·)):
  C 144 #[v,J n] w λe W'=>∃v',e=V v'/\Zs W' base v' (Vp L n)/\Below base w W':=by
 have⟨i0,hi,aG,aH,aF⟩:=info_parts jmb;obtain⟨g,cap,rfl,eh,hg,jG,aE⟩:=ai.open h0;obtain⟨q,hq⟩:∃q,L.length=q+1:=⟨L.length-1,Q⟩;obtain⟨z,hz⟩:∃z,L[q]? =some z:=⟨_,Ug Q⟩;have cz:=aE q z hz;have HC:=hid aE;have HQ:=hid hq;have cr:∀x∈L,x<=z:=λx hx=>by
  have⟨i,hi⟩:=Wq hx;have i7:=(Ux hi).1;by_cases e:i=q
  .subst e;rw[hz]at hi;obtain rfl:=Uw hi;exact Int.le_refl _
  .have:=j0v jk (show i<q by omega) hi hz;omega
 have av:=ai;rw[hq]at av eh h1 ⊢;clear aE hq;have bq:IntKind.i64.wrap ((q:Int)+1-1)=q:=by rw[show(q:Int)+1-1=q by omega];exact wrap_small _ Q Q
 by_cases yl:z<n
 .have HE:Hid (Vp L n=L++[n]):=jzr λx hx=>by have:=cr x hx;omega
  clear cr HC jk hz;delta C;go_in
  go_wp2_with (first
   |(at_builtin;refine wpList_append_own _ rfl _ _ 91 rfl base 2 i0 (J 0) 1 8 Tryz.underlying91 hi aG aH aF rfl Z5 _ _ _ rfl (UC av _) ⟨w.heap.size,0,none⟩ 1 1 [J n] rfl rfl ?c1 ?c2 ?c3 ?c4 ?c5 ?_)
   |fail)
  case c1=>exact cell_one_new _ _ _
  case c2=>intro u hu;simp at hu;subst hu;rfl
  case c3=>have:=HQ.out;unfold maxLen;omega
  case c4=>have:=HQ.out;omega
  case c5=>simp;omega
  intro v' w1 ao af _;have aj:Below base w w1:=((Ui base w).alloc BR _).grown af Z6 (λj hj=>(av.lt j hj).1);have HO:Hid (Zs w1 base v' (Vp L n)):=by simp only[Hid];rw[HE.out];exact Zs.add (lH:=[n]) ao
  clear af ao ai av;go_wp2;go_ret;exact⟨_,rfl,HO.out,aj⟩
 .have Cq:n<=z:=Q
  delta C;go_in;go_wp2;go_loopw [5] (λs wr=>∃k:Nat,k<=q/\s=J k/\Hid (∀i x,i<k->L[i]? =some x->x<n)/\wr=w) (λs _=>q+1-(intOf s).toNat)
  .exact⟨0,Q,rfl,λi x hi=>Q,rfl⟩
  ·
   obtain⟨k,hk,rfl,HS,hw⟩:=hrel;have hw:=hw.symm;subst hw;obtain⟨y,hy⟩:∃y,L[k]? =some y:=⟨_,Ug (by rw[HQ.out];omega)⟩;have cy:=HC.out k y hy;by_cases sO:y<n
   .have P4:k<q:=by
     by_cases e:k=q
     .subst e;rw[hz]at hy;obtain rfl:=Uw hy;omega
     .omega
    have HR:Hid (∀i x,i<k+1->L[i]? =some x->x<n):=λi x hi hx=>by
     by_cases e:i=k
     .subst e;rw[hy]at hx;obtain rfl:=Uw hx;exact sO
     .exact HS.out i x Q hx
    clear HS hy hz HC;go_wp2;go_roundw
    .exact⟨k+1,Q,Z7,HR,trivial⟩
    .simp[intOf];omega
   .by_cases e:y=n
    .subst e
     have HE:Hid (Vp L y=L):=jwm HS.out hy;clear HS hy hz HC;go_wp2;go_ret;exact⟨_,rfl,by rw[HE.out];exact av,Ui _ _⟩
    .have HE:Hid (Vp L n=(L.take k++[n])++L.drop k):=jzp HS.out hy Q
     have ey:(y==n)=false:=by simpa using e
     have lk:(L.take k).length=k:=by rw[List.length_take,HQ.out];omega
     have ld:(L.drop k).length=q+1-k:=by rw[List.length_drop,HQ.out]
     have n1:∀j u,((L.take k).map (Value.int .i64))[j]? =some u->(w.alloc (G #[] 2)).cell? (((O g 0):Addr).add j)=some u:=λj u hj=>by
      rw[Uv]at hj;obtain⟨x,hx,rfl⟩:=Option.map_eq_some_iff.mp hj;have Cc:j<k:=by have:=(Ux hx).1;omega
      rw[List.getElem?_take_of_lt Cc]at hx;rw[Y4,Nat.zero_add];exact Tx (TK w _) (HC.out j x hx)
     have HD:Hid (∀w2,Bw w w2->∀j u,((L.drop k).map (Value.int .i64))[j]? =some u->w2.cell? (((O g k):Addr).add j)=some u):=λw2 hb j u hj=>by
      rw[Uv]at hj;obtain⟨x,hx,rfl⟩:=Option.map_eq_some_iff.mp hj;rw[List.getElem?_drop]at hx;rw[Y4];exact Tx hb (HC.out (k+j) x hx)
     have o1:∀u∈(L.take k).map (Value.int .i64),u.oneCell'=true:=λu hu=>by obtain⟨x,_,rfl⟩:=List.mem_map.mp hu;rfl
     have o2:∀u∈(L.drop k).map (Value.int .i64),u.oneCell'=true:=λu hu=>by obtain⟨x,_,rfl⟩:=List.mem_map.mp hu;rfl
     have hE:=Yy w 2 1;have t1:((L.take k).map (Value.int .i64)).length=k*1:=by rw[U7,lk];omega
     have t2:((L.drop k).map (Value.int .i64)).length=(q+1-k)*1:=by rw[U7,ld];omega
     have iH:¬cap=k:=Q;have bk:(0:Int)<=(k:Int):=Q;have EL:(k:Int)<=(cap:Int):=Q;have Iq:(k:Int)<=(q:Int)+1:=Q;clear HS hy hz HC
     go_wp2_with (first
      |(at_builtin;refine wpList_append_own _ rfl _ _ 91 rfl w.heap.size 2 i0 (J 0) 1 8 Tryz.underlying91 hi aG aH aF rfl Z5 _ _ _ rfl hE ⟨g,0,none⟩ k cap ((L.take k).map (Value.int .i64)) rfl t1 n1 o1 ?d3 ?d4 ?d5 ?_)
      |fail)
     case d3=>unfold maxLen;omega
     case d4=>omega
     intro v1 w1 aw aP _;have aj:Bw w w1:=(TK w _).grown aP M (λj hj=>(hE.lt j hj).1);obtain⟨a1,m1,c1,rfl⟩:=UY aw;have bU:=aj.size;clear aP hE n1 o1
     go_wp2_with (first
      |(at_builtin;refine wpList_append_own _ rfl _ _ 91 rfl w.heap.size 2 i0 (J 0) 1 8 Tryz.underlying91 hi aG aH aF rfl Z5 _ _ _ rfl (UC aw _) ⟨w1.heap.size,0,none⟩ 1 1 [J n] rfl rfl ?e1 ?e2 ?e3 ?e4 ?e5 ?_)
      |fail)
     case e1=>exact cell_one_new _ _ _
     case e2=>intro u hu;simp at hu;subst hu;rfl
     case e3=>unfold maxLen;omega
     case e4=>omega
     case e5=>simp;omega
     intro v2 w2 aI aU _;have an:Bw w w2:=(aj.alloc aj.size _).grown aU Z6 (λj hj=>(aw.lt j hj).1);obtain⟨a2,m2,c2,rfl⟩:=UY aI;have dR:=an.size;have n2:=HD.out w2 an;clear aU aw
     go_wp2_with (first
      |(at_builtin;refine wpList_append_own _ rfl _ _ 91 rfl w.heap.size 2 i0 (J 0) 1 8 Tryz.underlying91 hi aG aH aF rfl Z5 _ _ _ rfl aI ⟨g,k,none⟩ (q+1-k) (cap-k) ((L.drop k).map (Value.int .i64)) rfl t2 n2 o2 ?f3 ?f4 ?f5 ?_)
      |fail)
     case f3=>unfold maxLen;omega
     case f4=>omega
     case f5=>omega
     intro v3 w3 gj aJ _;have ax:Bw w w3:=an.grown aJ Q (λj hj=>(aI.lt j hj).1);have HO:Hid (Zs w3 base v3 (Vp L n)):=by
      simp only[Hid];rw[HE.out];refine U4 (Zs.add (base:=w.heap.size) ?_) BR;rw[Vq,lk,ld,Vr]
      simpa using gj
     clear aJ gj aI;go_wp2;go_ret;exact⟨_,rfl,HO.out,ax.mono BR⟩
theorem jr6{b e:Int}{x:Ur}(hx:H[k]? =some x):UX (H.take (k+1)) b e=UX (H.take k) b e++(if b<x.at_/\x.at_<e then [x.at_]else []):=by
 unfold UX;rw[List.take_add_one,hx,Vr,List.filter_append]
 congr 1
 by_cases h:b<x.at_/\x.at_<e
 .rw[if_pos h];simp[h.1,h.2]
 .rw[if_neg h];simp;intro h1;exact Int.not_lt.mp λh2=>h ⟨h1,h2⟩
theorem jdo(H:List Ur)(b e:Int):(UX H b e).length<=H.length:=by
 unfold UX;have:=List.length_filter_le (λt=>decide (b<t)&&decide (t<e)) (H.map Ur.at_);rw[U7]at this;exact this
theorem jod(l:List Int):(l.mergeSort λx y=>decide (x<=y)).Pairwise (· <= ·):=by
 have:=List.pairwise_mergeSort (le:=fun(x y:Int)=>decide (x<=y)) (λa b c h1 h2=>by
  have:=VH h1;have:=VH h2;exact Uy Q) (λa b=>by
  by_cases h:a<=b
  .simp[h]
  .simp[show b<=a by omega]) l
 exact this.imp λh=>VH h
theorem je1(H:List Ur)(a:Option Addr)(ca:Nat)(b e:Int)(w:World)(hA:Za w a 3 (H.map Ur.cs))(hl:H.length<=2000):
  C 229 #[U a H.length ca,J b,J e] w λr W'=>∃v L,r=V v/\Zs W' w.heap.size v L/\L.Pairwise (· <= ·)/\L.Perm (b::UX H b e)/\Bw w W':=by
 have⟨i0,hi,aG,aH,aF⟩:=info_parts jmb;have ag:=TK w (G #[J b] 2);have nZ:Zs (w.alloc (G #[J b] 2)) w.heap.size (U (some (O w.heap.size 0)) 1 1) (b::UX (H.take 0) b e):=⟨by simp[UX],.inr ⟨w.heap.size,1,#[J b],by simp[UX],TP _,heap_alloc_new w _,by simp[UX],by unfold maxLen;omega,M,by simp[UX]⟩⟩;delta C;go_in;go_wp2;go_loopw [7,14] (λs7 kY wr=>∃(k:Nat) (p:Option Addr) (m c:Nat),k<=H.length/\kY=J k/\s7=U p m c/\Zs wr w.heap.size (U p m c) (b::UX (H.take k) b e)/\Bw w wr) (λ_ kY _=>H.length-(intOf kY).toNat)
 .exact⟨0,_,_,_,Q,rfl,rfl,nZ,ag⟩
 ·
  clear nZ ag;obtain⟨k,p,m,c,hk,rfl,rfl,hO,hB⟩:=hrel;have dI:=hB.size;by_cases hlt:k<H.length
  .have⟨x,hx⟩:=Vb hlt
   obtain⟨b9,o9,rfl,hc⟩:=(hA.below hB).at (i:=k) (r:=x.cs) (by rw[Uv,hx];rfl);have c0:wr.cell? (O b9 (o9+k*3))=some (J x.at_):=hc 0 _ rfl;have c1:=hc 1 _ rfl;have c2:=hc 2 _ rfl;have eY:(k:Int)<(H.length:Int):=Q;have HX:=jr6 (b:=b) (e:=e) hx;have iD:=jdo (H.take k) b e;have sL:(H.take k).length<=2000:=by rw[List.length_take];omega
   have an:=hB.alloc dI (G #[J x.at_,J x.TF,I x.Uc] 201);have aW:Zs (wr.alloc (G #[J x.at_,J x.TF,I x.Uc] 201)) w.heap.size (U p m c) (b::UX (H.take k) b e):=UC hO _;have⟨X,lC⟩:=TY (UX (H.take k) b e);rw[lC]at hO aW HX iD;clear hc hx lC;by_cases hin:b<x.at_/\x.at_<e
   .rw[if_pos hin]at HX
    have yX:=hid HX;have⟨g1,g2⟩:=hin;clear HX
    go_wp2_with (first
     |(at_builtin;refine wpList_append_own _ rfl _ _ 91 rfl w.heap.size 2 i0 (J 0) 1 8 Tryz.underlying91 hi aG aH aF rfl Z5 _ _ _ rfl (UC aW _) ⟨wr.heap.size+1,0,none⟩ 1 1 [J x.at_] rfl rfl ?c1 ?c2 ?c3 ?c4 ?c5 ?_)
     |fail)
    case c1=>simpa using cell_one_new (wr.alloc _) (J x.at_) _
    case c2=>intro u hu;simp at hu;subst hu;rfl
    case c3=>unfold maxLen;simp;omega
    case c4=>simp;omega
    case c5=>simp;omega
    .intro v' w1 ao af _
     have ax:Bw w w1:=(an.alloc Z6 _).grown af Z6 (λj hj=>(World.ownsRow.lt hO j hj).1);have HO:Hid (Zs w1 w.heap.size v' (b::(X++[x.at_]))):=by simpa [Hid,Zs]using ao
     obtain⟨p',m',c',rfl⟩:=UY ao;clear af ao hO aW;go_wp2;go_roundw
     .exact⟨k+1,p',m',c',Q,Z7,rfl,by rw[yX.out];exact HO.out,ax⟩
     .simp[intOf];omega
   .rw[if_neg hin,List.append_nil]at HX
    have HO:Hid (Zs (wr.alloc (G #[J x.at_,J x.TF,I x.Uc] 201)) w.heap.size (U p m c) (b::UX (H.take (k+1)) b e)):=by rw[HX];exact aW
    clear HX hO aW;by_cases g1:b<x.at_
    .have g2:¬x.at_<e:=λh=>hin ⟨g1,h⟩
     clear hin;go_wp2;go_roundw
     .exact⟨k+1,p,m,c,Q,Z7,rfl,HO.out,an⟩
     .simp[intOf];omega
    .clear hin
     go_wp2;go_roundw
     .exact⟨k+1,p,m,c,Q,Z7,rfl,HO.out,an⟩
     .simp[intOf];omega
  .have kD:k=H.length:=Q
   subst kD;rw[List.take_length]at hO;have iD:=jdo H b e;have⟨Tt,hZ⟩:=TY (b::UX H b e);have JQ:Tt.length<=2001:=by rw[<- hZ,List.length_cons];omega
   have j8:1<=Tt.length:=by rw[<- hZ,List.length_cons];omega
   have HZ:=hid hZ;rw[hZ]at hO;clear hZ;have mI:U p m c≠nS:=λh=>by
    rcases hO.2 with⟨_,h0⟩|⟨g,cap,cur,h0,_⟩
    .omega
    .rw[h]at h0;cases h0
   have⟨g',fK,he,xT,mB,vo,qw,sP,hH⟩:=Lib.holds_of_ownsRow hO mI;injection he with mD sh iI
   subst mD sh iI;have hS:=Tryz.slices_Sort_int g' 0 c Tt wr hH mB Q;obtain⟨so,vF⟩:∃so,(Tt.mergeSort λx y=>decide (x<=y))=so:=⟨_,rfl⟩;have nH:Hid (so.Pairwise (· <= ·)):=vF ▸ jod Tt;have ju:Hid (so.Perm (b::UX H b e)):=by rw[HZ.out];exact vF ▸ List.mergeSort_perm Tt _
   have iP:so.length=Tt.length:=by rw[<- vF];exact List.length_mergeSort Tt
   rw[vF]at hS;have Fc:∀q os,Bw w (grow (putRow (Value.int .i64) (Sort.ahead wr q) g' 0 so.toArray) os)/\Zs (grow (putRow (Value.int .i64) (Sort.ahead wr q) g' 0 so.toArray) os) w.heap.size (U (some (O g' 0)) Tt.length c) so:=λq os=>by
    have hb1:=Lib.below_putRow (enc:=Value.int .i64) (q:=q) (d:=so.toArray) hB xT;have sH:=Lib.ownsRow_putRow (q:=q) (k:=Tt.length) hO iP (TP _);have cQ:Below (putRow (Value.int .i64) (Sort.ahead wr q) g' 0 so.toArray).heap.size (putRow (Value.int .i64) (Sort.ahead wr q) g' 0 so.toArray) (grow (putRow (Value.int .i64) (Sort.ahead wr q) g' 0 so.toArray) os):=⟨rfl,rfl,rfl,M,λk hk=>Go.Sort.heap_grow_old _ _ hk⟩;refine⟨(TJ hb1 cQ),?_⟩;have yd:=UG sH cQ;unfold Zs;rw[iP];rw[show so.take Tt.length=so by rw[<- iP,List.take_length]]at yd;exact yd
   have HG:=hid Fc;clear Fc iP vF hH hO JQ mI sP iD;go_wp2_with fail;refine hS.mono ?_;rintro r w2 ⟨rfl,q,os,rfl⟩;have⟨ac,yd⟩:=HG.out q os;generalize grow (putRow (Value.int .i64) (Sort.ahead wr q) g' 0 so.toArray) os=w3 at *;go_wp2;go_ret;exact⟨_,so,rfl,yd,nH.out,ju.out,ac⟩
theorem j05{x z:Int}(h:ZD x y z=true)(hx:x<=2037):num x y z<=24836:=by
 have ⟨a,b,c,d,e,f⟩:=jyc h;have h3:=Cal.vbE x y c d;have h4:=Cal.vds (y:=x) (a:=y+1) (b:=13) Q Q Q;have h5:=Cal.vdr x;have h6:=Cal.vdv x a;have h7:=Cal.vdu (a:=x+1) (b:=2038) Q Q;have h8:Cal.Xo 2038=743999:=by unfold Cal.Xo;omega
 unfold num;omega
theorem j3f{m:Int}(h2:y<=2037)(t:ByteArray):VG y m t<=24836:=by
 unfold VG;split
 .rename_i h
  unfold nbB at h;simp only[UM]at h;exact j05 h.2.2 h2
 .omega
theorem vgg{m:Int}(hy:VK y m=true)(h2:y<=2037):VF y m s<=24843:=by
 have nl:=j05 (Y9 hy) h2;have nb:=j3f (m:=m) h2 (s.extract 5 s.size);have yo:=j3f (m:=m) h2 s;have w1:=Ze (s.extract 4 7);have w2:=Ze (s.extract 0 3);unfold VF;split
 .unfold WH
  split<;>omega
 .split
  .unfold YB
   split<;>omega
  .split
   .unfold WH
    split<;>omega
   .omega
theorem juj{x:Ud}(hx:Jo x){m:TU}:∀{n:Nat},1960<=y->y+n<=2038->m∈Ve i x y n->m.Ty<=2200000000:=by
 intro n
 induction n with
 |zero=>intro _ _ h;simp[Ve]at h
 |succ n ih=>
  intro h1 h2 h;rw[Ve,List.mem_append]at h;rcases h with h|h
  .exact ih h1 Q h
  .have hb:=vgg (s:=x.on) (jx9 (y:=y+n) (m:=x.UB) Q Q hx.UB.1 hx.UB.2) Q
   have ha:=hx.at_;unfold jdy at h;split at h
   .simp at h
   .simp at h
    subst h
    show 86400*VF (y+n) x.UB x.on+x.at_<=2200000000
    omega
theorem jui{l:List Ud}(hl:∀x∈l,Jo x){m:TU}:∀{k:Nat},m∈Vw nm l k->m.Ty<=2200000000:=by
 intro k
 induction k with
 |zero=>intro h;simp[Vw]at h
 |succ k ih=>
  intro h;rw[Vw,List.mem_append]at h;rcases h with h|h
  .exact ih h
  .split at h
   .rename_i x hx
    split at h
    .unfold Yd at h
     by_cases hy:yrs x=0
     .rw[hy]at h;simp[Ve]at h
     .exact juj (hl x (UH hx)) Q (by unfold yrs at *;omega) h
    .simp at h
   .simp at h
theorem jw8{l:List Ud}(hl:∀x∈l,Jo x):∀(P:List TU) (st:List Ur × Int), -7200<=st.2/\st.2<=7200->∀h∈(P.foldl (XE l off) st).1,h∈st.1\/∃m∈P,∃x sv,x∈l/\ -7200<=sv/\sv<=7200/\h=Yg x m.Ty off sv:=by
 intro P
 induction P with
 |nil=>intro st _ h hh;exact .inl hh
 |cons m P ih=>
  intro st hs h hh;rw[List.foldl_cons]at hh;cases hx:l[m.place]? with
  |none=>
   have e:XE l off st m=st:=by unfold XE;rw[hx]
   rw[e]at hh;rcases ih st hs h hh with h1|⟨q,hq,h2⟩
   .exact .inl h1
   .exact .inr ⟨q,VW _ hq,h2⟩
  |some x=>
   have e:XE l off st m=(st.1++[Yg x m.Ty off st.2],x.TF):=by unfold XE;rw[hx]
   rw[e]at hh;have de:=UH hx;rcases ih _ (hl x de).TF h hh with h1|⟨q,hq,h2⟩
   .rcases List.mem_append.mp h1 with h1|h1
    .exact .inl h1
    .simp at h1
     exact .inr ⟨m,M,x,st.2,de,hs.1,hs.2,h1⟩
   .exact .inr ⟨q,VW _ hq,h2⟩
def vc8(l:List TU):List TU:=l.foldr (λx s=>Wh [x] s) []
theorem jfm:∀l:List TU,Ja l (vc8 l)
 |[]=>jfl M
 |x::l=>jm3 (l1:=[x]) (jfl M) (jfm l)
def Vg(r:Un)(nm:ByteArray)(off:Int):List Ur × Bool:=if (Vw nm r.Tw r.Tw.length).length<=2000 then((VU r.Tw off (vc8 (Vw nm r.Tw r.Tw.length))).1,true)else([],false)
theorem j2i(r:Un)(nm:ByteArray)(off:Int):jxz r nm off (Vg r nm off).1 (Vg r nm off).2:=by
 unfold Vg;split
 .rename_i h
  exact⟨_,.inl ⟨h,rfl,jfm _⟩,rfl⟩
 .rename_i h
  exact⟨[],.inr ⟨h,rfl,rfl⟩,rfl⟩
theorem jz3{b:Bool}(h:jx0 (Xb r.Tw nm) off H b):H=(Vg r nm off).1/\b=(Vg r nm off).2:=jw1 h (j2i r nm off)
theorem jz2{b:Bool}(h:jxz r nm off H b):H=(Vg r nm off).1/\b=(Vg r nm off).2:=by
 obtain⟨s,hs,rfl⟩:=h;unfold Vg;rcases hs with⟨g,rfl,hS⟩|⟨g,rfl,rfl⟩
 .rw[if_pos g]
  have hF:=jfm (Vw nm r.Tw r.Tw.length);rw[jvc hS.up hF.up λt=>by rw[hS.at_,hF.at_]];exact⟨rfl,rfl⟩
 .rw[if_neg g]
  exact⟨rfl,rfl⟩
structure vcA(h:Ur):Prop where
 at_:h.at_<=253402300799
 TF: -7200<=h.TF/\h.TF<=7200
 Uc:h.Uc.size<=6
theorem jmi(hr:∀x∈r.Tw,U5 x=true)(h1: -86400<=off)(h2:off<=86400):∀h∈(Vg r nm off).1,vcA h:=by
 have hR:∀x∈r.Tw,Jo x:=λx hx=>jrg (hr x hx)
 intro h hh;unfold Vg at hh;split at hh
 .rcases jw8 hR _ _ M h hh with h0|⟨m,hm,x,sv,hx,s1,s2,rfl⟩
  .simp at h0
  .have hw:=jui hR (jpo (jfm _) hm)
   have hL:x.Uc.size<=6:=by
    have:=hr x hx;unfold U5 XL at this;simp only[UM,decide_eq_true_eq]at this;exact this.2.2.2.2.2.2.2.2.1
   refine⟨?_,(hR x hx).TF,hL⟩;cases hs:(x.of.toList==[115])
   .cases hv:(x.of.toList==[119])
    .rw[j2k hs hv];show m.Ty<=253402300799;omega
    .rw[j2j hs hv];show m.Ty-off-sv<=253402300799;omega
   .rw[j2l hs];show m.Ty-off<=253402300799;omega
 .simp at hh
theorem jea:(Vg r nm off).1.length<=2000:=by
 unfold Vg;split
 .rename_i h
  have hF:=jfm (Vw nm r.Tw r.Tw.length);have:∀(P:List TU) (st:List Ur × Int),(P.foldl (XE r.Tw off) st).1.length<=st.1.length+P.length:=by
   intro P
   induction P with
   |nil=>intro st;simp
   | cons m P ih=>
    intro st;rw[List.foldl_cons];have h1:=ih (XE r.Tw off st m);have h2:(XE r.Tw off st m).1.length<=st.1.length+1:=by
     unfold XE;split
     .simp
     .omega
    simp only[List.length_cons];omega
  have h3:=this (vc8 (Vw nm r.Tw r.Tw.length)) ([],0);rw[hF.len]at h3;simp at h3;unfold VU;exact Nat.le_trans h3 h
 .simp
