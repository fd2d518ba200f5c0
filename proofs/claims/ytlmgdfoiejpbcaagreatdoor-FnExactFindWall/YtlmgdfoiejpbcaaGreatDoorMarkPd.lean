import Derived.Test.YtlmgdfoiejpbcaaGreatDoorRelPd
set_option maxRecDepth 20000
set_option maxHeartbeats 0
set_option linter.unusedSimpArgs false
open Go.RowKit Go.Sort
namespace Go.Proofs.YtlmgdfoiejpbcaaGreatDoor
structure Zc(S:Nat->Prop)(w w':World):Prop where
 os:w'.os=w.os
 tape:w'.tape=w.tape
 output:w'.output=w.output
 size:w.heap.size<=w'.heap.size
 block:∀b,b<w.heap.size->¬S b->w'.heap[b]? =w.heap[b]?
 room:∀g m,Zg w g m->Zg w' g m
theorem Zc.refl(S:Nat->Prop)(w:World):Zc S w w:=⟨rfl,rfl,rfl,nlr _,fun _ _ _=>rfl,fun _ _ h=>h⟩
theorem Zc.trans{S:Nat->Prop}{w w1 w2:World}(h:Zc S w w1)(h2:Zc S w1 w2):Zc S w w2:=
 ⟨h2.os.trans h.os,h2.tape.trans h.tape,h2.output.trans h.output,Nat.le_trans h.size h2.size,fun b hb hs=>(h2.block b (Nat.lt_of_lt_of_le hb h.size) hs).trans (h.block b hb hs),fun g m hr=>h2.room g m (h.room g m hr)⟩
theorem Zc.mono{S S2:Nat->Prop}{w w':World}(h:Zc S w w')(hs:∀b,b<w.heap.size->S b->S2 b):Zc S2 w w':=
 ⟨h.os,h.tape,h.output,h.size,fun b hb hn=>h.block b hb fun hx=>hn (hs b hb hx),h.room⟩
theorem Zc.of_below{S:Nat->Prop}{w w':World}(h:Bw w w'):Zc S w w':=⟨h.os,h.tape,h.output,h.size,fun b hb _=>h.block b hb,fun _ _ hr=>hr.below h⟩
theorem Zc.set{S:Nat->Prop}{w w':World}(h:Zc S w w'){g o:Nat}(hg:S g)(v:Value):Zc S w (w'.setCell (ad g o) v):=by
 refine⟨h.os,h.tape,h.output,by simpa using h.size,fun b hb hn=>?_,fun _ _ hr=>(h.room _ _ hr).set _ _⟩
 rw[<- h.block b hb hn,Go.Sort.setCell_eq]
 have az:g≠b:=fun e=>hn (e ▸ hg)
 simp[Go.Sort.mapBlock,Array.getElem?_modify,az]
theorem Zc.below{S:Nat->Prop}{w0 w w':World}{B:Nat}(h:Zc S w w')(hS:∀b,S b->B<=b)(hB:B<=w.heap.size)(hb:Below B w0 w):Below B w0 w':=
 ⟨h.os.trans hb.os,h.tape.trans hb.tape,h.output.trans hb.output,Nat.le_trans hb.size h.size,fun k hk=>(h.block k (Nat.lt_of_lt_of_le hk hB) fun hs=>by have:=hS k hs;omega).trans (hb.block k hk)⟩
theorem Zc.cell{S:Nat->Prop}{w w':World}(h:Zc S w w'){b o:Nat}{v:Value}(hs:¬S b)(hc:w.cell? (ad b o)=some v):w'.cell? (ad b o)=some v:=by
 rw[World.cell?_of_block (h.block b (qbl hc) hs)];exact hc
theorem Zc.frozen{S:Nat->Prop}{w w':World}(h:Zc S w w'){b o:Nat}(hb:b<w.heap.size)(hs:¬S b):w'.frozen? (ad b o)=w.frozen? (ad b o):=World.frozen?_of_block (h.block b hb hs)
theorem Za.touch{S:Nat->Prop}{w w':World}{g o k:Nat}{rows:List (List Value)}(h:Za w (some (ad g o)) k rows)(ht:Zc S w w')(hs:¬S g):Za w' (some (ad g o)) k rows:=by
 rcases h with h|⟨b,o',ha,hc⟩
 ·exact .inl h
 ·injection ha with ha
  injection ha with h1 h2
  subst h1 h2
  exact .inr ⟨_,_,rfl,fun i j r c hi hj=>ht.cell hs (hc i j r c hi hj)⟩
def Jh(w:World)(g o:Nat)(et:List Value):Prop:=∀j v,et[j]? =some v->w.cell? (ad g (o+j))=some v
theorem Jh.nil(w:World)(g o:Nat):Jh w g o []:=fun j v h=>by simp at h
theorem Jh.below{w w':World}{g o:Nat}{et:List Value}(h:Jh w g o et)(hb:Bw w w'):Jh w' g o et:=fun j v hj=>by
 have:=h j v hj
 rw[(jaf hb).1 _ _ (qbl this)];exact this
theorem Jh.store{w:World}{g o m:Nat}{et:List Value}(h:Jh w g o et)(hR:Zg w g m){n:Nat}(hn:et.length=n)(hm:o+n<m)(v:Value):Jh (w.setCell (ad g (o+n)) v) g o (et++[v]):=fun j u hj=>by
 rcases Nat.lt_or_ge j et.length with hl|hl
 ·rw[lgl hl]at hj
  rw[wco]
  ·exact h j u hj
  ·intro e;injection e with _ e2;omega
 ·rw[List.getElem?_append_right hl]at hj
  have e:j=et.length:=by
   rcases Nat.eq_or_lt_of_le hl with e|e
   ·exact e.symm
   ·rw[List.getElem?_eq_none (by simp;omega)]at hj;cases hj
  subst e
  simp at hj
  subst hj hn
  obtain⟨⟨u,hu⟩,_⟩:=hR (o+et.length) hm
  exact wcs _ _ _ hu
theorem Ze.store{w:World}{g q k:Nat}{rows:List (List Value)}(h:Ze w g q k rows)(au:∀r∈rows,r.length=q)(j:Nat)(v:Value):Ze (w.setCell (ad g (k*q+j)) v) g q k rows:=fun i l r c hi hr hc=>by
 have hl:l<q:=by
  have:=au r (lmg hr)
  have:=(lgs hc).1
  omega
 have oB:i*q+q<=k*q:=by
  have:(i+1)*q<=k*q:=Nat.mul_le_mul_right q (by omega)
  rw[Nat.add_mul]at this;omega
 rw[wco]
 ·exact h i l r c hi hr hc
 ·intro e;injection e with _ e2;omega
theorem Ze.step{w:World}{g q k:Nat}{rows:List (List Value)}{row:List Value}(h:Ze w g q k rows)(hp:Jh w g (k*q) row)(hr:rows[k]? =some row):Ze w g q (k+1) rows:=fun i l r c hi lH hc=>by
 by_cases e:i=k
 ·subst e
  rw[hr]at lH
  obtain rfl:=osi lH
  exact hp l c hc
 ·exact h i l r c (by omega) lH hc
def mtF:Nat->Nat->List UInt8->List UInt8
 |0,_,c=>c
 |f+1,k,c=>if k=0 then c else mtF f (k / 10) (UInt8.ofNat (48+k%10)::c)
theorem mtF_any:∀{f g k:Nat} {c:List UInt8},k<=f->k<=g->mtF f k c=mtF g k c
 |0,0,_,_,_,_=>rfl
 |0,g+1,k,c,h,_=>by rw[mtF,mtF,if_pos (by omega)]
 |f+1,0,k,c,_,h=>by rw[mtF,mtF,if_pos (by omega)]
 |f+1,g+1,k,c,h,h2=>by
  rw[mtF,mtF]
  split
  ·rfl
  ·exact mtF_any (by omega) (by omega)
def mtGo(k:Nat)(nK:List UInt8):List UInt8:=mtF k k nK
theorem jv2(nK:List UInt8):mtGo 0 nK=nK:=rfl
theorem jze{k:Nat}(h:0<k)(nK:List UInt8):mtGo k nK=mtGo (k / 10) (UInt8.ofNat (48+k%10)::nK):=by
 obtain⟨f,rfl⟩:∃f,k=f+1:=⟨k-1,by omega⟩
 rw[mtGo,mtF,if_neg (by omega)];exact mtF_any (by omega) (by omega)
theorem ret_strM{a b:ByteArray}(h:a=b):Ending.returned (.string a)=.returned (.string b):=by rw[h]
def mtB(k:Nat):ByteArray:=⟨(109::mtGo k []).toArray⟩
theorem jam(k:Nat)(w:World)(h0:0<k)(h1:k<1000000000):
  Cl 35 #[iv k] w fun e w'=>e=.returned (.string (mtB k))/\Bw w w':=by
 unfold Cl;go_in
 go_wp2
 go_loopw [0,3] (fun s o wr=>∃(m:Nat) (l:List UInt8),s=iv m/\o=.string ⟨l.toArray⟩/\l.length<=9/\m<10 ^ (9-l.length)/\Hid (mtGo m l=mtGo k [])/\Bw w wr) (fun s _ _=>(intOf s).toNat)
 case atStart=>exact⟨k,[],rfl,rfl,by simp,by simpa using h1,rfl,brf _ _⟩
 case round=>
  obtain⟨m,l,rfl,rfl,hl,hm,HG,hB⟩:=hrel
  by_cases mK:0<m
  ·have G4:l.length<9:=by
    rcases Nat.lt_or_ge l.length 9 with h|h
    ·exact h
    ·have e:9-l.length=0:=by omega
     rw[e]at hm;omega
   have HL:Hid (m / 10<10 ^ (9-(l.length+1))):=by
    simp only[Hid]
    rw[show 9-l.length=(9-(l.length+1))+1 by omega,Nat.pow_succ]at hm
    omega
   have HR:Hid (mtGo (m / 10) (UInt8.ofNat (48+m%10)::l)=mtGo k []):=by simp only[Hid];rw[<- jze mK];exact HG.out
   have P7:(m:Int)<=1000000000:=by
    have:=Nat.pow_le_pow_right (show 0<10 by omega) (show 9-l.length<=9 by omega)
    have h9:10 ^ 9=1000000000:=by decide
    omega
   clear hm
   have hu:(UInt8.ofNat (48+m%10)).toNat=48+m%10:=UInt8.toNat_ofNat_of_lt' (by have:UInt8.size=256:=rfl;omega)
   have kc:(convert 126 9 (.slice (some (ad wr.heap.size 0)) 1 1)).run Tryz.prog (wr.alloc (.cells #[.int .u8 (48+(m:Int)%10)] 5))=.ok (.string ⟨#[UInt8.ofNat (48+m%10)]⟩) (wr.alloc (.cells #[.int .u8 (48+(m:Int)%10)] 5)):=
    run_convert_bytes_back _ 126 9 5 (ad wr.heap.size 0) 1 [UInt8.ofNat (48+m%10)] Tryz.underlying126 Tryz.underlying5 Tryz.underlying9 (fun j hj=>by
     have e:j=0:=by simpa using hj
     subst e
     simp only[List.getElem_cons_zero,hu]
     simp[go_sem])
   have HC:Hid (∀b:UInt8,({ data:=#[b] }:ByteArray)++⟨l.toArray⟩=⟨(b::l).toArray⟩):=fun b=>by apply ByteArray.ext;simp
   generalize UInt8.ofNat (48+m%10)=c at *
   clear hu
   go_wp2
   go_roundw
   case rel=>exact⟨m / 10,c::l,by go_num,by rw[HC.out],by simp;omega,by simpa using HL.out,HR,hB.alloc hB.size _⟩
   case measure=>simp[intOf];omega
  ·have e:m=0:=by omega
   subst e
   have HR:Hid (({ data:=#[109] }:ByteArray)++⟨l.toArray⟩=mtB k):=by
    simp only[Hid]
    have:=HG.out
    rw[jv2]at this
    subst this
    unfold mtB
    apply ByteArray.ext
    simp
   clear HG
   go_wp2
   go_ret
   exact⟨ret_strM HR.out,hB⟩
def mkEvent(c:Nat):List Value:=[iv (c:Nat),.string (mtB (c+1)),.string (mtB (c+2)),iv (c+3:Nat),iv (c+4:Nat),iv (c+5:Nat)]
def mksEvent(c n:Nat):List (List Value):=(List.range n).map fun i=>mkEvent (c+6*i)
theorem mksEvent_at{c n i:Nat}(h:i<n):(mksEvent c n)[i]? =some (mkEvent (c+6*i)):=by unfold mksEvent;rw[lgm,List.getElem?_range h];rfl
theorem mksEvent_len{c n:Nat}:∀r∈mksEvent c n,r.length=6:=fun r hr=>by
 unfold mksEvent at hr
 obtain⟨i,_,rfl⟩:=List.mem_map.mp hr
 rfl
theorem laws_markEventS(n g cap k:Nat)(w:World)(bJ:Zg w g (n*6))(h0:0<k)(h1:k+6*n<1000000000):
  Cl 11 #[so g n cap,iv k] w fun e w'=>e=.returned (iv ((k+6*n:Nat):Int))/\Za w' (some (ad g 0)) 6 (mksEvent k n)/\Zg w' g (n*6)/\Zc (fun b=>b=g/\0<n) w w':=by
 have au:=@mksEvent_len k n
 unfold Cl;go_in
 go_wp2
 go_loopw [1,5] (fun s t wr=>∃i:Nat,i<=n/\t=iv i/\s=iv ((k+6*i:Nat):Int)/\Zg wr g (n*6)/\Ze wr g 6 i (mksEvent k n)/\Zc (fun b=>b=g/\0<n) w wr) (fun _ t _=>n-(intOf t).toNat)
 case atStart=>exact⟨0,by omega,rfl,rfl,bJ,fun i j r c h=>by omega,Zc.refl _ _⟩
 case round=>
  clear bJ
  obtain⟨i,hi,rfl,rfl,bJ,ew,dv⟩:=hrel
  by_cases hlt:i<n
  ·have ap:=mksEvent_at (c:=k) hlt
   have HK:Hid (k+6*(i+1)=(k+6*i)+6):=by simp only[Hid];omega
   have kA:0<k+6*i:=by omega
   have aX:k+6*i+6<1000000000:=by omega
   generalize k+6*i=c at *
   have kq:Jh wr g (i*6) []:=Jh.nil _ _ _
   obtain⟨⟨u0,iR⟩,gC⟩:=bJ (i*6) (by omega)
   have dn:Zg (wr.setCell (ad g (i*6)) (iv (c:Int))) g (n*6):=bJ.set _ _
   have gQ:Ze (wr.setCell (ad g (i*6)) (iv (c:Int))) g 6 i (mksEvent k n):=by simpa using ew.store au 0 (iv (c:Int))
   have kr:Jh (wr.setCell (ad g (i*6)) (iv (c:Int))) g (i*6) [iv (c:Int)]:=by simpa using kq.store bJ (n:=0) rfl (by omega) (iv (c:Int))
   have dG:Zc (fun b=>b=g/\0<n) w (wr.setCell (ad g (i*6)) (iv (c:Int))):=dv.set ⟨rfl,by omega⟩ _
   have gR:=fun w=>jam (c+1) w (by omega) (by omega)
   rw[show((c+1:Nat):Int)=(c:Int)+1 by omega]at gR
   go_wp2_with fail
   refine(gR _).mono ?_
   rintro e w1 ⟨rfl,hb1⟩
   have gW:=dn.below hb1
   have pF:=gQ.below hb1
   have pU:=kr.below hb1
   have qi:=dG.trans (Zc.of_below (S:=fun b=>b=g/\0<n) hb1)
   clear hb1 dn gQ kr dG gR
   obtain⟨⟨u1,lJ⟩,dg⟩:=gW (i*6+1) (by omega)
   have aM:=gW.set (ad g (i*6+1)) (.string (mtB (c+1)))
   have ch:=pF.store au 1 (.string (mtB (c+1)))
   have iB:=pU.store gW (n:=1) rfl (by omega) (.string (mtB (c+1)))
   have eO:=qi.set (o:=i*6+1) ⟨rfl,by omega⟩ (.string (mtB (c+1)))
   have gS:=fun w=>jam (c+2) w (by omega) (by omega)
   rw[show((c+2:Nat):Int)=(c:Int)+1+1 by omega]at gS
   go_wp2_with fail
   refine(gS _).mono ?_
   rintro e w2 ⟨rfl,ac⟩
   have zt:=aM.below ac
   have Qu:=ch.below ac
   have QD:=iB.below ac
   have QE:=eO.trans (Zc.of_below (S:=fun b=>b=g/\0<n) ac)
   clear ac aM ch iB eO gS
   obtain⟨⟨u2,vG⟩,eE⟩:=zt (i*6+2) (by omega)
   have ks:=zt.set (ad g (i*6+2)) (.string (mtB (c+2)))
   have eN:=Qu.store au 2 (.string (mtB (c+2)))
   have jC:=QD.store zt (n:=2) rfl (by omega) (.string (mtB (c+2)))
   have j5:=QE.set (o:=i*6+2) ⟨rfl,by omega⟩ (.string (mtB (c+2)))
   obtain⟨⟨u3,vH⟩,gE⟩:=ks (i*6+3) (by omega)
   have me:=ks.set (ad g (i*6+3)) (iv ((c:Int)+1+1+1))
   have m9:=eN.store au 3 (iv ((c:Int)+1+1+1))
   have pW:=jC.store ks (n:=3) rfl (by omega) (iv ((c:Int)+1+1+1))
   have jE:=j5.set (o:=i*6+3) ⟨rfl,by omega⟩ (iv ((c:Int)+1+1+1))
   obtain⟨⟨u4,vI⟩,oy⟩:=me (i*6+4) (by omega)
   have eC:=me.set (ad g (i*6+4)) (iv ((c:Int)+1+1+1+1))
   have jz:=m9.store au 4 (iv ((c:Int)+1+1+1+1))
   have lz:=pW.store me (n:=4) rfl (by omega) (iv ((c:Int)+1+1+1+1))
   have sn:=jE.set (o:=i*6+4) ⟨rfl,by omega⟩ (iv ((c:Int)+1+1+1+1))
   obtain⟨⟨u5,vJ⟩,uT⟩:=eC (i*6+5) (by omega)
   have od:=eC.set (ad g (i*6+5)) (iv ((c:Int)+1+1+1+1+1))
   have pI:=jz.store au 5 (iv ((c:Int)+1+1+1+1+1))
   have jD:=lz.store eC (n:=5) rfl (by omega) (iv ((c:Int)+1+1+1+1+1))
   have sp:=sn.set (o:=i*6+5) ⟨rfl,by omega⟩ (iv ((c:Int)+1+1+1+1+1))
   have hF:Ze _ g 6 (i+1) (mksEvent k n):=pI.step jD (by rw[ap];simp[mkEvent,Int.add_assoc])
   clear pI jD
   go_wp2
   go_roundw
   case rel=>exact⟨i+1,by omega,by go_num,by rw[HK.out];go_num,od,hF,sp⟩
   case measure=>simp[intOf];omega
  ·have e:i=n:=by omega
   subst e
   go_wp2
   go_ret
   exact⟨rfl,Ze.seq (by unfold mksEvent;rw[llm,List.length_range];exact ew),bJ,dv⟩
theorem laws_heldEventS(n cap k:Nat)(a:Option Addr)(w:World)(hA:Za w a 6 (mksEvent k n))(h0:0<k)(h1:k+6*n<1000000000):
  Cl 12 #[.slice a n cap,iv k] w fun e w'=>e=.returned (iv ((k+6*n:Nat):Int))/\Bw w w':=by
 unfold Cl;go_in
 go_wp2
 go_loopw [1,5] (fun s t wr=>∃i:Nat,i<=n/\t=iv i/\s=iv ((k+6*i:Nat):Int)/\Bw w wr) (fun _ t _=>n-(intOf t).toNat)
 case atStart=>exact⟨0,by omega,rfl,rfl,brf _ _⟩
 case round=>
  obtain⟨i,hi,rfl,rfl,ag⟩:=hrel
  by_cases hlt:i<n
  ·obtain⟨b,o,rfl,hc⟩:=(hA.below ag).at (mksEvent_at (c:=k) hlt)
   have HK:Hid (k+6*(i+1)=(k+6*i)+6):=by simp only[Hid];omega
   have kA:0<k+6*i:=by omega
   have aX:k+6*i+6<1000000000:=by omega
   generalize k+6*i=c at *
   have PF:wr.cell? (ad b (o+i*6))=some (iv (c:Int)):=by simpa using hc 0 _ rfl
   have p10:wr.cell? (ad b (o+i*6+1))=some (.string (mtB (c+1))):=by simpa using hc 1 _ rfl
   have Wr:wr.cell? (ad b (o+i*6+2))=some (.string (mtB (c+2))):=by simpa using hc 2 _ rfl
   have W8:wr.cell? (ad b (o+i*6+3))=some (iv ((c:Int)+3)):=by simpa using hc 3 _ rfl
   have Uj:wr.cell? (ad b (o+i*6+4))=some (iv ((c:Int)+4)):=by simpa using hc 4 _ rfl
   have Uk:wr.cell? (ad b (o+i*6+5))=some (iv ((c:Int)+5)):=by simpa using hc 5 _ rfl
   clear hc
   have gR:=fun w=>jam (c+1) w (by omega) (by omega)
   rw[show((c+1:Nat):Int)=(c:Int)+1 by omega]at gR
   have Xe:∀dd os,Cl _ _ (grow (redrawn wr dd) os) fun e cW=>e=.returned (.string (mtB (c+1)))/\∃p:Regrown,cW=grow (redrawn wr p.d) p.os:=fun _ _=>Calls.regrown_of (gR _)
   have qU:=cell_regrown p10
   go_wp2_with fail
   refine wp_region_quiet_below (by kernel_rfl) (by kernel_rfl) ?_
   repeat (quiet_step ((go_at_call 35;exact Xe _ _)))
   refine wpQuiet_nil ?_
   intro w1 bM
   obtain⟨⟨SV,Qx⟩,KR⟩:=bM
   have hb1:Bw wr w1:=KR ▸ below_regrown wr SV Qx
   have aj:=qtr ag hb1
   have Rv:=qce hb1 Wr Wr
   have Qv:=qce hb1 W8 W8
   have Ws:=qce hb1 Uj Uj
   have Ul:=qce hb1 Uk Uk
   clear KR qU Xe gR hb1
   have gS:=fun w=>jam (c+2) w (by omega) (by omega)
   rw[show((c+2:Nat):Int)=(c:Int)+2 by omega]at gS
   have RP:∀dd os,Cl _ _ (grow (redrawn w1 dd) os) fun e cW=>e=.returned (.string (mtB (c+2)))/\∃p:Regrown,cW=grow (redrawn w1 p.d) p.os:=fun _ _=>Calls.regrown_of (gS _)
   have Gu:=cell_regrown Rv
   go_wp2_with fail
   refine wp_region_quiet_below (by kernel_rfl) (by kernel_rfl) ?_
   repeat (quiet_step ((go_at_call 35;exact RP _ _)))
   refine wpQuiet_nil ?_
   intro w2 bM
   obtain⟨⟨UQ,Ri⟩,f9⟩:=bM
   have ac:Bw w1 w2:=f9 ▸ below_regrown w1 UQ Ri
   have an:=qtr aj ac
   have Tc:=qce ac Qv Qv
   have RX:=qce ac Ws Ws
   have Gi:=qce ac Ul Ul
   clear f9 Gu RP gS ac
   go_wp2
   go_roundw
   case rel=>exact⟨i+1,by omega,by go_num,by rw[HK.out];go_num,an⟩
   case measure=>simp[intOf];omega
  ·have e:i=n:=by omega
   subst e
   go_wp2
   go_ret
   exact⟨rfl,ag⟩
def jv5(c:Nat):List Value:=[.string (mtB (c)),iv (c+1:Nat),iv (c+2:Nat),iv (c+3:Nat),.string (mtB (c+4)),iv (c+5:Nat),.string (mtB (c+6)),iv (c+7:Nat),.string (mtB (c+8))]
def jdj(c n:Nat):List (List Value):=(List.range n).map fun i=>jv5 (c+9*i)
theorem jtd{c n i:Nat}(h:i<n):(jdj c n)[i]? =some (jv5 (c+9*i)):=by unfold jdj;rw[lgm,List.getElem?_range h];rfl
theorem mksRule_len{c n:Nat}:∀r∈jdj c n,r.length=9:=fun r hr=>by
 unfold jdj at hr
 obtain⟨i,_,rfl⟩:=List.mem_map.mp hr
 rfl
theorem jj4(n g cap k:Nat)(w:World)(bJ:Zg w g (n*9))(h0:0<k)(h1:k+9*n<1000000000):
  Cl 71 #[so g n cap,iv k] w fun e w'=>e=.returned (iv ((k+9*n:Nat):Int))/\Za w' (some (ad g 0)) 9 (jdj k n)/\Zg w' g (n*9)/\Zc (fun b=>b=g/\0<n) w w':=by
 have au:=@mksRule_len k n
 unfold Cl;go_in
 go_wp2
 go_loopw [1,5] (fun s t wr=>∃i:Nat,i<=n/\t=iv i/\s=iv ((k+9*i:Nat):Int)/\Zg wr g (n*9)/\Ze wr g 9 i (jdj k n)/\Zc (fun b=>b=g/\0<n) w wr) (fun _ t _=>n-(intOf t).toNat)
 case atStart=>exact⟨0,by omega,rfl,rfl,bJ,fun i j r c h=>by omega,Zc.refl _ _⟩
 case round=>
  clear bJ
  obtain⟨i,hi,rfl,rfl,bJ,ew,dv⟩:=hrel
  by_cases hlt:i<n
  ·have ap:=jtd (c:=k) hlt
   have HK:Hid (k+9*(i+1)=(k+9*i)+9):=by simp only[Hid];omega
   have kA:0<k+9*i:=by omega
   have aX:k+9*i+9<1000000000:=by omega
   generalize k+9*i=c at *
   have kq:Jh wr g (i*9) []:=Jh.nil _ _ _
   have dD:=fun w=>jam (c) w (by omega) (by omega)
   go_wp2_with fail
   refine(dD _).mono ?_
   rintro e w1 ⟨rfl,hb1⟩
   have gV:=bJ.below hb1
   have pE:=ew.below hb1
   have pT:=kq.below hb1
   have qh:=dv.trans (Zc.of_below (S:=fun b=>b=g/\0<n) hb1)
   clear hb1 bJ ew kq dv dD
   obtain⟨⟨u0,iR⟩,gC⟩:=gV (i*9) (by omega)
   have dn:Zg (w1.setCell (ad g (i*9)) (.string (mtB (c)))) g (n*9):=gV.set _ _
   have gQ:Ze (w1.setCell (ad g (i*9)) (.string (mtB (c)))) g 9 i (jdj k n):=by simpa using pE.store au 0 (.string (mtB (c)))
   have kr:Jh (w1.setCell (ad g (i*9)) (.string (mtB (c)))) g (i*9) [.string (mtB (c))]:=by simpa using pT.store gV (n:=0) rfl (by omega) (.string (mtB (c)))
   have dG:Zc (fun b=>b=g/\0<n) w (w1.setCell (ad g (i*9)) (.string (mtB (c)))):=qh.set ⟨rfl,by omega⟩ _
   obtain⟨⟨u1,lJ⟩,dg⟩:=dn (i*9+1) (by omega)
   have aM:=dn.set (ad g (i*9+1)) (iv ((c:Int)+1))
   have ch:=gQ.store au 1 (iv ((c:Int)+1))
   have iB:=kr.store dn (n:=1) rfl (by omega) (iv ((c:Int)+1))
   have eO:=dG.set (o:=i*9+1) ⟨rfl,by omega⟩ (iv ((c:Int)+1))
   obtain⟨⟨u2,vG⟩,eE⟩:=aM (i*9+2) (by omega)
   have ks:=aM.set (ad g (i*9+2)) (iv ((c:Int)+1+1))
   have eN:=ch.store au 2 (iv ((c:Int)+1+1))
   have jC:=iB.store aM (n:=2) rfl (by omega) (iv ((c:Int)+1+1))
   have j5:=eO.set (o:=i*9+2) ⟨rfl,by omega⟩ (iv ((c:Int)+1+1))
   obtain⟨⟨u3,vH⟩,gE⟩:=ks (i*9+3) (by omega)
   have me:=ks.set (ad g (i*9+3)) (iv ((c:Int)+1+1+1))
   have m9:=eN.store au 3 (iv ((c:Int)+1+1+1))
   have pW:=jC.store ks (n:=3) rfl (by omega) (iv ((c:Int)+1+1+1))
   have jE:=j5.set (o:=i*9+3) ⟨rfl,by omega⟩ (iv ((c:Int)+1+1+1))
   have lx:=fun w=>jam (c+4) w (by omega) (by omega)
   rw[show((c+4:Nat):Int)=(c:Int)+1+1+1+1 by omega]at lx
   go_wp2_with fail
   refine(lx _).mono ?_
   rintro e w2 ⟨rfl,ac⟩
   have gY:=me.below ac
   have pH:=m9.below ac
   have pX:=pW.below ac
   have qk:=jE.trans (Zc.of_below (S:=fun b=>b=g/\0<n) ac)
   clear ac me m9 pW jE lx
   obtain⟨⟨u4,vI⟩,oy⟩:=gY (i*9+4) (by omega)
   have eC:=gY.set (ad g (i*9+4)) (.string (mtB (c+4)))
   have jz:=pH.store au 4 (.string (mtB (c+4)))
   have lz:=pX.store gY (n:=4) rfl (by omega) (.string (mtB (c+4)))
   have sn:=qk.set (o:=i*9+4) ⟨rfl,by omega⟩ (.string (mtB (c+4)))
   obtain⟨⟨u5,vJ⟩,uT⟩:=eC (i*9+5) (by omega)
   have od:=eC.set (ad g (i*9+5)) (iv ((c:Int)+1+1+1+1+1))
   have pI:=jz.store au 5 (iv ((c:Int)+1+1+1+1+1))
   have jD:=lz.store eC (n:=5) rfl (by omega) (iv ((c:Int)+1+1+1+1+1))
   have sp:=sn.set (o:=i*9+5) ⟨rfl,by omega⟩ (iv ((c:Int)+1+1+1+1+1))
   have Bp:=fun w=>jam (c+6) w (by omega) (by omega)
   rw[show((c+6:Nat):Int)=(c:Int)+1+1+1+1+1+1 by omega]at Bp
   go_wp2_with fail
   refine(Bp _).mono ?_
   rintro e w3 ⟨rfl,ar⟩
   have q9:=od.below ar
   have Bd:=pI.below ar
   have By:=jD.below ar
   have BH:=sp.trans (Zc.of_below (S:=fun b=>b=g/\0<n) ar)
   clear ar od pI jD sp Bp
   obtain⟨⟨u6,CC⟩,BX⟩:=q9 (i*9+6) (by omega)
   have qa:=q9.set (ad g (i*9+6)) (.string (mtB (c+6)))
   have Be:=Bd.store au 6 (.string (mtB (c+6)))
   have ff:=By.store q9 (n:=6) rfl (by omega) (.string (mtB (c+6)))
   have mj:=BH.set (o:=i*9+6) ⟨rfl,by omega⟩ (.string (mtB (c+6)))
   obtain⟨⟨u7,CD⟩,BY⟩:=qa (i*9+7) (by omega)
   have xJ:=qa.set (ad g (i*9+7)) (iv ((c:Int)+1+1+1+1+1+1+1))
   have ue:=Be.store au 7 (iv ((c:Int)+1+1+1+1+1+1+1))
   have uC:=ff.store qa (n:=7) rfl (by omega) (iv ((c:Int)+1+1+1+1+1+1+1))
   have xP:=mj.set (o:=i*9+7) ⟨rfl,by omega⟩ (iv ((c:Int)+1+1+1+1+1+1+1))
   have sh:=fun w=>jam (c+8) w (by omega) (by omega)
   rw[show((c+8:Nat):Int)=(c:Int)+1+1+1+1+1+1+1+1 by omega]at sh
   go_wp2_with fail
   refine(sh _).mono ?_
   rintro e w4 ⟨rfl,aD⟩
   have qc:=xJ.below aD
   have Bf:=ue.below aD
   have Bz:=uC.below aD
   have BI:=xP.trans (Zc.of_below (S:=fun b=>b=g/\0<n) aD)
   clear aD xJ ue uC xP sh
   obtain⟨⟨u8,KL⟩,K0⟩:=qc (i*9+8) (by omega)
   have JJ:=qc.set (ad g (i*9+8)) (.string (mtB (c+8)))
   have Fa:=Bf.store au 8 (.string (mtB (c+8)))
   have pY:=Bz.store qc (n:=8) rfl (by omega) (.string (mtB (c+8)))
   have JM:=BI.set (o:=i*9+8) ⟨rfl,by omega⟩ (.string (mtB (c+8)))
   have hF:Ze _ g 9 (i+1) (jdj k n):=Fa.step pY (by rw[ap];simp[jv5,Int.add_assoc])
   clear Fa pY
   go_wp2
   go_roundw
   case rel=>exact⟨i+1,by omega,by go_num,by rw[HK.out];go_num,JJ,hF,JM⟩
   case measure=>simp[intOf];omega
  ·have e:i=n:=by omega
   subst e
   go_wp2
   go_ret
   exact⟨rfl,Ze.seq (by unfold jdj;rw[llm,List.length_range];exact ew),bJ,dv⟩
def j16(c:Nat):List Value:=[iv (c:Nat),.string (mtB (c+1)),iv (c+2:Nat),.string (mtB (c+3)),iv (c+4:Nat),.string (mtB (c+5))]
def jfq(c n:Nat):List (List Value):=(List.range n).map fun i=>j16 (c+6*i)
theorem jv4{c n i:Nat}(h:i<n):(jfq c n)[i]? =some (j16 (c+6*i)):=by unfold jfq;rw[lgm,List.getElem?_range h];rfl
theorem mksEra_len{c n:Nat}:∀r∈jfq c n,r.length=6:=fun r hr=>by
 unfold jfq at hr
 obtain⟨i,_,rfl⟩:=List.mem_map.mp hr
 rfl
theorem jl8(n g cap k:Nat)(w:World)(bJ:Zg w g (n*6))(h0:0<k)(h1:k+6*n<1000000000):
  Cl 107 #[so g n cap,iv k] w fun e w'=>e=.returned (iv ((k+6*n:Nat):Int))/\Za w' (some (ad g 0)) 6 (jfq k n)/\Zg w' g (n*6)/\Zc (fun b=>b=g/\0<n) w w':=by
 have au:=@mksEra_len k n
 unfold Cl;go_in
 go_wp2
 go_loopw [1,5] (fun s t wr=>∃i:Nat,i<=n/\t=iv i/\s=iv ((k+6*i:Nat):Int)/\Zg wr g (n*6)/\Ze wr g 6 i (jfq k n)/\Zc (fun b=>b=g/\0<n) w wr) (fun _ t _=>n-(intOf t).toNat)
 case atStart=>exact⟨0,by omega,rfl,rfl,bJ,fun i j r c h=>by omega,Zc.refl _ _⟩
 case round=>
  clear bJ
  obtain⟨i,hi,rfl,rfl,bJ,ew,dv⟩:=hrel
  by_cases hlt:i<n
  ·have ap:=jv4 (c:=k) hlt
   have HK:Hid (k+6*(i+1)=(k+6*i)+6):=by simp only[Hid];omega
   have kA:0<k+6*i:=by omega
   have aX:k+6*i+6<1000000000:=by omega
   generalize k+6*i=c at *
   have kq:Jh wr g (i*6) []:=Jh.nil _ _ _
   obtain⟨⟨u0,iR⟩,gC⟩:=bJ (i*6) (by omega)
   have dn:Zg (wr.setCell (ad g (i*6)) (iv (c:Int))) g (n*6):=bJ.set _ _
   have gQ:Ze (wr.setCell (ad g (i*6)) (iv (c:Int))) g 6 i (jfq k n):=by simpa using ew.store au 0 (iv (c:Int))
   have kr:Jh (wr.setCell (ad g (i*6)) (iv (c:Int))) g (i*6) [iv (c:Int)]:=by simpa using kq.store bJ (n:=0) rfl (by omega) (iv (c:Int))
   have dG:Zc (fun b=>b=g/\0<n) w (wr.setCell (ad g (i*6)) (iv (c:Int))):=dv.set ⟨rfl,by omega⟩ _
   have gR:=fun w=>jam (c+1) w (by omega) (by omega)
   rw[show((c+1:Nat):Int)=(c:Int)+1 by omega]at gR
   go_wp2_with fail
   refine(gR _).mono ?_
   rintro e w1 ⟨rfl,hb1⟩
   have gW:=dn.below hb1
   have pF:=gQ.below hb1
   have pU:=kr.below hb1
   have qi:=dG.trans (Zc.of_below (S:=fun b=>b=g/\0<n) hb1)
   clear hb1 dn gQ kr dG gR
   obtain⟨⟨u1,lJ⟩,dg⟩:=gW (i*6+1) (by omega)
   have aM:=gW.set (ad g (i*6+1)) (.string (mtB (c+1)))
   have ch:=pF.store au 1 (.string (mtB (c+1)))
   have iB:=pU.store gW (n:=1) rfl (by omega) (.string (mtB (c+1)))
   have eO:=qi.set (o:=i*6+1) ⟨rfl,by omega⟩ (.string (mtB (c+1)))
   obtain⟨⟨u2,vG⟩,eE⟩:=aM (i*6+2) (by omega)
   have ks:=aM.set (ad g (i*6+2)) (iv ((c:Int)+1+1))
   have eN:=ch.store au 2 (iv ((c:Int)+1+1))
   have jC:=iB.store aM (n:=2) rfl (by omega) (iv ((c:Int)+1+1))
   have j5:=eO.set (o:=i*6+2) ⟨rfl,by omega⟩ (iv ((c:Int)+1+1))
   have gT:=fun w=>jam (c+3) w (by omega) (by omega)
   rw[show((c+3:Nat):Int)=(c:Int)+1+1+1 by omega]at gT
   go_wp2_with fail
   refine(gT _).mono ?_
   rintro e w2 ⟨rfl,ac⟩
   have gX:=ks.below ac
   have pG:=eN.below ac
   have pV:=jC.below ac
   have qj:=j5.trans (Zc.of_below (S:=fun b=>b=g/\0<n) ac)
   clear ac ks eN jC j5 gT
   obtain⟨⟨u3,vH⟩,gE⟩:=gX (i*6+3) (by omega)
   have me:=gX.set (ad g (i*6+3)) (.string (mtB (c+3)))
   have m9:=pG.store au 3 (.string (mtB (c+3)))
   have pW:=pV.store gX (n:=3) rfl (by omega) (.string (mtB (c+3)))
   have jE:=qj.set (o:=i*6+3) ⟨rfl,by omega⟩ (.string (mtB (c+3)))
   obtain⟨⟨u4,vI⟩,oy⟩:=me (i*6+4) (by omega)
   have eC:=me.set (ad g (i*6+4)) (iv ((c:Int)+1+1+1+1))
   have jz:=m9.store au 4 (iv ((c:Int)+1+1+1+1))
   have lz:=pW.store me (n:=4) rfl (by omega) (iv ((c:Int)+1+1+1+1))
   have sn:=jE.set (o:=i*6+4) ⟨rfl,by omega⟩ (iv ((c:Int)+1+1+1+1))
   have sg:=fun w=>jam (c+5) w (by omega) (by omega)
   rw[show((c+5:Nat):Int)=(c:Int)+1+1+1+1+1 by omega]at sg
   go_wp2_with fail
   refine(sg _).mono ?_
   rintro e w3 ⟨rfl,ar⟩
   have pZ:=eC.below ar
   have Bc:=jz.below ar
   have Bv:=lz.below ar
   have BG:=sn.trans (Zc.of_below (S:=fun b=>b=g/\0<n) ar)
   clear ar eC jz lz sn sg
   obtain⟨⟨u5,vJ⟩,uT⟩:=pZ (i*6+5) (by omega)
   have od:=pZ.set (ad g (i*6+5)) (.string (mtB (c+5)))
   have pI:=Bc.store au 5 (.string (mtB (c+5)))
   have jD:=Bv.store pZ (n:=5) rfl (by omega) (.string (mtB (c+5)))
   have sp:=BG.set (o:=i*6+5) ⟨rfl,by omega⟩ (.string (mtB (c+5)))
   have hF:Ze _ g 6 (i+1) (jfq k n):=pI.step jD (by rw[ap];simp[j16,Int.add_assoc])
   clear pI jD
   go_wp2
   go_roundw
   case rel=>exact⟨i+1,by omega,by go_num,by rw[HK.out];go_num,od,hF,sp⟩
   case measure=>simp[intOf];omega
  ·have e:i=n:=by omega
   subst e
   go_wp2
   go_ret
   exact⟨rfl,Ze.seq (by unfold jfq;rw[llm,List.length_range];exact ew),bJ,dv⟩
def jv6(c:Nat):List Value:=[.string (mtB (c)),.string (mtB (c+1))]
def jdk(c n:Nat):List (List Value):=(List.range n).map fun i=>jv6 (c+2*i)
theorem jte{c n i:Nat}(h:i<n):(jdk c n)[i]? =some (jv6 (c+2*i)):=by unfold jdk;rw[lgm,List.getElem?_range h];rfl
theorem mksLink_len{c n:Nat}:∀r∈jdk c n,r.length=2:=fun r hr=>by
 unfold jdk at hr
 obtain⟨i,_,rfl⟩:=List.mem_map.mp hr
 rfl
theorem jj5(n g cap k:Nat)(w:World)(bJ:Zg w g (n*2))(h0:0<k)(h1:k+2*n<1000000000):
  Cl 73 #[so g n cap,iv k] w fun e w'=>e=.returned (iv ((k+2*n:Nat):Int))/\Za w' (some (ad g 0)) 2 (jdk k n)/\Zg w' g (n*2)/\Zc (fun b=>b=g/\0<n) w w':=by
 have au:=@mksLink_len k n
 unfold Cl;go_in
 go_wp2
 go_loopw [1,5] (fun s t wr=>∃i:Nat,i<=n/\t=iv i/\s=iv ((k+2*i:Nat):Int)/\Zg wr g (n*2)/\Ze wr g 2 i (jdk k n)/\Zc (fun b=>b=g/\0<n) w wr) (fun _ t _=>n-(intOf t).toNat)
 case atStart=>exact⟨0,by omega,rfl,rfl,bJ,fun i j r c h=>by omega,Zc.refl _ _⟩
 case round=>
  clear bJ
  obtain⟨i,hi,rfl,rfl,bJ,ew,dv⟩:=hrel
  by_cases hlt:i<n
  ·have ap:=jte (c:=k) hlt
   have HK:Hid (k+2*(i+1)=(k+2*i)+2):=by simp only[Hid];omega
   have kA:0<k+2*i:=by omega
   have aX:k+2*i+2<1000000000:=by omega
   generalize k+2*i=c at *
   have kq:Jh wr g (i*2) []:=Jh.nil _ _ _
   have dD:=fun w=>jam (c) w (by omega) (by omega)
   go_wp2_with fail
   refine(dD _).mono ?_
   rintro e w1 ⟨rfl,hb1⟩
   have gV:=bJ.below hb1
   have pE:=ew.below hb1
   have pT:=kq.below hb1
   have qh:=dv.trans (Zc.of_below (S:=fun b=>b=g/\0<n) hb1)
   clear hb1 bJ ew kq dv dD
   obtain⟨⟨u0,iR⟩,gC⟩:=gV (i*2) (by omega)
   have dn:Zg (w1.setCell (ad g (i*2)) (.string (mtB (c)))) g (n*2):=gV.set _ _
   have gQ:Ze (w1.setCell (ad g (i*2)) (.string (mtB (c)))) g 2 i (jdk k n):=by simpa using pE.store au 0 (.string (mtB (c)))
   have kr:Jh (w1.setCell (ad g (i*2)) (.string (mtB (c)))) g (i*2) [.string (mtB (c))]:=by simpa using pT.store gV (n:=0) rfl (by omega) (.string (mtB (c)))
   have dG:Zc (fun b=>b=g/\0<n) w (w1.setCell (ad g (i*2)) (.string (mtB (c)))):=qh.set ⟨rfl,by omega⟩ _
   have gR:=fun w=>jam (c+1) w (by omega) (by omega)
   rw[show((c+1:Nat):Int)=(c:Int)+1 by omega]at gR
   go_wp2_with fail
   refine(gR _).mono ?_
   rintro e w2 ⟨rfl,ac⟩
   have gW:=dn.below ac
   have pF:=gQ.below ac
   have pU:=kr.below ac
   have qi:=dG.trans (Zc.of_below (S:=fun b=>b=g/\0<n) ac)
   clear ac dn gQ kr dG gR
   obtain⟨⟨u1,lJ⟩,dg⟩:=gW (i*2+1) (by omega)
   have aM:=gW.set (ad g (i*2+1)) (.string (mtB (c+1)))
   have ch:=pF.store au 1 (.string (mtB (c+1)))
   have iB:=pU.store gW (n:=1) rfl (by omega) (.string (mtB (c+1)))
   have eO:=qi.set (o:=i*2+1) ⟨rfl,by omega⟩ (.string (mtB (c+1)))
   have hF:Ze _ g 2 (i+1) (jdk k n):=ch.step iB (by rw[ap];simp[jv6])
   clear ch iB
   go_wp2
   go_roundw
   case rel=>exact⟨i+1,by omega,by go_num,by rw[HK.out];go_num,aM,hF,eO⟩
   case measure=>simp[intOf];omega
  ·have e:i=n:=by omega
   subst e
   go_wp2
   go_ret
   exact⟨rfl,Ze.seq (by unfold jdk;rw[llm,List.length_range];exact ew),bJ,dv⟩
def zc(l:List ZoneD):Nat:=(l.map fun z=>1+6*z.eras.length).sum
theorem j1d{l:List ZoneD}{k:Nat}{r:ZoneD}(h:l[k]? =some r):zc (l.take (k+1))=zc (l.take k)+(1+6*r.eras.length):=by
 unfold zc
 rw[List.take_add_one,h]
 simp
theorem zc_le(l:List ZoneD)(k:Nat):zc (l.take k)<=zc l:=by
 have:=congrArg (fun l=>(l.map fun z:ZoneD=>1+6*z.eras.length).sum) (List.take_append_drop k l)
 simp only[lma,List.sum_append]at this
 unfold zc
 omega
theorem zc_sz(l:List ZoneD):zc l<=7*(l.length+zsz l):=by
 unfold zc zsz
 induction l with
 |nil=>simp
 |cons z l ih=>
  simp only[List.map_cons,List.sum_cons,List.length_cons]
  have:z.eras.length<=z.sz:=by unfold ZoneD.sz;omega
  omega
def Zz(w:World)(g U:Nat)(zs:List ZoneD):Prop:=∀i z,zs[i]? =some z->∃q,g<q/\(0<z.eras.length->q<U)/\w.cell? (ad g (i*2+1))=some (so q z.eras.length z.eras.length)/\Zg w q (z.eras.length*6)
theorem Zz.below{w w':World}{g U:Nat}{zs:List ZoneD}(h:Zz w g U zs)(hb:Bw w w'):Zz w' g U zs:=fun i z hz=>by
 obtain⟨q,hq,hu,c1,hr⟩:=h i z hz
 exact⟨q,hq,hu,by rw[(jaf hb).1 _ _ (qbl c1)];exact c1,hr.below hb⟩
theorem Zz.store{w:World}{g U:Nat}{zs:List ZoneD}(h:Zz w g U zs)(k:Nat)(v:Value):Zz (w.setCell (ad g (k*2)) v) g U zs:=fun i z hz=>by
 obtain⟨q,hq,hu,c1,hr⟩:=h i z hz
 refine⟨q,hq,hu,?_,hr.set _ _⟩
 rw[wco]
 ·exact c1
 ·intro e;injection e with _ e2;omega
theorem Zz.touch{S:Nat->Prop}{w w':World}{g U:Nat}{zs:List ZoneD}(h:Zz w g U zs)(ht:Zc S w w')(hq:¬S g):Zz w' g U zs:=fun i z hz=>by
 obtain⟨q',Cv,hu,c1,hr⟩:=h i z hz
 exact⟨q',Cv,hu,ht.cell hq c1,ht.room _ _ hr⟩
theorem Zg.lt{w:World}{g m:Nat}(h:Zg w g m)(hm:0<m):g<w.heap.size:=by
 obtain⟨⟨v,hv⟩,_⟩:=h 0 hm
 exact qbl hv
theorem jj2(zs:List ZoneD)(g cap k B U:Nat)(w:World)(bJ:Zg w g (zs.length*2))(uN:Zz w g U zs)(hB:B<=g)(hU:0<zs.length->g<U)(h0:0<k)(h1:k+zc zs<900000000)(hn:zs.length<=1048576):
  Cl 72 #[so g zs.length cap,iv k] w fun e w'=>e=.returned (iv ((k+zc zs:Nat):Int))/\Zc (fun b=>B<=b/\b<U) w w':=by
 unfold Cl;go_in
 go_wp2
 go_loopw [1,5] (fun s t wr=>∃i:Nat,i<=zs.length/\t=iv i/\s=iv ((k+zc (zs.take i):Nat):Int)/\Zg wr g (zs.length*2)/\Zz wr g U zs/\Zc (fun b=>B<=b/\b<U) w wr) (fun _ t _=>zs.length-(intOf t).toNat)
 case atStart=>exact⟨0,by omega,rfl,by simp[zc],bJ,uN,Zc.refl _ _⟩
 case round=>
  clear bJ uN
  obtain⟨i,hi,rfl,rfl,bJ,uN,dv⟩:=hrel
  by_cases hlt:i<zs.length
  ·obtain⟨z,hz⟩:=qgg hlt
   have K6:=hU (by omega)
   have ht:=j1d hz
   have cr:=zc_le zs (i+1)
   have HK:Hid (k+zc (zs.take (i+1))=(k+zc (zs.take i))+1+6*z.eras.length):=by simp only[Hid];omega
   have kA:0<k+zc (zs.take i):=by omega
   have aX:k+zc (zs.take i)+1+6*z.eras.length<900000000:=by omega
   generalize k+zc (zs.take i)=c at *
   clear ht cr
   have hM:=fun w=>jam c w kA (by omega)
   go_wp2_with fail
   refine(hM _).mono ?_
   rintro e w1 ⟨rfl,hb1⟩
   have dn:=bJ.below hb1
   have j8:=uN.below hb1
   have dG:=dv.trans (Zc.of_below (S:=fun b=>B<=b/\b<U) hb1)
   obtain⟨⟨u0,iR⟩,gC⟩:=dn (i*2) (by omega)
   have aM:Zg (w1.setCell (ad g (i*2)) (.string (mtB c))) g (zs.length*2):=dn.set _ _
   have FH:Zz (w1.setCell (ad g (i*2)) (.string (mtB c))) g U zs:=j8.store i _
   have eO:Zc (fun b=>B<=b/\b<U) w (w1.setCell (ad g (i*2)) (.string (mtB c))):=dG.set ⟨hB,K6⟩ _
   clear hM hb1 bJ uN dv dn j8 dG
   obtain⟨q,hq,KA,c1,hr⟩:=FH i z hz
   have hE:=jl8 z.eras.length q z.eras.length (c+1) (w1.setCell (ad g (i*2)) (.string (mtB c))) hr (by omega) (by omega)
   rw[show((c+1:Nat):Int)=(c:Int)+1 by omega]at hE
   go_wp2_with fail
   refine hE.mono ?_
   rintro e w3 ⟨rfl,_,_,Cz⟩
   have ks:=Cz.room _ _ aM
   have JP:=FH.touch Cz (fun h=>by have:g=q:=h.1;omega)
   have j5:=eO.trans (Cz.mono fun b _ hb=>show B<=b/\b<U from by
    have e1:b=q:=hb.1
    have e2:=KA hb.2
    omega)
   go_wp2
   go_roundw
   case rel=>exact⟨i+1,by omega,by go_num,by rw[HK.out];go_num,ks,JP,j5⟩
   case measure=>simp[intOf];omega
  ·have e:i=zs.length:=by omega
   subst e
   have HR:Hid (zc (zs.take zs.length)=zc zs):=by simp only[Hid];rw[List.take_length]
   rw[HR.out]
   go_wp2
   go_ret
   exact⟨rfl,dv⟩
structure Zp(w:World)(B U:Nat)(v:Value)(r:RelD):Prop where
 form:∃a b c,v=.agg #[so a r.rules.length r.rules.length,so b r.zones.length r.zones.length,so c r.links.length r.links.length]/\
  (B<=a/\B<=b/\B<=c)/\((0<r.rules.length->a<U)/\(0<r.zones.length->b<U)/\(0<r.links.length->c<U))/\(0<r.rules.length->0<r.zones.length->a≠b)/\Zg w a (r.rules.length*9)/\Zg w b (r.zones.length*2)/\Zz w b U r.zones/\Zg w c (r.links.length*2)
theorem Zq.upto{w w':World}{B:Nat}{v:Value}{r:RelD}(h:Zq w B v r)(hb:Bw w w'):Zp w' B w.heap.size v r:=by
 obtain⟨a,b,c,hv,hB,⟨og,xK⟩,⟨hZ,xL⟩,⟨_,xM⟩⟩:=h.form
 have fZ:0<r.rules.length->0<r.zones.length->a≠b:=fun h1 h2 e=>by
  subst e
  obtain⟨x,hx⟩:=qgg h1
  obtain⟨z,hz⟩:=qgg h2
  obtain⟨b',o',he,hc⟩:=og.at (i:=0) (r:=x.cs) (by rw[lgm,hx];rfl)
  injection he with he
  injection he with e1 e2
  subst e1 e2
  have p1:=hc 1 _ rfl
  obtain⟨_,q,_,p2,_,_⟩:=hZ 0 z h2 hz
  rw[show 0+0*9+1=0*2+1 by omega,p2]at p1
  cases p1
 refine⟨a,b,c,hv,hB,⟨fun h=>xK.lt (by omega),fun h=>xL.lt (by omega),fun h=>xM.lt (by omega)⟩,fZ,xK.below hb,xL.below hb,Zz.below (fun i z hz=>?_) hb,xM.below hb⟩
 obtain⟨_,q,hq,c1,_,hr⟩:=hZ i z (lgs hz).1 hz
 exact⟨q,hq,fun h=>hr.lt (by omega),c1,hr⟩
theorem jdb(r:RelD)(v:Value)(k B U:Nat)(w:World)(hv:Zp w B U v r)(hU:U<=w.heap.size)(hsz:r.sz<=1048576)(hk:0<k)(fy:k<=100000000):
  Cl 32 #[v,iv (k:Int)] w fun e w'=>(∃K:Nat,e=.returned (iv (K:Int))/\k<=K/\K<=k+30000000)/\Zc (fun b=>B<=b/\b<U) w w':=by
 obtain⟨a,b,c,rfl,⟨ha,hb,hc⟩,⟨ua,ub,uc⟩,fZ,xK,xL,hZ,xM⟩:=hv.form
 have Pm:=zc_sz r.zones
 unfold RelD.sz at hsz
 have h1:=fun w (h:Zg w a (r.rules.length*9))=>jj4 r.rules.length a r.rules.length k w h (by omega) (by omega)
 have h2:=fun w (h:Zg w b (r.zones.length*2)) (h2:Zz w b U r.zones)=>jj2 r.zones b r.zones.length (k+9*r.rules.length) B U w h h2 hb ub (by omega) (by omega) (by omega)
 have h3:=fun w (h:Zg w c (r.links.length*2))=>jj5 r.links.length c r.links.length (k+9*r.rules.length+zc r.zones) w h (by omega) (by omega)
 have ag:=qal w (.cells #[so a r.rules.length r.rules.length,so b r.zones.length r.zones.length,so c r.links.length r.links.length] 38)
 obtain⟨x1,x2⟩:(fun z:World=>z.cell? (ad w.heap.size 1)=some (so b r.zones.length r.zones.length)/\z.cell? (ad w.heap.size 2)=some (so c r.links.length r.links.length)) (w.alloc (.cells #[so a r.rules.length r.rules.length,so b r.zones.length r.zones.length,so c r.links.length r.links.length] 38)):=by simp[go_sem]
 have dv:Zc (fun b=>B<=b/\b<U) w (w.alloc (.cells #[so a r.rules.length r.rules.length,so b r.zones.length r.zones.length,so c r.links.length r.links.length] 38)):=Zc.of_below ag
 have az:¬(B<=w.heap.size/\w.heap.size<U):=by omega
 have Hp:Hid (k<=k+9*r.rules.length+zc r.zones+2*r.links.length/\k+9*r.rules.length+zc r.zones+2*r.links.length<=k+30000000):=by simp only[Hid];omega
 generalize hk1:k+9*r.rules.length=k1 at *
 clear hk1
 unfold Cl;go_in
 go_wp2_with fail
 refine(h1 _ (xK.below ag)).mono ?_
 rintro e w1 ⟨rfl,_,_,t1⟩
 have jp:=t1.mono (S2:=fun b=>B<=b/\b<U) fun x _ hx=>by have e1:x=a:=hx.1;have e2:=ua hx.2;show B<=x/\x<U;omega
 have dG:=dv.trans jp
 have y1:=jp.cell az x1
 have y2:=jp.cell az x2
 go_wp2_with fail
 refine(h2 _ (dG.room _ _ xL) ?_).mono ?_
 ·intro i z hz
  have hl:=(lgs hz).1
  exact(hZ.below ag).touch t1 (fun h=>fZ h.2 (by omega) h.1.symm) i z hz
 rintro e w2 ⟨rfl,t2⟩
 have eO:=dG.trans t2
 have z2:=t2.cell az y2
 go_wp2_with fail
 refine(h3 _ (eO.room _ _ xM)).mono ?_
 rintro e w3 ⟨rfl,_,_,t3⟩
 have sS:=t3.mono (S2:=fun b=>B<=b/\b<U) fun x _ hx=>by have e1:x=c:=hx.1;have e2:=uc hx.2;show B<=x/\x<U;omega
 go_wp2
 go_ret
 exact⟨⟨_,rfl,Hp.out⟩,eO.trans sS⟩
def mbB(c:Nat):Bool:=(c:Int)%3==0
theorem mbB_at(c:Nat):mbB (c+1)=(((c:Int)+1)%3==0):=by unfold mbB;rw[show((c+1:Nat):Int)=(c:Int)+1 by omega]
def jin(c:Nat):List Value:=[iv (c:Nat),.bool (mbB (c+1)),iv (c+2:Nat),.string (mtB (c+3)),.string (mtB (c+4)),iv (c+5:Nat),iv (c+6:Nat),iv (c+7:Nat)]
def jbq(c n:Nat):List (List Value):=(List.range n).map fun i=>jin (c+8*i)
theorem jl3{c n i:Nat}(h:i<n):(jbq c n)[i]? =some (jin (c+8*i)):=by unfold jbq;rw[lgm,List.getElem?_range h];rfl
theorem mksVersion_len{c n:Nat}:∀r∈jbq c n,r.length=8:=fun r hr=>by
 unfold jbq at hr
 obtain⟨i,_,rfl⟩:=List.mem_map.mp hr
 rfl
theorem jgb(n g cap k:Nat)(w:World)(bJ:Zg w g (n*8))(h0:0<k)(h1:k+8*n<1000000000):
  Cl 33 #[so g n cap,iv k] w fun e w'=>e=.returned (iv ((k+8*n:Nat):Int))/\Za w' (some (ad g 0)) 8 (jbq k n)/\Zg w' g (n*8)/\Zc (fun b=>b=g/\0<n) w w':=by
 have au:=@mksVersion_len k n
 unfold Cl;go_in
 go_wp2
 go_loopw [1,5] (fun s t wr=>∃i:Nat,i<=n/\t=iv i/\s=iv ((k+8*i:Nat):Int)/\Zg wr g (n*8)/\Ze wr g 8 i (jbq k n)/\Zc (fun b=>b=g/\0<n) w wr) (fun _ t _=>n-(intOf t).toNat)
 case atStart=>exact⟨0,by omega,rfl,rfl,bJ,fun i j r c h=>by omega,Zc.refl _ _⟩
 case round=>
  clear bJ
  obtain⟨i,hi,rfl,rfl,bJ,ew,dv⟩:=hrel
  by_cases hlt:i<n
  ·have ap:=jl3 (c:=k) hlt
   have HK:Hid (k+8*(i+1)=(k+8*i)+8):=by simp only[Hid];omega
   have kA:0<k+8*i:=by omega
   have aX:k+8*i+8<1000000000:=by omega
   generalize k+8*i=c at *
   have kq:Jh wr g (i*8) []:=Jh.nil _ _ _
   obtain⟨⟨u0,iR⟩,gC⟩:=bJ (i*8) (by omega)
   have dn:Zg (wr.setCell (ad g (i*8)) (iv (c:Int))) g (n*8):=bJ.set _ _
   have gQ:Ze (wr.setCell (ad g (i*8)) (iv (c:Int))) g 8 i (jbq k n):=by simpa using ew.store au 0 (iv (c:Int))
   have kr:Jh (wr.setCell (ad g (i*8)) (iv (c:Int))) g (i*8) [iv (c:Int)]:=by simpa using kq.store bJ (n:=0) rfl (by omega) (iv (c:Int))
   have dG:Zc (fun b=>b=g/\0<n) w (wr.setCell (ad g (i*8)) (iv (c:Int))):=dv.set ⟨rfl,by omega⟩ _
   obtain⟨⟨u1,lJ⟩,dg⟩:=dn (i*8+1) (by omega)
   have aM:=dn.set (ad g (i*8+1)) (.bool (((c:Int)+1)%3==0))
   have ch:=gQ.store au 1 (.bool (((c:Int)+1)%3==0))
   have iB:=kr.store dn (n:=1) rfl (by omega) (.bool (((c:Int)+1)%3==0))
   have eO:=dG.set (o:=i*8+1) ⟨rfl,by omega⟩ (.bool (((c:Int)+1)%3==0))
   obtain⟨⟨u2,vG⟩,eE⟩:=aM (i*8+2) (by omega)
   have ks:=aM.set (ad g (i*8+2)) (iv ((c:Int)+1+1))
   have eN:=ch.store au 2 (iv ((c:Int)+1+1))
   have jC:=iB.store aM (n:=2) rfl (by omega) (iv ((c:Int)+1+1))
   have j5:=eO.set (o:=i*8+2) ⟨rfl,by omega⟩ (iv ((c:Int)+1+1))
   have gT:=fun w=>jam (c+3) w (by omega) (by omega)
   rw[show((c+3:Nat):Int)=(c:Int)+1+1+1 by omega]at gT
   go_wp2_with fail
   refine(gT _).mono ?_
   rintro e w1 ⟨rfl,hb1⟩
   have gX:=ks.below hb1
   have pG:=eN.below hb1
   have pV:=jC.below hb1
   have qj:=j5.trans (Zc.of_below (S:=fun b=>b=g/\0<n) hb1)
   clear hb1 ks eN jC j5 gT
   obtain⟨⟨u3,vH⟩,gE⟩:=gX (i*8+3) (by omega)
   have me:=gX.set (ad g (i*8+3)) (.string (mtB (c+3)))
   have m9:=pG.store au 3 (.string (mtB (c+3)))
   have pW:=pV.store gX (n:=3) rfl (by omega) (.string (mtB (c+3)))
   have jE:=qj.set (o:=i*8+3) ⟨rfl,by omega⟩ (.string (mtB (c+3)))
   have lx:=fun w=>jam (c+4) w (by omega) (by omega)
   rw[show((c+4:Nat):Int)=(c:Int)+1+1+1+1 by omega]at lx
   go_wp2_with fail
   refine(lx _).mono ?_
   rintro e w2 ⟨rfl,ac⟩
   have gY:=me.below ac
   have pH:=m9.below ac
   have pX:=pW.below ac
   have qk:=jE.trans (Zc.of_below (S:=fun b=>b=g/\0<n) ac)
   clear ac me m9 pW jE lx
   obtain⟨⟨u4,vI⟩,oy⟩:=gY (i*8+4) (by omega)
   have eC:=gY.set (ad g (i*8+4)) (.string (mtB (c+4)))
   have jz:=pH.store au 4 (.string (mtB (c+4)))
   have lz:=pX.store gY (n:=4) rfl (by omega) (.string (mtB (c+4)))
   have sn:=qk.set (o:=i*8+4) ⟨rfl,by omega⟩ (.string (mtB (c+4)))
   obtain⟨⟨u5,vJ⟩,uT⟩:=eC (i*8+5) (by omega)
   have od:=eC.set (ad g (i*8+5)) (iv ((c:Int)+1+1+1+1+1))
   have pI:=jz.store au 5 (iv ((c:Int)+1+1+1+1+1))
   have jD:=lz.store eC (n:=5) rfl (by omega) (iv ((c:Int)+1+1+1+1+1))
   have sp:=sn.set (o:=i*8+5) ⟨rfl,by omega⟩ (iv ((c:Int)+1+1+1+1+1))
   obtain⟨⟨u6,CC⟩,BX⟩:=od (i*8+6) (by omega)
   have qa:=od.set (ad g (i*8+6)) (iv ((c:Int)+1+1+1+1+1+1))
   have Be:=pI.store au 6 (iv ((c:Int)+1+1+1+1+1+1))
   have ff:=jD.store od (n:=6) rfl (by omega) (iv ((c:Int)+1+1+1+1+1+1))
   have mj:=sp.set (o:=i*8+6) ⟨rfl,by omega⟩ (iv ((c:Int)+1+1+1+1+1+1))
   obtain⟨⟨u7,CD⟩,BY⟩:=qa (i*8+7) (by omega)
   have xJ:=qa.set (ad g (i*8+7)) (iv ((c:Int)+1+1+1+1+1+1+1))
   have ue:=Be.store au 7 (iv ((c:Int)+1+1+1+1+1+1+1))
   have uC:=ff.store qa (n:=7) rfl (by omega) (iv ((c:Int)+1+1+1+1+1+1+1))
   have xP:=mj.set (o:=i*8+7) ⟨rfl,by omega⟩ (iv ((c:Int)+1+1+1+1+1+1+1))
   have hF:Ze _ g 8 (i+1) (jbq k n):=ue.step uC (by rw[ap];simp[jin,mbB_at,Int.add_assoc])
   clear ue uC
   go_wp2
   go_roundw
   case rel=>exact⟨i+1,by omega,by go_num,by rw[HK.out];go_num,xJ,hF,xP⟩
   case measure=>simp[intOf];omega
  ·have e:i=n:=by omega
   subst e
   go_wp2
   go_ret
   exact⟨rfl,Ze.seq (by unfold jbq;rw[llm,List.length_range];exact ew),bJ,dv⟩
def jpz(c:Nat):List Value:=[iv (c:Nat),iv (c+1:Nat)]
def jb6(c n:Nat):List (List Value):=(List.range n).map fun i=>jpz (c+2*i)
theorem jim{c n i:Nat}(h:i<n):(jb6 c n)[i]? =some (jpz (c+2*i)):=by unfold jb6;rw[lgm,List.getElem?_range h];rfl
theorem mksEntry_len{c n:Nat}:∀r∈jb6 c n,r.length=2:=fun r hr=>by
 unfold jb6 at hr
 obtain⟨i,_,rfl⟩:=List.mem_map.mp hr
 rfl
theorem jd7(n g cap k:Nat)(w:World)(bJ:Zg w g (n*2))(h0:0<k)(h1:k+2*n<1000000000):
  Cl 34 #[so g n cap,iv k] w fun e w'=>e=.returned (iv ((k+2*n:Nat):Int))/\Za w' (some (ad g 0)) 2 (jb6 k n)/\Zg w' g (n*2)/\Zc (fun b=>b=g/\0<n) w w':=by
 have au:=@mksEntry_len k n
 unfold Cl;go_in
 go_wp2
 go_loopw [1,5] (fun s t wr=>∃i:Nat,i<=n/\t=iv i/\s=iv ((k+2*i:Nat):Int)/\Zg wr g (n*2)/\Ze wr g 2 i (jb6 k n)/\Zc (fun b=>b=g/\0<n) w wr) (fun _ t _=>n-(intOf t).toNat)
 case atStart=>exact⟨0,by omega,rfl,rfl,bJ,fun i j r c h=>by omega,Zc.refl _ _⟩
 case round=>
  clear bJ
  obtain⟨i,hi,rfl,rfl,bJ,ew,dv⟩:=hrel
  by_cases hlt:i<n
  ·have ap:=jim (c:=k) hlt
   have HK:Hid (k+2*(i+1)=(k+2*i)+2):=by simp only[Hid];omega
   have kA:0<k+2*i:=by omega
   have aX:k+2*i+2<1000000000:=by omega
   generalize k+2*i=c at *
   have kq:Jh wr g (i*2) []:=Jh.nil _ _ _
   obtain⟨⟨u0,iR⟩,gC⟩:=bJ (i*2) (by omega)
   have dn:Zg (wr.setCell (ad g (i*2)) (iv (c:Int))) g (n*2):=bJ.set _ _
   have gQ:Ze (wr.setCell (ad g (i*2)) (iv (c:Int))) g 2 i (jb6 k n):=by simpa using ew.store au 0 (iv (c:Int))
   have kr:Jh (wr.setCell (ad g (i*2)) (iv (c:Int))) g (i*2) [iv (c:Int)]:=by simpa using kq.store bJ (n:=0) rfl (by omega) (iv (c:Int))
   have dG:Zc (fun b=>b=g/\0<n) w (wr.setCell (ad g (i*2)) (iv (c:Int))):=dv.set ⟨rfl,by omega⟩ _
   obtain⟨⟨u1,lJ⟩,dg⟩:=dn (i*2+1) (by omega)
   have aM:=dn.set (ad g (i*2+1)) (iv ((c:Int)+1))
   have ch:=gQ.store au 1 (iv ((c:Int)+1))
   have iB:=kr.store dn (n:=1) rfl (by omega) (iv ((c:Int)+1))
   have eO:=dG.set (o:=i*2+1) ⟨rfl,by omega⟩ (iv ((c:Int)+1))
   have hF:Ze _ g 2 (i+1) (jb6 k n):=ch.step iB (by rw[ap];simp[jpz])
   clear ch iB
   go_wp2
   go_roundw
   case rel=>exact⟨i+1,by omega,by go_num,by rw[HK.out];go_num,aM,hF,eO⟩
   case measure=>simp[intOf];omega
  ·have e:i=n:=by omega
   subst e
   go_wp2
   go_ret
   exact⟨rfl,Ze.seq (by unfold jb6;rw[llm,List.length_range];exact ew),bJ,dv⟩