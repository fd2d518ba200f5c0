import Derived.Test.YtlmgdfoiejpbcaaGreatDoorSXd
set_option maxHeartbeats 0
set_option linter.unusedSimpArgs false
open Go.RowKit
namespace Go.Proofs.YtlmgdfoiejpbcaaGreatDoor
theorem kLt_irr(x:EventD):¬kLt x x:=by unfold kLt;omega
theorem kLt_asym{x y:EventD}(h:kLt x y):¬kLt y x:=by unfold kLt at *;omega
theorem kLt_one:∀{P Q:List EventD},P.Pairwise kLt->Q.Pairwise kLt->(∀x,x∈P↔x∈Q)->P=Q
 |[],[],_,_,_=>rfl
 |[],b::Q,_,_,h=>by have:=(h b).mpr (List.mem_cons_self ..);simp at this
 |a::P,[],_,_,h=>by have:=(h a).mp (List.mem_cons_self ..);simp at this
 |a::P,b::Q,hP,hQ,h=>by
  obtain⟨p1,p2⟩:=List.pairwise_cons.mp hP
  obtain⟨q1,q2⟩:=List.pairwise_cons.mp hQ
  have e:a=b:=by
   rcases List.mem_cons.mp ((h a).mp (List.mem_cons_self ..))with e|e
   ·exact e
   ·rcases List.mem_cons.mp ((h b).mpr (List.mem_cons_self ..))with e2|e2
    ·exact e2.symm
    ·exact absurd (q1 a e) (kLt_asym (p1 b e2))
  subst e
  rw[kLt_one p2 q2 fun x=>?_]
  constructor
  ·intro hx
   rcases List.mem_cons.mp ((h x).mp (lmc _ hx))with e|e
   ·subst e;exact absurd (p1 _ hx) (kLt_irr _)
   ·exact e
  ·intro hx
   rcases List.mem_cons.mp ((h x).mpr (lmc _ hx))with e|e
   ·subst e;exact absurd (q1 _ hx) (kLt_irr _)
   ·exact e
def aheadW(L:List EventD)(z:Int):Nat:=(L.takeWhile fun x=>decide (x.wall<=z)).length
def insW:List EventD->EventD->List EventD
 |[],e=>[e]
 |a::L,e=>if a.wall<=e.wall then a::insW L e else e::a::L
theorem insW_mem{e x:EventD}:∀{L:List EventD},x∈insW L e↔x=e\/x∈L
 |[]=>by simp[insW]
 |a::L=>by
  rw[insW]
  split
  ·rw[List.mem_cons,insW_mem,List.mem_cons]
   constructor
   ·rintro(h|h|h)
    ·exact .inr (.inl h)
    ·exact .inl h
    ·exact .inr (.inr h)
   ·rintro(h|h|h)
    ·exact .inr (.inl h)
    ·exact .inl h
    ·exact .inr (.inr h)
  ·rw[List.mem_cons]
theorem insW_len(L:List EventD)(e:EventD):(insW L e).length=L.length+1:=by
 induction L with
 |nil=>rfl
 |cons a L ih=>rw[insW];split<;>simp[ih]
theorem insW_at(L:List EventD)(e:EventD):insW L e=L.take (aheadW L e.wall)++[e]++L.drop (aheadW L e.wall):=by
 induction L with
 |nil=>rfl
 |cons a L ih=>
  unfold aheadW at *
  rw[insW]
  by_cases h:a.wall<=e.wall
  ·rw[if_pos h,ih];simp[h]
  ·rw[if_neg h];simp[h]
theorem insW_srt{e:EventD}:∀{L:List EventD},L.Pairwise kLt->(∀x∈L,x.id<e.id)->(insW L e).Pairwise kLt
 |[],_,_=>by simp[insW]
 |a::L,h,hi=>by
  obtain⟨h1,h2⟩:=List.pairwise_cons.mp h
  have ha:=hi a (List.mem_cons_self ..)
  rw[insW]
  split
  ·rename_i hw
   refine List.pairwise_cons.mpr ⟨fun x hx=>?_,insW_srt h2 fun x hx=>hi x (lmc _ hx)⟩
   rcases insW_mem.mp hx with rfl|hx
   ·unfold kLt;omega
   ·exact h1 x hx
  ·rename_i hw
   have hk:kLt e a:=.inl (by omega)
   exact List.pairwise_cons.mpr ⟨fun x hx=>by
    rcases List.mem_cons.mp hx with rfl|hx
    ·exact hk
    ·exact kLt_trans hk (h1 x hx),h⟩
theorem aheadW_of{L:List EventD}{z:Int}{k:Nat}(h1:∀(j:Nat) x,j<k->L[j]? =some x->x.wall<=z)(h2:∀x,L[k]? =some x->¬x.wall<=z)(hk:k<=L.length):aheadW L z=k:=by
 induction L generalizing k with
 |nil=>simp at hk;subst hk;rfl
 | cons a L ih=>
  unfold aheadW at *
  cases k with
  |zero=>have:=h2 a rfl;simp[this]
  |succ k=>
   have h0:=h1 0 a (by omega) rfl
   have:=ih (k:=k) (fun j x hj hx=>h1 (j+1) x (by omega) (by simpa using hx)) (fun x hx=>h2 x (by simpa using hx)) (by simp at hk;omega)
   simp[h0,this]
def okW(z:ByteArray)(lo hi:Int)(e:EventD):Bool:=(e.zone.toList==z.toList)&&(decide (lo<=e.wall)&&decide (e.wall<=hi))
def fwAdd(z:ByteArray)(lo hi:Int)(L:List EventD)(e:EventD):List EventD:=if okW z lo hi e=true then insW L e else L
def fwL(z:ByteArray)(lo hi:Int)(l:List EventD):List EventD:=l.foldl (fwAdd z lo hi) []
theorem fwL_take{z:ByteArray}{lo hi:Int}{l:List EventD}{i:Nat}{e:EventD}(h:l[i]? =some e):fwL z lo hi (l.take (i+1))=fwAdd z lo hi (fwL z lo hi (l.take i)) e:=by
 unfold fwL
 rw[List.take_add_one,h,List.foldl_append]
 rfl
theorem fold_fw{z:ByteArray}{lo hi:Int}:∀(l L:List EventD),L.Pairwise kLt->(∀x∈L,∀y∈l,x.id<y.id)->(l.Pairwise fun x y=>x.id<y.id)->(l.foldl (fwAdd z lo hi) L).Pairwise kLt/\∀x,x∈l.foldl (fwAdd z lo hi) L↔x∈L\/(x∈l/\okW z lo hi x=true)
 |[],L,h,_,_=>⟨h,fun x=>by simp⟩
 | e ::l,L,h,FY,hl=>by
  obtain⟨l1,l2⟩:=List.pairwise_cons.mp hl
  rw[List.foldl_cons]
  have hA:(fwAdd z lo hi L e).Pairwise kLt:=by
   unfold fwAdd
   split
   ·exact insW_srt h fun x hx=>FY x hx e (List.mem_cons_self ..)
   ·exact h
  have hM:∀x,x∈fwAdd z lo hi L e↔x∈L\/(x=e/\okW z lo hi x=true):=fun x=>by
   unfold fwAdd
   split
   ·rename_i ho
    rw[insW_mem]
    constructor
    ·rintro(rfl|hx)
     ·exact .inr ⟨rfl,ho⟩
     ·exact .inl hx
    ·rintro(hx|⟨hx,_⟩)
     ·exact .inr hx
     ·exact .inl hx
   ·rename_i ho
    exact⟨.inl,fun hx=>hx.elim id fun hx=>absurd (hx.1 ▸ hx.2) ho⟩
  obtain⟨r1,r2⟩:=fold_fw l _ hA (fun x hx y hy=>by
   rcases(hM x).mp hx with hx|⟨rfl,_⟩
   ·exact FY x hx y (lmc _ hy)
   ·exact l1 y hy) l2
  refine⟨r1,fun x=>?_⟩
  rw[r2,hM,List.mem_cons]
  constructor
  ·rintro((hx|⟨hx,ho⟩)|⟨hx,ho⟩)
   ·exact .inl hx
   ·exact .inr ⟨.inl hx,ho⟩
   ·exact .inr ⟨.inr hx,ho⟩
  ·rintro(hx|⟨hx|hx,ho⟩)
   ·exact .inl (.inl hx)
   ·exact .inl (.inr ⟨hx,ho⟩)
   ·exact .inr ⟨hx,ho⟩
theorem fw_one{z:ByteArray}{lo hi:Int}{l Q:List EventD}(hl:l.Pairwise fun x y=>x.id<y.id)(hQ:Q.Pairwise kLt)(hm:∀x,x∈Q↔x∈l.filter (okW z lo hi)):Q=fwL z lo hi l:=by
 obtain⟨r1,r2⟩:=fold_fw (z:=z) (lo:=lo) (hi:=hi) l [] .nil (fun x hx=>by simp at hx) hl
 refine kLt_one hQ r1 fun x=>?_
 rw[hm,List.mem_filter]
 rw[show fwL z lo hi l=l.foldl (fwAdd z lo hi) []from rfl]at *
 rw[r2]
 simp
section
open Go.RowKit Go.Lib Go.Sort
def fwS(s:StoreD)(z:ByteArray)(lo hi:Int)(tb:Bool):List EventD:=if z.size<=8000/\tb=true then fwL z lo hi (jan s.vs)else []
set_option maxRecDepth 20000 in
theorem spec_FindWall(s:StoreD)(v:Value)(z:ByteArray)(lo hi:Int)(tb:Bool)(w:World)(hv:Jd w v s)(hz:z.size<=maxLen)(Sm:∀w,Jd w v s->Cl 16 #[v] w fun e w'=>e=.returned (.bool tb)/\Bw w w')(tP:tb=true->s.vs.length<=1000/\(jan s.vs).length<=1000):
  Cl 5 #[v,.string z,iv lo,iv hi] w fun e w'=>∃x,e=.returned x/\Jb w' w.heap.size x (fwS s z lo hi tb)/\Bw w w':=by
 have dQ:=hv
 obtain⟨i0,PQ,aG,aH,aF⟩:=jtp
 obtain⟨a,b,c,d,e,f,va,ia,ca,cb,cc,cd,ce,cf,cv,ci,rfl,_,_,hV,_,_,_⟩:=hv.form
 have sP:(z.size:Int)<=9223372036854775807:=by unfold maxLen at hz;omega
 have b0:=qal w (.cells (stA s a b c d e f va ia ca cb cc cd ce cf cv ci).toArray 42)
 have b1:=b0.alloc (by simp) (.cells #[] 55)
 have A0:=(Zh.new w (stA s a b c d e f va ia ca cb cc cd ce cf cv ci) 42).below (qal _ (.cells #[] 55))
 have E0:=ja5 (w.alloc (.cells (stA s a b c d e f va ia ca cb cc cd ce cf cv ci).toArray 42)) 55 6
 have q1:=Sm _ (dQ.below b1)
 obtain⟨x0,x1,x2,x3,x4,x5,x6,x7,x8,x9⟩:=A0.ten
 have HV:=hidE hV
 have hsz:(w.alloc (.cells (stA s a b c d e f va ia ca cb cc cd ce cf cv ci).toArray 42)).heap.size=w.heap.size+1:=by simp
 rw[hsz]at E0
 unfold Cl;go_in
 by_cases xz:z.size<=8000
 case neg=>
  have Gr:(8000:Int)<(z.size:Int):=by omega
  have HF:Hid (fwS s z lo hi tb=[]):=if_neg (fun h=>xz h.1)
  have HE:=hidE (jaj E0 (Nat.le_succ _))
  have HB:=hidE b1
  clear x0 x1 x2 x3 x4 x5 x6 x7 x8 x9 A0 q1 b0 b1 E0
  go_wp2
  go_ret
  exact⟨_,rfl,by rw[HF.out];exact HE.out,HB.out⟩
 have Gr:¬(8000:Int)<(z.size:Int):=by omega
 go_wp2_with fail
 refine q1.mono ?_
 rintro e1 w1 ⟨rfl,hb1⟩
 have aj:=qtr b1 hb1
 have E1:=jac E0 hb1
 have A1:=A0.below hb1
 clear x0 x1 x2 x3 x4 x5 x6 x7 x8 x9 A0 q1 b0 E0
 cases tb
 case false=>
  have HF:Hid (fwS s z lo hi false=[]):=if_neg (fun h=>by cases h.2)
  have HE:=hidE (jaj E1 (Nat.le_succ _))
  clear E1 A1 b1 hb1
  go_wp2
  go_ret
  exact⟨_,rfl,by rw[HF.out];exact HE.out,aj⟩
 case true=>
 have HF:Hid (fwS s z lo hi true=fwL z lo hi (jan s.vs)):=if_pos ⟨xz,rfl⟩
 obtain⟨SC,SD⟩:=tP rfl
 have q2:=jd1 s.vs va s.vs.length cv w1 (HV.out.below aj) rfl SC
 have x8:=A1.c 8 (u:=.slice va s.vs.length cv) rfl
 clear b1 hb1 tP
 go_wp2_with fail
 refine q2.mono ?_
 rintro e2 w2 ⟨lv,rfl,aW,ac⟩
 obtain⟨pl,cl,Sq,dR⟩:=aW.seq
 subst Sq
 have an:=qtr aj ac
 have E2:=jac E1 ac
 obtain⟨N,hN⟩:=qeb ((jan s.vs).length)
 have HN:=hidE hN
 rw[hN]at SD ⊢
 generalize jan s.vs=l at *
 clear x8 A1 E1 aj ac q2 aW hN
 go_wp2
 go_loopw [9,11,12,13,14] (fun v s _ _ _ wr=>∃(i g m c:Nat),i<=N/\s=iv i/\v=so g m c/\m<=i/\m<=c/\Hid ((fwL z lo hi (l.take i)).length=m)/\Jb wr w.heap.size (so g m c) (fwL z lo hi (l.take i))/\Hid (Za wr pl 6 (l.map EventD.cs))/\Bw w wr) (fun _ s _ _ _ _=>N-(intOf s).toNat)
 case atStart=>exact⟨0,w.heap.size+1,0,0,by omega,rfl,rfl,by omega,by omega,rfl,jaj E2 (Nat.le_succ _),dR,an⟩
 case round=>
  clear E2 dR an
  obtain⟨wz,gp⟩:=qea wr
  subst gp
  obtain⟨i,g,m,c,hin,rfl,rfl,P8,vi,HM,nZ,Qn,ag⟩:=hrel
  by_cases hlt:i<N
  ·have s1:(i:Int)<(N:Int):=by omega
   have s0:(0:Int)<=(i:Int):=by omega
   obtain⟨x,hx⟩:∃x,l[i]? =some x:=⟨_,lgg (by have:=HN.out;omega)⟩
   obtain⟨bl,ol,rfl,hc⟩:=Qn.out.at (i:=i) (r:=x.cs) (by rw[lgm,hx];rfl)
   have c0:wz.cell? (ad bl (ol+i*6))=some (iv x.id):=hc 0 _ rfl
   have c1:wz.cell? (ad bl (ol+i*6+1))=some (.string x.name):=hc 1 _ rfl
   have c2:wz.cell? (ad bl (ol+i*6+2))=some (.string x.zone):=hc 2 _ rfl
   have c3:wz.cell? (ad bl (ol+i*6+3))=some (iv x.wall):=hc 3 _ rfl
   have c4:wz.cell? (ad bl (ol+i*6+4))=some (iv x.gap):=hc 4 _ rfl
   have c5:wz.cell? (ad bl (ol+i*6+5))=some (iv x.fold):=hc 5 _ rfl
   have HK:=hidE (fwL_take (z:=z) (lo:=lo) (hi:=hi) hx)
   have bA:=qal wz (.cells #[iv x.id,.string x.name,.string x.zone,iv x.wall,iv x.gap,iv x.fold] 55)
   have V:=Zh.new wz [iv x.id,.string x.name,.string x.zone,iv x.wall,iv x.gap,iv x.fold] 55
   have d0:=V.c 0 rfl
   have d1:=V.c 1 rfl
   have d2:=V.c 2 rfl
   have d3:=V.c 3 rfl
   have d4:=V.c 4 rfl
   have d5:=V.c 5 rfl
   have hO:=jac nZ bA
   have ds:=hidE (Qn.out.below bA)
   have hB:=qtr ag bA
   have hbe:wz.heap.size<(wz.alloc (.cells #[iv x.id,.string x.name,.string x.zone,iv x.wall,iv x.gap,iv x.fold] 55)).heap.size:=by simp
   clear hc hx Qn nZ ag bA V
   cases hok:okW z lo hi x
   case false=>
    have ed:Hid (fwL z lo hi (l.take (i+1))=fwL z lo hi (l.take i)):=by simp only[Hid];rw[HK.out];unfold fwAdd;rw[hok];rfl
    unfold okW at hok
    have nx:=hidE (And.intro HM.out (And.intro hO hB))
    have Sh:Hid (∃i2:Nat,i2=i+1):=⟨_,rfl⟩
    clear HK HM hO hB Sh
    cases hk1:(x.zone.toList==z.toList)
    case false=>
     have PS:(x.zone.toList != z.toList)=true:=by rw[bne,hk1];rfl
     go_wp2
     go_roundw
     case rel=>exact⟨i+1,g,m,c,by omega,by go_num,rfl,by omega,vi,by simp only[Hid];rw[ed.out];exact nx.out.1,by rw[ed.out];exact nx.out.2.1,ds,nx.out.2.2⟩
     case measure=>simp[intOf];omega
    case true=>
     have PS:(x.zone.toList != z.toList)=false:=by rw[bne,hk1];rfl
     rw[hk1,Bool.true_and]at hok
     by_cases fy:x.wall<lo
     ·clear hok
      go_wp2
      go_roundw
      case rel=>exact⟨i+1,g,m,c,by omega,by go_num,rfl,by omega,vi,by simp only[Hid];rw[ed.out];exact nx.out.1,by rw[ed.out];exact nx.out.2.1,ds,nx.out.2.2⟩
      case measure=>simp[intOf];omega
     ·have oC:hi<x.wall:=by
       rw[dte (show lo<=x.wall by omega),Bool.true_and]at hok
       have:=of_decide_eq_false hok
       omega
      clear hok
      go_wp2
      go_roundw
      case rel=>exact⟨i+1,g,m,c,by omega,by go_num,rfl,by omega,vi,by simp only[Hid];rw[ed.out];exact nx.out.1,by rw[ed.out];exact nx.out.2.1,ds,nx.out.2.2⟩
      case measure=>simp[intOf];omega
   case true=>
    have ed:Hid (fwL z lo hi (l.take (i+1))=insW (fwL z lo hi (l.take i)) x):=by simp only[Hid];rw[HK.out];unfold fwAdd;rw[if_pos hok]
    unfold okW at hok
    simp only[bat,decide_eq_true_eq]at hok
    obtain⟨hk1,fy,oC⟩:=hok
    have PS:(x.zone.toList != z.toList)=false:=by rw[bne,hk1];rfl
    have uY:¬x.wall<lo:=by omega
    have T9:¬hi<x.wall:=by omega
    generalize fwL z lo hi (l.take i)=L at *
    obtain⟨wa,dS⟩:=qeb (wz.alloc (.cells #[iv x.id,.string x.name,.string x.zone,iv x.wall,iv x.gap,iv x.fold] 55))
    obtain⟨be,Os⟩:=qeb wz.heap.size
    rw[dS]at d0 d1 d2 d3 d4 d5 hO ds hB hbe
    rw[Os]at d0 d1 d2 d3 d4 d5 hbe
    go_wp2
    go_loopw [13] (fun s wr=>∃k:Nat,k<=m/\s=iv k/\Hid (∀(j:Nat) y,j<k->L[j]? =some y->y.wall<=x.wall)/\Bw wa wr) (fun s _=>m+1-(intOf s).toNat)
    case atStart=>exact⟨0,by omega,rfl,fun j x hj=>by omega,brf _ _⟩
    case round=>
     clear dS Os
     obtain⟨wb,mQ⟩:=qea wr
     subst mQ
     obtain⟨k,hk,rfl,HS,ck⟩:=hrel
     have fW:Jb wb w.heap.size (so g m c) L:=jac hO ck
     have g2:=jaa ck d0
     have g3:=jaa ck d1
     have g4:=jaa ck d2
     have g5:=jaa ck d3
     have g6:=jaa ck d4
     have g7:=jaa ck d5
     have k0:(0:Int)<=(k:Int):=by omega
     clear hO c0 c1 c2 c3 c4 c5 d0 d1 d2 d3 d4 d5
     go_upto_region 11 with fail
     go_cut [67]from 54 to 69 (fun SE wx=>∃bb:Bool,SE=.bool bb/\Hid (Bw wb wx)/\Hid (if bb=true then k<m/\∀(j:Nat) y,j<k+1->L[j]? =some y->y.wall<=x.wall else aheadW L x.wall=k))
     case first=>
      by_cases je:k<m
      ·have k1:(k:Int)<(m:Int):=by omega
       obtain⟨y,hy⟩:∃y,L[k]? =some y:=⟨_,lgg (by have:=HM.out;omega)⟩
       have CM:(L.map EventD.cs)[k]? =some y.cs:=by rw[lgm,hy];rfl
       have cx:wb.cell? (ad g (k*6+3))=some (iv y.wall):=fW.cell (ja3 (q:=6) jbl (j:=3) CM rfl)
       clear CM
       have q0:decide ((k:Int)<(m:Int))=true:=dte k1
       by_cases qD:y.wall<=x.wall
       ·have jM:Hid (∀(j:Nat) y,j<k+1->L[j]? =some y->y.wall<=x.wall):=fun j u hj hu=>by
         by_cases e1:j=k
         ·subst e1;rw[hy]at hu;obtain rfl:=osi hu;exact qD
         ·exact HS.out j u (by omega) hu
        clear hy HS fW g3 g4 g6 g7
        have q1:decide (y.wall<=x.wall)=true:=dte qD
        go_wp2_with fail
        go_quiet (fail)
        go_wp2
        go_meet
        exact⟨true,rfl,blN wb nq,(by simp only[Hid];exact⟨je,jM.out⟩)⟩
       ·have HA:Hid (aheadW L x.wall=k):=aheadW_of HS.out (fun u hu=>by rw[hy]at hu;obtain rfl:=osi hu;exact qD) (by have:=HM.out;omega)
        clear hy
        have q1:decide (y.wall<=x.wall)=false:=dfe qD
        go_wp2_with fail
        go_quiet (fail)
        go_wp2
        go_meet
        exact⟨false,rfl,blN wb nq,(by simp only[Hid];exact HA.out)⟩
      ·have k1:¬(k:Int)<(m:Int):=by omega
       have HA:Hid (aheadW L x.wall=k):=aheadW_of HS.out (fun u hu=>by have:=(List.getElem?_eq_some_iff.1 hu).1;have:=HM.out;omega) (by have:=HM.out;omega)
       have q0:decide ((k:Int)<(m:Int))=false:=dfe k1
       go_wp2_with fail
       go_quiet (fail)
       go_wp2
       go_meet
       exact⟨false,rfl,blN wb nq,(by simp only[Hid];exact HA.out)⟩
     obtain⟨bb,rfl,hW,HB⟩:=hcut
     obtain⟨wq,qQ⟩:=qea wc
     subst qQ
     have hW:=hW.out
     cases bb
     case true=>
      obtain⟨je,jM⟩:k<m/\Hid (∀(j:Nat) y,j<k+1->L[j]? =some y->y.wall<=x.wall):=by simpa [Hid]using HB
      clear HB HS fW g2 g3 g4 g5 g6 g7
      go_wp2
      go_roundw
      case rel=>exact⟨k+1,by omega,by go_num,jM,(qtr ck hW)⟩
      case measure=>simp[intOf];omega
     case false=>
      have HA:Hid (aheadW L x.wall=k):=by simpa [Hid]using HB
      clear HB
      have bI:Jb wq w.heap.size (so g m c) L:=jac fW hW
      have RO:Hid (∀w9,Bw wq w9->Za w9 (some (ad bl ol)) 6 (l.map EventD.cs)):=fun w9 hb=>((ds.out.below ck).below hW).below hb
      have dt:Bw w wq:=(qtr hB ck).trans (hW.mono (qtr hB ck).size)
      have e2:=jaa hW g2
      have e3:=jaa hW g3
      have e4:=jaa hW g4
      have e5:=jaa hW g5
      have e6:=jaa hW g6
      have e7:=jaa hW g7
      clear fW hB ck g2 g3 g4 g5 g6 g7 HS hW ds
      have lk:(L.take k).length=k:=by rw[List.length_take,HM.out];omega
      have ld:(L.drop k).length=m-k:=by rw[List.length_drop,HM.out]
      have iN:(L.map EventD.cs).take k=(L.take k).map EventD.cs:=List.map_take.symm
      have iM:(L.map EventD.cs).drop k=(L.drop k).map EventD.cs:=List.map_drop.symm
      have t1:((L.take k).map EventD.cs).flatten.length=k*6:=by rw[ja6 jbl,llm,lk]
      have t2:((L.drop k).map EventD.cs).flatten.length=(m-k)*6:=by rw[ja6 jbl,llm,ld]
      have n1:∀j u,((L.take k).map EventD.cs).flatten[j]? =some u->(wq.alloc (.cells #[] 55)).cell? (((ad g 0):Addr).add j)=some u:=fun j u hj=>by
       rw[addP,Nat.zero_add]
       exact jaa (qal wq _) (bI.cell (jfy (k:=k) (by rw[iN];exact hj)))
      have HD:Hid (∀w2,Bw wq w2->∀j u,((L.drop k).map EventD.cs).flatten[j]? =some u->w2.cell? (ad g (k*6+j))=some u):=fun w2 hb j u hj=>jaa hb (bI.cell (jfx jbl (by rw[llm,HM.out];omega) (by rw[iM];exact hj)))
      have HE:Hid (insW L x=(L.take k++[x])++L.drop k):=by simp only[Hid];rw[insW_at,HA.out]
      have hE:=ja5 wq 55 6
      have k2:(k:Int)<=(c:Int):=by omega
      have k3:(k:Int)<=(m:Int):=by omega
      clear bI iN iM
      go_wp2_with (first|(at_builtin;refine wpList_append_own _ rfl _ _ 32 rfl wq.heap.size 55 i0 (.agg #[iv 0,.string ⟨#[]⟩,.string ⟨#[]⟩,iv 0,iv 0,iv 0]) 6 64 Tryz.underlying32 PQ aG aH aF rfl (by decide) _ _ _ rfl hE (ad g 0) k c ((L.take k).map EventD.cs).flatten rfl t1 n1 jcx ?a3 ?a4 ?a5 ?_)|fail)
      case a3=>unfold maxLen;omega
      case a4=>omega
      case a5=>simp
      intro v1 w1 av aP _
      have aj:Bw wq w1:=(qal wq _).grown aP (by simp) (fun j hj=>(hE.lt j hj).1)
      obtain⟨a1,m1,x1,rfl⟩:=jad av
      have bU:=aj.size
      have f2:=jaa aj e2
      have f3:=jaa aj e3
      have f4:=jaa aj e4
      have f5:=jaa aj e5
      have f6:=jaa aj e6
      have f7:=jaa aj e7
      clear aP hE n1 t1 e2 e3 e4 e5 e6 e7
      go_wp2_with (first|(at_builtin;refine wpList_append_own _ rfl _ _ 32 rfl wq.heap.size 55 i0 (.agg #[iv 0,.string ⟨#[]⟩,.string ⟨#[]⟩,iv 0,iv 0,iv 0]) 6 64 Tryz.underlying32 PQ aG aH aF rfl (by decide) _ _ _ rfl (woa av _) (ad w1.heap.size 0) 1 1 [iv x.id,.string x.name,.string x.zone,iv x.wall,iv x.gap,iv x.fold] rfl rfl ?b1 ?b2 ?b3 ?b4 ?b5 ?_)|fail)
      case b1=>exact jah _ [iv x.id,.string x.name,.string x.zone,iv x.wall,iv x.gap,iv x.fold] _
      case b2=>intro u hu;simp at hu;rcases hu with rfl|rfl|rfl|rfl|rfl|rfl<;>rfl
      case b3=>unfold maxLen;omega
      case b4=>omega
      case b5=>simp;omega
      intro v2 w2 aw aU _
      have an:Bw wq w2:=(aj.alloc aj.size _).grown aU (by simp;omega) (fun j hj=>(av.lt j hj).1)
      obtain⟨a2,m2,x2,rfl⟩:=jad aw
      have dR:=an.size
      have n2:=HD.out w2 an
      clear aU av aj f2 f3 f4 f5 f6 f7
      by_cases iH:c=k
      ·have qF:k=m:=by omega
       have qv:k=c:=iH.symm
       clear iH
       subst qv
       subst qF
       have t2:((L.drop k).map EventD.cs).flatten.length=0*6:=by rw[t2];simp
       have n3:∀j u,((L.drop k).map EventD.cs).flatten[j]? =some u->w2.cell? (((ad g 0):Addr).add j)=some u:=fun j u hj=>by have h1:=(List.getElem?_eq_some_iff.1 hj).1;rw[t2]at h1;omega
       go_wp2_with (first|(at_builtin;refine wpList_append_own _ rfl _ _ 32 rfl wq.heap.size 55 i0 (.agg #[iv 0,.string ⟨#[]⟩,.string ⟨#[]⟩,iv 0,iv 0,iv 0]) 6 64 Tryz.underlying32 PQ aG aH aF rfl (by decide) _ _ _ rfl aw (ad g 0) 0 0 ((L.drop k).map EventD.cs).flatten rfl t2 n3 jcx ?g3 ?g4 ?g5 ?_)|fail)
       case g3=>unfold maxLen;omega
       case g4=>omega
       case g5=>omega
       intro v3 w3 aI aJ _
       have ax:Bw wq w3:=an.grown aJ (by omega) (fun j hj=>(aw.lt j hj).1)
       have HO:Hid (Jb w3 w.heap.size v3 (insW L x)):=by
        simp only[Hid]
        have h9:w3.ownsRow wq.heap.size 55 6 v3 (insW L x).length ((insW L x).map EventD.cs).flatten:=by
         rw[insW_len,HM.out,HE.out,lma,lma,List.flatten_append,List.flatten_append]
         have hx:k+1+0=k+1:=by omega
         rw[hx]at aI
         simpa [EventD.cs]using aI
        exact jaj h9 dt.size
       obtain⟨g3,x3,eS,eI⟩:=HO.out.shape (by rw[insW_len];omega)
       rw[insW_len,HM.out]at eS eI
       subst eS
       have cR:Bw w w3:=qtr dt ax
       have Ql:=hidE (RO.out _ ax)
       clear aJ aI aw an ax n2 n3 t2 HD
       go_wp2
       go_roundw
       case rel=>exact⟨i+1,g3,k+1,x3,by omega,by go_num,rfl,by omega,eI,by simp only[Hid];rw[ed.out,insW_len,HM.out],by rw[ed.out];exact HO.out,Ql,cR⟩
       case measure=>simp[intOf];omega
      ·skip
       have n3:∀j u,((L.drop k).map EventD.cs).flatten[j]? =some u->w2.cell? (((ad g (k*6)):Addr).add j)=some u:=fun j u hj=>by rw[addP];exact n2 j u hj
       go_wp2_with (first|(at_builtin;refine wpList_append_own _ rfl _ _ 32 rfl wq.heap.size 55 i0 (.agg #[iv 0,.string ⟨#[]⟩,.string ⟨#[]⟩,iv 0,iv 0,iv 0]) 6 64 Tryz.underlying32 PQ aG aH aF rfl (by decide) _ _ _ rfl aw (ad g (k*6)) (m-k) (c-k) ((L.drop k).map EventD.cs).flatten rfl t2 n3 jcx ?g3 ?g4 ?g5 ?_)|fail)
       case g3=>unfold maxLen;omega
       case g4=>omega
       case g5=>omega
       intro v3 w3 aI aJ _
       have ax:Bw wq w3:=an.grown aJ (by omega) (fun j hj=>(aw.lt j hj).1)
       have HO:Hid (Jb w3 w.heap.size v3 (insW L x)):=by
        simp only[Hid]
        have h9:w3.ownsRow wq.heap.size 55 6 v3 (insW L x).length ((insW L x).map EventD.cs).flatten:=by
         rw[insW_len,HM.out,HE.out,lma,lma,List.flatten_append,List.flatten_append]
         have hx:k+1+(m-k)=m+1:=by omega
         rw[hx]at aI
         simpa [EventD.cs]using aI
        exact jaj h9 dt.size
       obtain⟨g3,x3,eS,eI⟩:=HO.out.shape (by rw[insW_len];omega)
       rw[insW_len,HM.out]at eS eI
       subst eS
       have cR:Bw w w3:=qtr dt ax
       have Ql:=hidE (RO.out _ ax)
       clear aJ aI aw an ax n2 n3 t2 HD
       go_wp2
       go_roundw
       case rel=>exact⟨i+1,g3,m+1,x3,by omega,by go_num,rfl,by omega,eI,by simp only[Hid];rw[ed.out,insW_len,HM.out],by rw[ed.out];exact HO.out,Ql,cR⟩
       case measure=>simp[intOf];omega
  ·have hE:i=N:=by omega
   subst hE
   have HE:Hid (fwL z lo hi (l.take i)=fwL z lo hi l):=by simp only[Hid];rw[List.take_of_length_le (by rw[HN.out];exact nlr _)]
   have s1:¬(i:Int)<(i:Int):=by omega
   go_wp2
   go_ret
   exact⟨_,rfl,by rw[HF.out, <- HE.out];exact nZ,ag⟩
