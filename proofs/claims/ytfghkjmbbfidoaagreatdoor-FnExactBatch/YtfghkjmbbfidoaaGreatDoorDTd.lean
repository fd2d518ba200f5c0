import Derived.Test.YtfghkjmbbfidoaaGreatDoorDs2d
import Derived.Test.YtfghkjmbbfidoaaGreatDoorDPd
set_option maxHeartbeats 0
set_option linter.unusedSimpArgs false
namespace Go.Proofs.YtfghkjmbbfidoaaGreatDoor
section
open Go.RowKit Go.Lib
theorem RelFrom.sets{B b:Nat}{w x:World}{L:List (Nat × Value)}{v:Value}{r:RelD}(h:RelFrom B w v r)(K:SetsOf b w x L)(hb:b<B):RelFrom B x v r:=h.keep fun k _ _ _ h1 h2=>(K.blk k (by omega)).trans h2
theorem own_sets{w x:World}{b base:Nat}{L:List (Nat × Value)}{e:TypeId}{q:Nat}{v:Value}{n:Nat}{xs:List Value}(h:w.ownsRow base e q v n xs)(K:SetsOf b w x L)(hb:b<base):x.ownsRow base e q v n xs:=own_agree h fun k _ h1 h2=>(K.blk k (by omega)).trans h2
structure CopM(s:StoreD)(w:World)(q:Ending)(w':World):Prop where
 ex:∃a1 a2 a3 a4 a5 a6 a8 a9 c1 c2 c3 c4 c5 c6 c8 c9,q=.returned (.agg (stA s a1 a2 a3 a4 a5 a6 a8 a9 c1 c2 c3 c4 c5 c6 c8 c9).toArray)/\RelFrom w.heap.size w' (.agg #[.slice a1 s.now.rules.length c1,.slice a2 s.now.zones.length c2,.slice a3 s.now.links.length c3]) s.now/\RelFrom w.heap.size w' (.agg #[.slice a4 s.was.rules.length c4,.slice a5 s.was.zones.length c5,.slice a6 s.was.links.length c6]) s.was/\w'.ownsRow w.heap.size 92 8 (.slice a8 s.vs.length c8) s.vs.length (s.vs.map VersionD.cs).flatten/\w'.ownsRow w.heap.size 88 2 (.slice a9 s.ix.length c9) s.ix.length (s.ix.map EntryD.cs).flatten
 bel:Bw w w'
theorem RelFrom.mono{B B2:Nat}{w:World}{v:Value}{r:RelD}(h:RelFrom B w v r)(hb:B2<=B):RelFrom B2 w v r:=fun W' hW=>h W' fun k cs t ht h1 h2=>hW k cs t ht (by omega) h2
set_option maxRecDepth 20000 in
theorem spec_l06Copy(s:StoreD)(v:Value)(B:Nat)(w:World)(hv:OwnSt w B v s)(hm:Zr s):
  Cl 18 #[v] w (CopM s w):=by
 obtain⟨a,b,c,d,e,f,va,ia,rfl,hN,hW,⟨_,hV,_⟩,⟨_,hX,_⟩,_⟩:=hv.form
 obtain⟨GT,vi,YT,YU,YV⟩:=ji0
 obtain⟨Rz,xi,QF,QG,QH⟩:=jft
 obtain⟨tx,now,was,cur,vs,ix⟩:=s
 obtain⟨m1,m2,m3,m4,m5⟩:=hm
 simp only at *
 obtain⟨w0,KR,ag,A0,R0,dP⟩:=two_alloc w (stA ⟨tx,now,was,cur,vs,ix⟩ (some (ad a 0)) (some (ad b 0)) (some (ad c 0)) (some (ad d 0)) (some (ad e 0)) (some (ad f 0)) (some (ad va 0)) (some (ad ia 0)) now.rules.length now.zones.length now.links.length was.rules.length was.zones.length was.links.length vs.length ix.length) [iv 0,nS,nS,nS,nS,nS,nS,iv 0,nS,nS] 40 40
 have q1:=fun W h=>spec_l06Release now (.agg #[so a now.rules.length now.rules.length,so b now.zones.length now.zones.length,so c now.links.length now.links.length]) B W h m1.sm
 have q2:=fun W h=>spec_l06Release was (.agg #[so d was.rules.length was.rules.length,so e was.zones.length was.zones.length,so f was.links.length was.links.length]) B W h m2.sm
 have HN:=hidP hN
 have HW:=hidP hW
 have HV:Hid (∀W,Bw w W->∀j u,(vs.map VersionD.cs).flatten[j]? =some u->W.cell? (((ad va 0):Addr).add j)=some u):=fun W hb=>(hV.below hb).flat (jlb (cs:=VersionD.cs) (fun _=>rfl) _)
 have HX:Hid (∀W,Bw w W->∀j u,(ix.map EntryD.cs).flatten[j]? =some u->W.cell? (((ad ia 0):Addr).add j)=some u):=fun W hb=>(hX.below hb).flat (jlb (cs:=EntryD.cs) (fun _=>rfl) _)
 have Z7:Hid ((vs.map VersionD.cs).flatten.length=vs.length*8):=by simp only[Hid];rw[jbx (q:=8) (jlb (cs:=VersionD.cs) (fun _=>rfl) _),llm]
 have L3:Hid ((ix.map EntryD.cs).flatten.length=ix.length*2):=by simp only[Hid];rw[jbx (q:=2) (jlb (cs:=EntryD.cs) (fun _=>rfl) _),llm]
 have QR:Hid (∀u∈(vs.map VersionD.cs).flatten,u.oneCell'=true):=jup
 have QU:Hid (∀u∈(ix.map EntryD.cs).flatten,u.oneCell'=true):=jbn
 clear hN hW hV hX hv m1 m2 m3
 generalize Yv:(vs.map VersionD.cs).flatten=vn at *
 generalize KY:(ix.map EntryD.cs).flatten=xn at *
 have WP:=hidP (And.intro Yv KY)
 clear Yv KY
 unfold Cl;go_in
 have Ah:=A0.c 1 rfl
 have oZ:=A0.f 1 rfl
 have Ai:=A0.c 2 rfl
 have pc:=A0.f 2 rfl
 have Aj:=A0.c 3 rfl
 have pd:=A0.f 3 rfl
 go_wp2_with fail
 refine(q1 _ (HN.out.below ag)).mono ?_
 rintro q w1 ⟨a1,a2,a3,c1,c2,c3,rfl,hR,bg⟩
 rw[dP]at hR
 have l1:=bg.size
 rw[dP]at l1
 have aj:=qtr ag bg
 have A1:=A0.below bg
 have R1:=R0.below bg
 have HR:=hidP hR
 clear A0 R0 ag bg hR dP q1
 clear Ah oZ Ai pc Aj pd
 have Ah:=A1.c 1 rfl
 have oZ:=A1.f 1 rfl
 have Ai:=A1.c 2 rfl
 have pc:=A1.f 2 rfl
 have Aj:=A1.c 3 rfl
 have pd:=A1.f 3 rfl
 have IT:=A1.c 4 rfl
 have Ap:=A1.f 4 rfl
 have IU:=A1.c 5 rfl
 have Aq:=A1.f 5 rfl
 have IV:=A1.c 6 rfl
 have Ar:=A1.f 6 rfl
 go_wp2_with fail
 clear Ah oZ Ai pc Aj pd IT Ap IU Aq IV Ar
 obtain⟨wB,hx,K⟩:=sets_ex (w.heap.size) w1 [(1,.slice a1 now.rules.length c1),(2,.slice a2 now.zones.length c2),(3,.slice a3 now.links.length c3)]
 simp only[stl]at hx
 rw[hx]
 have A2:=K.var _ A1
 have R2:=K.oth _ _ (by omega) R1
 have an:=K.bel _ _ (by omega) aj
 have gK:=hidP (HR.out.sets K (by omega))
 have z2:=K.size
 clear A1 R1 aj HR hx K
 refine(q2 _ (HW.out.below an)).mono ?_
 rintro q w2 ⟨a4,a5,a6,c4,c5,c6,rfl,hR,ac⟩
 rw[z2]at hR
 have l2:=ac.size
 rw[z2]at l2
 have ax:=qtr an ac
 have A3:=A2.below ac
 have R3:=R2.below ac
 have jt:=hidP (gK.out.below ac)
 have HR:=hidP (hR.mono (B2:=w.heap.size+1+1) (by omega))
 clear A2 R2 an ac hR gK z2 q2
 have IN:=A3.c 4 rfl
 have Ak:=A3.f 4 rfl
 have IP:=A3.c 5 rfl
 have Al:=A3.f 5 rfl
 have IQ:=A3.c 6 rfl
 have Am:=A3.f 6 rfl
 have IW:=A3.c 8 rfl
 have As:=A3.f 8 rfl
 obtain⟨wC,FD,K⟩:=sets_ex (w.heap.size) w2 [(4,.slice a4 was.rules.length c4),(5,.slice a5 was.zones.length c5),(6,.slice a6 was.links.length c6)]
 simp only[stl]at FD
 have A4:=K.var _ A3
 have R4:=K.oth _ _ (by omega) R3
 have aR:=K.bel _ _ (by omega) ax
 have nG:=hidP (jt.out.sets K (by omega))
 have Wi:=hidP (HR.out.sets K (by omega))
 have Rs:=K.size.symm
 have l4:w.heap.size+1+1<=wC.heap.size:=by omega
 have GY:=jaa (qal wC (.cells #[] 92)) (A4.c 8 rfl)
 clear A3 R3 ax jt HR K
 go_wp2_with (first|(at_builtin;refine wpList_append_own _ rfl _ _ 37 rfl wC.heap.size 92 GT (.agg #[iv 0,.bool false,iv 0,.string ⟨#[]⟩,.string ⟨#[]⟩,iv 0,iv 0,iv 0]) 8 80 Tryz.underlying37 vi YT YU YV rfl (by decide) _ _ _ rfl (World.ownsRow_made wC #[] 0 (nlr _) (Nat.zero_le _) (by simp)) (ad va 0) vs.length vs.length vn rfl ?qa ?qb ?qc ?qd ?qe ?qf ?_)|fail)
 case qa=>exact Z7.out
 case qb=>intro j u hj;exact Lib.cell?_alloc_some _ (by first|exact HV.out _ aR j u hj|(have h:=HV.out _ aR j u hj;rw[addP,Nat.zero_add]at h;exact h))
 case qc=>exact QR.out
 case qd=>unfold maxLen;omega
 case qe=>omega
 case qf=>simp
 clear FD Rs GY IN Ak IP Al IQ Am IW As
 intro v3 w3 ho dp _
 try simp only[List.nil_append,Nat.zero_add]at ho
 have aD:Bw wC w3:=(qal wC _).grown dp (by simp) (by intro k hk;simp[Value.ownBlock]at hk;omega)
 obtain⟨a8,c8,rfl⟩:=own_shape2 ho
 have bG:=qtr aR aD
 have A5:=A4.below aD
 have R5:=R4.below aD
 have WQ:=hidP (nG.out.below aD)
 have Ic:=hidP (Wi.out.below aD)
 have WT:=hidP (jaj ho l4)
 have l5:=Nat.le_trans l4 aD.size
 clear A4 R4 aR aD ho dp nG Wi l4 vi YT YU YV
 have IR:=A5.c 8 rfl
 have An:=A5.f 8 rfl
 have IX:=A5.c 9 rfl
 have Au:=A5.f 9 rfl
 obtain⟨wD,FN,K⟩:=sets_ex (w.heap.size) w3 [(8,.slice a8 vs.length c8)]
 simp only[stl]at FN
 have A6:=K.var _ A5
 have R6:=K.oth _ _ (by omega) R5
 have cp:=K.bel _ _ (by omega) bG
 have Wg:=hidP (WQ.out.sets K (by omega))
 have Wj:=hidP (Ic.out.sets K (by omega))
 have Wh:=hidP (own_sets WT.out K (by omega))
 have Rt:=K.size.symm
 have l6:w.heap.size+1+1<=wD.heap.size:=by omega
 have Qb:=jaa (qal wD (.cells #[] 88)) (A6.c 9 rfl)
 clear A5 R5 bG WQ Ic WT K
 go_wp2_with (first|(at_builtin;refine wpList_append_own _ rfl _ _ 38 rfl wD.heap.size 88 Rz (.agg #[iv 0,iv 0]) 2 16 Tryz.underlying38 xi QF QG QH rfl (by decide) _ _ _ rfl (World.ownsRow_made wD #[] 0 (nlr _) (Nat.zero_le _) (by simp)) (ad ia 0) ix.length ix.length xn rfl ?qa ?qb ?qc ?qd ?qe ?qf ?_)|fail)
 case qa=>exact L3.out
 case qb=>intro j u hj;exact Lib.cell?_alloc_some _ (by first|exact HX.out _ cp j u hj|(have h:=HX.out _ cp j u hj;rw[addP,Nat.zero_add]at h;exact h))
 case qc=>exact QU.out
 case qd=>unfold maxLen;omega
 case qe=>omega
 clear FN Rt Qb IR An IX Au
 intro v4 w4 ho dp _
 try simp only[List.nil_append,Nat.zero_add]at ho
 have hb6:Bw wD w4:=(qal wD _).grown dp (by simp) (by intro k hk;simp[Value.ownBlock]at hk;omega)
 obtain⟨a9,c9,rfl⟩:=own_shape2 ho
 have dz:=qtr cp hb6
 have A7:=A6.below hb6
 have R7:=R6.below hb6
 have WR:=hidP (Wg.out.below hb6)
 have WV:=hidP (Wj.out.below hb6)
 have WU:=hidP (jac Wh.out hb6)
 have WW:=hidP (jaj ho l6)
 clear A6 R6 cp hb6 ho dp Wg Wj Wh xi QF QG QH
 have OH:=A7.c 9 rfl
 have IS:=A7.f 9 rfl
 obtain⟨wF,hx,K⟩:=sets_ex (w.heap.size) w4 [(9,.slice a9 ix.length c9)]
 simp only[stl]at hx
 have OZ:=K.var _ A7
 have RZ:=K.oth _ _ (by omega) R7
 obtain⟨wG,n8,K2⟩:=sets_ex (w.heap.size+1) wF [(0,iv tx),(1,.slice a1 now.rules.length c1),(2,.slice a2 now.zones.length c2),(3,.slice a3 now.links.length c3),(4,.slice a4 was.rules.length c4),(5,.slice a5 was.zones.length c5),(6,.slice a6 was.links.length c6),(7,iv cur),(8,.slice a8 vs.length c8),(9,.slice a9 ix.length c9)]
 simp only[stl]at n8
 obtain⟨z0,z1,z2,z3,z4,z5,z6,z7,z8,z9⟩:=OZ.ten
 obtain⟨y0,y1,y2,y3,y4,y5,y6,y7,y8,y9⟩:=RZ.ten
 obtain⟨Ns,Nt,Nu,Nv,Nw,Nx,Ny,Nz,NA,NB⟩:=RZ.tenF
 have RF:=K2.var _ RZ
 have QO:=hidP (((WR.out.sets K (by omega)).sets K2 (by omega)).mono (show w.heap.size<=w.heap.size+1+1 by omega))
 have QT:=hidP (((WV.out.sets K (by omega)).sets K2 (by omega)).mono (show w.heap.size<=w.heap.size+1+1 by omega))
 have QS:=hidP (jaj (own_sets (own_sets WU.out K (by omega)) K2 (by omega)) (show w.heap.size<=w.heap.size+1+1 by omega))
 have QW:=hidP (jaj (own_sets (own_sets WW.out K (by omega)) K2 (by omega)) (show w.heap.size<=w.heap.size+1+1 by omega))
 have yA:=hidP (K2.bel _ _ (by omega) (K.bel _ _ (by omega) dz))
 obtain⟨t0,t1,t2,t3,t4,t5,t6,t7,t8,t9⟩:=RF.ten
 clear RF OZ RZ A7 R7 dz WR WV WU WW K K2
 go_wp2
 exact bpr (v:=.agg #[iv tx,.slice a1 now.rules.length c1,.slice a2 now.zones.length c2,.slice a3 now.links.length c3,.slice a4 was.rules.length c4,.slice a5 was.zones.length c5,.slice a6 was.links.length c6,iv cur,.slice a8 vs.length c8,.slice a9 ix.length c9]) (by simp[results,Tryz.results18,go_sem,t0,t1,t2,t3,t4,t5,t6,t7,t8,t9]) rfl ⟨⟨a1,a2,a3,a4,a5,a6,a8,a9,c1,c2,c3,c4,c5,c6,c8,c9,rfl,QO.out,QT.out,by rw[WP.out.1];exact QS.out,by rw[WP.out.2];exact QW.out⟩,yA.out⟩
end
section
open Go.RowKit Go.Lib Go.Sort
theorem RelFrom.setT{B g j:Nat}{w:World}{v u:Value}{r:RelD}{cs:Array Value}{t0:TypeId}(h:RelFrom B w v r)(hg:w.heap[g]? =some (.cells cs t0 (0,0)))(h0:¬RowT t0):RelFrom B (w.setCell (ad g j) u) v r:=h.keep fun k ds t ht _ h2=>set_far h2 (heap_ne h2 hg (fun e=>by injection e with _ e;exact h0 (e ▸ ht)))
theorem own_cap{w:World}{base:Nat}{e:TypeId}{q:Nat}{a:Option Addr}{m cap:Nat}{n:Nat}{xs:List Value}(h:w.ownsRow base e q (.slice a m cap) n xs):n<=cap:=by
 rcases h.2 with⟨h1,h2⟩|⟨_,c,_,h1,_,_,h2,_⟩
 ·omega
 ·injection h1 with _ _ h1;omega
theorem own_far{w:World}{g j base:Nat}{u:Value}{e:TypeId}{q:Nat}{v:Value}{n:Nat}{xs:List Value}(h:w.ownsRow base e q v n xs)(hg:g<base):(w.setCell (ad g j) u).ownsRow base e q v n xs:=own_agree h fun k _ h1 h2=>set_far h2 (by omega)
theorem ent_rowO{w:World}{base:Nat}{e:TypeId}{a:Option Addr}{cap:Nat}{l:List EntryD}(h:w.ownsRow base e 2 (.slice a l.length cap) l.length (l.map EntryD.cs).flatten):Za w a 2 (l.map EntryD.cs)/\l.length<=cap:=by
 obtain⟨a',c',he,hs,_⟩:=jbe (rows:=l.map EntryD.cs) (by rw[llm];exact h) (jlb (cs:=EntryD.cs) (fun _=>rfl) _)
 injection he with he
 exact⟨by rw[he];exact hs,own_cap h⟩
theorem not_row_store:¬RowT 40:=by unfold RowT;decide
def StFrom(B:Nat)(w:World)(v:Value)(s:StoreD):Prop:=∀W':World,(∀k,B<=k->k<w.heap.size->W'.heap[k]? =w.heap[k]?)->Jd W' v s
structure OutM(s:StoreD)(m c:Int)(w:World)(q:Ending)(w':World):Prop where
 ex:∃a1 a2 a3 a4 a5 a6 a8 a9 c1 c2 c3 c4 c5 c6 c8 c9,q=.returned (.agg (outA s a1 a2 a3 a4 a5 a6 a8 a9 c1 c2 c3 c4 c5 c6 c8 c9 m c).toArray)/\StFrom w.heap.size w' (.agg (stA s a1 a2 a3 a4 a5 a6 a8 a9 c1 c2 c3 c4 c5 c6 c8 c9).toArray) s
 bel:Bw w w'
