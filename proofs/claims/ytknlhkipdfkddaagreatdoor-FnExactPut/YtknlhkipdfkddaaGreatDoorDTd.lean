/- Packed. -/
import Derived.Test.YtknlhkipdfkddaaGreatDoorDs2d
import Derived.Test.YtknlhkipdfkddaaGreatDoorDPd
set_option maxRecDepth 20000
set_option maxHeartbeats 20000000
set_option linter.unusedSimpArgs false
namespace Go.Proofs.YtknlhkipdfkddaaGreatDoor
section
open Go.RowKit Go.Lib
theorem RelFrom.sets{B b:Nat}{w x:World}{L:List (Nat × Value)}{v:Value}{r:RelD}(h:RelFrom B w v r)(K:SetsOf b w x L)(hb:b<B):RelFrom B x v r:=h.keep fun k _ _ _ h1 h2=>(K.blk k (by omega)).trans h2
theorem own_sets{w x:World}{b base:Nat}{L:List (Nat × Value)}{e:TypeId}{q:Nat}{v:Value}{n:Nat}{xs:List Value}(h:w.ownsRow base e q v n xs)(K:SetsOf b w x L)(hb:b<base):x.ownsRow base e q v n xs:=own_agree h fun k _ h1 h2=>(K.blk k (by omega)).trans h2
structure CopM(s:StoreD)(w:World)(q:Ending)(w':World):Prop where
 ex:∃a1 a2 a3 a4 a5 a6 a8 a9 c1 c2 c3 c4 c5 c6 c8 c9,q=.returned (.agg (stA s a1 a2 a3 a4 a5 a6 a8 a9 c1 c2 c3 c4 c5 c6 c8 c9).toArray)/\RelFrom w.heap.size w' (.agg #[.slice a1 s.now.rules.length c1,.slice a2 s.now.zones.length c2,.slice a3 s.now.links.length c3]) s.now/\RelFrom w.heap.size w' (.agg #[.slice a4 s.was.rules.length c4,.slice a5 s.was.zones.length c5,.slice a6 s.was.links.length c6]) s.was/\w'.ownsRow w.heap.size 95 8 (.slice a8 s.vs.length c8) s.vs.length (s.vs.map VersionD.cs).flatten/\w'.ownsRow w.heap.size 89 2 (.slice a9 s.ix.length c9) s.ix.length (s.ix.map EntryD.cs).flatten
 bel:Bw w w'
theorem RelFrom.mono{B B2:Nat}{w:World}{v:Value}{r:RelD}(h:RelFrom B w v r)(hb:B2<=B):RelFrom B2 w v r:=fun W' hW=>h W' fun k cs t ht h1 h2=>hW k cs t ht (by omega) h2
theorem spec_l06Copy(s:StoreD)(v:Value)(B:Nat)(w:World)(hv:OwnSt w B v s)(hm:Zr s):
  Cl 50 #[v] w (CopM s w):=by
 obtain⟨a,b,c,d,e,f,va,ia,rfl,hN,hW,⟨_,hV,_⟩,⟨_,hX,_⟩,_⟩:=hv.form
 obtain⟨GT,vi,YT,YU,YV⟩:=ji0
 obtain⟨Rz,xi,QF,QG,QH⟩:=jft
 obtain⟨tx,now,was,cur,vs,ix⟩:=s
 obtain⟨m1,m2,m3,m4,m5⟩:=hm
 simp only at *
 obtain⟨w0,KR,ag,A0,R0,dP⟩:=two_alloc w (stA ⟨tx,now,was,cur,vs,ix⟩ (some (ad a 0)) (some (ad b 0)) (some (ad c 0)) (some (ad d 0)) (some (ad e 0)) (some (ad f 0)) (some (ad va 0)) (some (ad ia 0)) now.rules.length now.zones.length now.links.length was.rules.length was.zones.length was.links.length vs.length ix.length) [iv 0,nS,nS,nS,nS,nS,nS,iv 0,nS,nS] 43 43
 have q1:=fun W h=>spec_l06Release now (.agg #[so a now.rules.length now.rules.length,so b now.zones.length now.zones.length,so c now.links.length now.links.length]) B W h m1.sm
 have q2:=fun W h=>spec_l06Release was (.agg #[so d was.rules.length was.rules.length,so e was.zones.length was.zones.length,so f was.links.length was.links.length]) B W h m2.sm
 have HN:=hidP hN
 have HW:=hidP hW
 have HV:Hid (∀W,Bw w W->∀j u,(vs.map VersionD.cs).flatten[j]? =some u->W.cell? (((ad va 0):Addr).add j)=some u):=fun W hb=>(hV.below hb).flat (jlb (cs:=VersionD.cs) (fun _=>rfl) _)
 have HX:Hid (∀W,Bw w W->∀j u,(ix.map EntryD.cs).flatten[j]? =some u->W.cell? (((ad ia 0):Addr).add j)=some u):=fun W hb=>(hX.below hb).flat (jlb (cs:=EntryD.cs) (fun _=>rfl) _)
 have Z7:Hid ((vs.map VersionD.cs).flatten.length=vs.length*8):=by simp only[Hid];rw[jbx (q:=8) (jlb (cs:=VersionD.cs) (fun _=>rfl) _),llm]
 have L3:Hid ((ix.map EntryD.cs).flatten.length=ix.length*2):=by simp only[Hid];rw[jbx (q:=2) (jlb (cs:=EntryD.cs) (fun _=>rfl) _),llm]
 have QR:Hid (∀u∈(vs.map VersionD.cs).flatten,u.oneCell'=true):=jup
 have QU:Hid (∀u∈(ix.map EntryD.cs).flatten,u.oneCell'=true):=jbn
 clear hN hW hV hX hv m1 m2 m3
 generalize Yv:(vs.map VersionD.cs).flatten=vn at *
 generalize KY:(ix.map EntryD.cs).flatten=xn at *
 have WP:=hidP (And.intro Yv KY)
 clear Yv KY
 go_enter Tryz.func50,Tryz.ntmps50
 have Ah:=A0.c 1 rfl
 have oZ:=A0.f 1 rfl
 have Ai:=A0.c 2 rfl
 have pc:=A0.f 2 rfl
 have Aj:=A0.c 3 rfl
 have pd:=A0.f 3 rfl
 go_wp2_with fail
 refine(q1 _ (HN.out.below ag)).mono ?_
 rintro q w1 ⟨a1,a2,a3,c1,c2,c3,rfl,hR,bg⟩
 rw[dP]at hR
 have l1:=bg.size
 rw[dP]at l1
 have aj:=qtr ag bg
 have A1:=A0.below bg
 have R1:=R0.below bg
 have HR:=hidP hR
 clear A0 R0 ag bg hR dP q1
 clear Ah oZ Ai pc Aj pd
 have Ah:=A1.c 1 rfl
 have oZ:=A1.f 1 rfl
 have Ai:=A1.c 2 rfl
 have pc:=A1.f 2 rfl
 have Aj:=A1.c 3 rfl
 have pd:=A1.f 3 rfl
 have IT:=A1.c 4 rfl
 have Ap:=A1.f 4 rfl
 have IU:=A1.c 5 rfl
 have Aq:=A1.f 5 rfl
 have IV:=A1.c 6 rfl
 have Ar:=A1.f 6 rfl
 go_wp2_with fail
 clear Ah oZ Ai pc Aj pd IT Ap IU Aq IV Ar
 obtain⟨wB,hx,K⟩:=sets_ex (w.heap.size) w1 [(1,.slice a1 now.rules.length c1),(2,.slice a2 now.zones.length c2),(3,.slice a3 now.links.length c3)]
 simp only[stl]at hx
 rw[hx]
 have A2:=K.var _ A1
 have R2:=K.oth _ _ (by omega) R1
 have an:=K.bel _ _ (by omega) aj
 have gK:=hidP (HR.out.sets K (by omega))
 have z2:=K.size
 clear A1 R1 aj HR hx K
 refine(q2 _ (HW.out.below an)).mono ?_
 rintro q w2 ⟨a4,a5,a6,c4,c5,c6,rfl,hR,ac⟩
 rw[z2]at hR
 have l2:=ac.size
 rw[z2]at l2
 have ax:=qtr an ac
 have A3:=A2.below ac
 have R3:=R2.below ac
 have jt:=hidP (gK.out.below ac)
 have HR:=hidP (hR.mono (B2:=w.heap.size+1+1) (by omega))
 clear A2 R2 an ac hR gK z2 q2
 have IN:=A3.c 4 rfl
 have Ak:=A3.f 4 rfl
 have IP:=A3.c 5 rfl
 have Al:=A3.f 5 rfl
 have IQ:=A3.c 6 rfl
 have Am:=A3.f 6 rfl
 have IW:=A3.c 8 rfl
 have As:=A3.f 8 rfl
 obtain⟨wC,FD,K⟩:=sets_ex (w.heap.size) w2 [(4,.slice a4 was.rules.length c4),(5,.slice a5 was.zones.length c5),(6,.slice a6 was.links.length c6)]
 simp only[stl]at FD
 have A4:=K.var _ A3
 have R4:=K.oth _ _ (by omega) R3
 have aR:=K.bel _ _ (by omega) ax
 have nG:=hidP (jt.out.sets K (by omega))
 have Wi:=hidP (HR.out.sets K (by omega))
 have Rs:=K.size.symm
 have l4:w.heap.size+1+1<=wC.heap.size:=by omega
 have GY:=jaa (qal wC (.cells #[] 95)) (A4.c 8 rfl)
 clear A3 R3 ax jt HR K
 go_wp2_with (first|(at_builtin;refine wpList_append_own _ rfl _ _ 40 rfl wC.heap.size 95 GT (.agg #[iv 0,.bool false,iv 0,.string ⟨#[]⟩,.string ⟨#[]⟩,iv 0,iv 0,iv 0]) 8 80 Tryz.underlying40 vi YT YU YV rfl (by decide) _ _ _ rfl (World.ownsRow_made wC #[] 0 (nlr _) (Nat.zero_le _) (by simp)) (ad va 0) vs.length vs.length vn rfl ?qa ?qb ?qc ?qd ?qe ?qf ?_)|fail)
 case qa=>exact Z7.out
 case qb=>intro j u hj;exact Lib.cell?_alloc_some _ (by first|exact HV.out _ aR j u hj|(have h:=HV.out _ aR j u hj;rw[addP,Nat.zero_add]at h;exact h))
 case qc=>exact QR.out
 case qd=>unfold maxLen;omega
 case qe=>omega
 case qf=>simp
 clear FD Rs GY IN Ak IP Al IQ Am IW As
 intro v3 w3 ho dp _
 try simp only[List.nil_append,Nat.zero_add]at ho
 have aD:Bw wC w3:=(qal wC _).grown dp (by simp) (by intro k hk;simp[Value.ownBlock]at hk;omega)
 obtain⟨a8,c8,rfl⟩:=own_shape2 ho
 have bG:=qtr aR aD
 have A5:=A4.below aD
 have R5:=R4.below aD
 have WQ:=hidP (nG.out.below aD)
 have Ic:=hidP (Wi.out.below aD)
 have WT:=hidP (jaj ho l4)
 have l5:=Nat.le_trans l4 aD.size
 clear A4 R4 aR aD ho dp nG Wi l4 vi YT YU YV
 have IR:=A5.c 8 rfl
 have An:=A5.f 8 rfl
 have IX:=A5.c 9 rfl
 have Au:=A5.f 9 rfl
 obtain⟨wD,FN,K⟩:=sets_ex (w.heap.size) w3 [(8,.slice a8 vs.length c8)]
 simp only[stl]at FN
 have A6:=K.var _ A5
 have R6:=K.oth _ _ (by omega) R5
 have cp:=K.bel _ _ (by omega) bG
 have Wg:=hidP (WQ.out.sets K (by omega))
 have Wj:=hidP (Ic.out.sets K (by omega))
 have Wh:=hidP (own_sets WT.out K (by omega))
 have Rt:=K.size.symm
 have l6:w.heap.size+1+1<=wD.heap.size:=by omega
 have Qb:=jaa (qal wD (.cells #[] 89)) (A6.c 9 rfl)
 clear A5 R5 bG WQ Ic WT K
 go_wp2_with (first|(at_builtin;refine wpList_append_own _ rfl _ _ 41 rfl wD.heap.size 89 Rz (.agg #[iv 0,iv 0]) 2 16 Tryz.underlying41 xi QF QG QH rfl (by decide) _ _ _ rfl (World.ownsRow_made wD #[] 0 (nlr _) (Nat.zero_le _) (by simp)) (ad ia 0) ix.length ix.length xn rfl ?qa ?qb ?qc ?qd ?qe ?qf ?_)|fail)
 case qa=>exact L3.out
 case qb=>intro j u hj;exact Lib.cell?_alloc_some _ (by first|exact HX.out _ cp j u hj|(have h:=HX.out _ cp j u hj;rw[addP,Nat.zero_add]at h;exact h))
 case qc=>exact QU.out
 case qd=>unfold maxLen;omega
 case qe=>omega
 clear FN Rt Qb IR An IX Au
 intro v4 w4 ho dp _
 try simp only[List.nil_append,Nat.zero_add]at ho
 have hb6:Bw wD w4:=(qal wD _).grown dp (by simp) (by intro k hk;simp[Value.ownBlock]at hk;omega)
 obtain⟨a9,c9,rfl⟩:=own_shape2 ho
 have dz:=qtr cp hb6
 have A7:=A6.below hb6
 have R7:=R6.below hb6
 have WR:=hidP (Wg.out.below hb6)
 have WV:=hidP (Wj.out.below hb6)
 have WU:=hidP (jac Wh.out hb6)
 have WW:=hidP (jaj ho l6)
 clear A6 R6 cp hb6 ho dp Wg Wj Wh xi QF QG QH
 have OH:=A7.c 9 rfl
 have IS:=A7.f 9 rfl
 obtain⟨wF,hx,K⟩:=sets_ex (w.heap.size) w4 [(9,.slice a9 ix.length c9)]
 simp only[stl]at hx
 have OZ:=K.var _ A7
 have RZ:=K.oth _ _ (by omega) R7
 obtain⟨wG,n8,K2⟩:=sets_ex (w.heap.size+1) wF [(0,iv tx),(1,.slice a1 now.rules.length c1),(2,.slice a2 now.zones.length c2),(3,.slice a3 now.links.length c3),(4,.slice a4 was.rules.length c4),(5,.slice a5 was.zones.length c5),(6,.slice a6 was.links.length c6),(7,iv cur),(8,.slice a8 vs.length c8),(9,.slice a9 ix.length c9)]
 simp only[stl]at n8
 obtain⟨z0,z1,z2,z3,z4,z5,z6,z7,z8,z9⟩:=OZ.ten
 obtain⟨y0,y1,y2,y3,y4,y5,y6,y7,y8,y9⟩:=RZ.ten
 obtain⟨Ns,Nt,Nu,Nv,Nw,Nx,Ny,Nz,NA,NB⟩:=RZ.tenF
 have RF:=K2.var _ RZ
 have QO:=hidP (((WR.out.sets K (by omega)).sets K2 (by omega)).mono (show w.heap.size<=w.heap.size+1+1 by omega))
 have QT:=hidP (((WV.out.sets K (by omega)).sets K2 (by omega)).mono (show w.heap.size<=w.heap.size+1+1 by omega))
 have QS:=hidP (jaj (own_sets (own_sets WU.out K (by omega)) K2 (by omega)) (show w.heap.size<=w.heap.size+1+1 by omega))
 have QW:=hidP (jaj (own_sets (own_sets WW.out K (by omega)) K2 (by omega)) (show w.heap.size<=w.heap.size+1+1 by omega))
 have yA:=hidP (K2.bel _ _ (by omega) (K.bel _ _ (by omega) dz))
 obtain⟨t0,t1,t2,t3,t4,t5,t6,t7,t8,t9⟩:=RF.ten
 clear RF OZ RZ A7 R7 dz WR WV WU WW K K2
 go_wp2
 exact bpr (v:=.agg #[iv tx,.slice a1 now.rules.length c1,.slice a2 now.zones.length c2,.slice a3 now.links.length c3,.slice a4 was.rules.length c4,.slice a5 was.zones.length c5,.slice a6 was.links.length c6,iv cur,.slice a8 vs.length c8,.slice a9 ix.length c9]) (by simp[results,Tryz.results50,go_sem,t0,t1,t2,t3,t4,t5,t6,t7,t8,t9]) rfl ⟨⟨a1,a2,a3,a4,a5,a6,a8,a9,c1,c2,c3,c4,c5,c6,c8,c9,rfl,QO.out,QT.out,by rw[WP.out.1];exact QS.out,by rw[WP.out.2];exact QW.out⟩,yA.out⟩
end
section
open Go.RowKit Go.Lib Go.Sort
theorem Zh.grown{w w':World}{b:Nat}{l:List Value}{row:Option Nat}(h:Zh w b l)(hg:w.grownBy w' row)(az:some b≠row):Zh w' b l:=fun i u hu=>by
 obtain⟨h1,h2⟩:=h i u hu
 exact⟨hg.cell h1 az,(hg.frozen_far (ad b i) (qbl h1) az).trans h2⟩
theorem RelFrom.app{B base n q:Nat}{w w':World}{v u:Value}{xs:List Value}{e:TypeId}{r:RelD}(h:RelFrom B w v r)(ho:w.ownsRow base e q u n xs)(he:¬RowT e)(hg:w.grownBy w' u.ownBlock):RelFrom B w' v r:=h.keep fun k cs t ht _ h2=>(hg.block k (heap_lt h2) (fun hk=>by
 obtain⟨ds,hd⟩:=own_blkW ho hk.symm
 rw[h2]at hd
 simp at hd
 exact he (hd.2 ▸ ht))).trans h2
theorem RelFrom.setT{B g j:Nat}{w:World}{v u:Value}{r:RelD}{cs:Array Value}{t0:TypeId}(h:RelFrom B w v r)(hg:w.heap[g]? =some (.cells cs t0 (0,0)))(h0:¬RowT t0):RelFrom B (w.setCell (ad g j) u) v r:=h.keep fun k ds t ht _ h2=>set_far h2 (heap_ne h2 hg (fun e=>by injection e with _ e;exact h0 (e ▸ ht)))
theorem own_cap{w:World}{base:Nat}{e:TypeId}{q:Nat}{a:Option Addr}{m cap:Nat}{n:Nat}{xs:List Value}(h:w.ownsRow base e q (.slice a m cap) n xs):n<=cap:=by
 rcases h.2 with⟨h1,h2⟩|⟨_,c,_,h1,_,_,h2,_⟩
 ·omega
 ·injection h1 with _ _ h1;omega
theorem own_far{w:World}{g j base:Nat}{u:Value}{e:TypeId}{q:Nat}{v:Value}{n:Nat}{xs:List Value}(h:w.ownsRow base e q v n xs)(hg:g<base):(w.setCell (ad g j) u).ownsRow base e q v n xs:=own_agree h fun k _ h1 h2=>set_far h2 (by omega)
theorem ver_rowO{w:World}{base:Nat}{e:TypeId}{a:Option Addr}{cap:Nat}{l:List VersionD}{v:VersionD}(h:w.ownsRow base e 8 (.slice a (l.length+1) cap) (l.length+1) ((l.map VersionD.cs).flatten++v.cs)):Za w a 8 ((l++[v]).map VersionD.cs)/\(l++[v]).length<=cap:=by
 have h2:w.ownsRow base e 8 (.slice a (l.length+1) cap) ((l++[v]).map VersionD.cs).length ((l++[v]).map VersionD.cs).flatten:=by
  rw[llm,lla,lma,List.flatten_append]
  simpa using h
 obtain⟨a',c',he,hs,_⟩:=jbe h2 (jlb (cs:=VersionD.cs) (fun _=>rfl) _)
 injection he with he _ hc
 refine⟨by rw[he];exact hs,?_⟩
 have:=own_cap h
 simp
 omega
theorem ent_rowO{w:World}{base:Nat}{e:TypeId}{a:Option Addr}{cap:Nat}{l:List EntryD}(h:w.ownsRow base e 2 (.slice a l.length cap) l.length (l.map EntryD.cs).flatten):Za w a 2 (l.map EntryD.cs)/\l.length<=cap:=by
 obtain⟨a',c',he,hs,_⟩:=jbe (rows:=l.map EntryD.cs) (by rw[llm];exact h) (jlb (cs:=EntryD.cs) (fun _=>rfl) _)
 injection he with he
 exact⟨by rw[he];exact hs,own_cap h⟩
theorem not_row_store:¬RowT 43:=by unfold RowT;decide
theorem not_row_ver:¬RowT 95:=by unfold RowT;decide
structure SaidS(s:StoreD)(w W:World)(PV EV RV:List Value)(g:Nat)(L:List Value)(n3 w3 vv:Value)(nv:Nat)(xv:List Value)(vi:Value)(xi:List Value):Prop where
 par:Zh W w.heap.size PV
 ev:Zh W (w.heap.size+1) EV
 res:Zh W (w.heap.size+1+1) RV
 var:W.heap[g]? =some (.cells L.toArray 43 (0,0))
 now:RelFrom (w.heap.size+1+1+1) W n3 s.now
 was:RelFrom (w.heap.size+1+1+1) W w3 s.was
 vs:W.ownsRow (w.heap.size+1+1+1) 95 8 vv nv xv
 ix:W.ownsRow (w.heap.size+1+1+1) 89 2 vi s.ix.length xi
 ge:w.heap.size+1+1+1<=g
 bel:Bw w W
theorem SaidS.below{s:StoreD}{w W W':World}{PV EV RV:List Value}{g:Nat}{L:List Value}{n3 w3 vv:Value}{nv:Nat}{xv:List Value}{vi:Value}{xi:List Value}(h:SaidS s w W PV EV RV g L n3 w3 vv nv xv vi xi)(hb:Bw W W'):SaidS s w W' PV EV RV g L n3 w3 vv nv xv vi xi:=⟨h.par.below hb,h.ev.below hb,h.res.below hb,(hb.block g (heap_lt h.var)).trans h.var,h.now.below hb,h.was.below hb,jac h.vs hb,jac h.ix hb,h.ge,h.bel.trans (hb.mono h.bel.size)⟩
theorem SaidS.set{s:StoreD}{w W:World}{PV EV RV:List Value}{g:Nat}{L:List Value}{n3 w3 vv:Value}{nv:Nat}{xv:List Value}{vi:Value}{xi:List Value}(h:SaidS s w W PV EV RV g L n3 w3 vv nv xv vi xi)(j:Nat)(v:Value):SaidS s w (W.setCell (ad g j) v) PV EV RV g (L.set j v) n3 w3 vv nv xv vi xi:=by
 have K7:=h.ge
 exact⟨h.par.other (by omega) _,h.ev.other (by omega) _,h.res.other (by omega) _,by rw[<- List.setIfInBounds_toArray];exact set_heap h.var,h.now.setT h.var not_row_store,h.was.setT h.var not_row_store,set_ownR h.vs h.var (by decide),set_ownR h.ix h.var (by decide),K7,h.bel.setCell (show w.heap.size<=g by omega) _⟩
theorem SaidS.app{s:StoreD}{w W W':World}{PV EV RV:List Value}{g:Nat}{L:List Value}{n3 w3 vv QD:Value}{nv Qr:Nat}{xv QE:List Value}{vi:Value}{xi:List Value}(h:SaidS s w W PV EV RV g L n3 w3 vv nv xv vi xi)(ho:W'.ownsRow (w.heap.size+1+1+1) 95 8 QD Qr QE)(hg:W.grownBy W' vv.ownBlock):SaidS s w W' PV EV RV g L n3 w3 QD Qr QE vi xi:=by
 have VX:∀k,k<w.heap.size+1+1+1->some k≠vv.ownBlock:=fun k hk he=>by have:=(World.ownsRow.lt h.vs k he.symm).1;omega
 refine⟨h.par.grown hg (VX _ (by omega)),h.ev.grown hg (VX _ (by omega)),h.res.grown hg (VX _ (by omega)),(hg.block g (heap_lt h.var) (fun he=>?_)).trans h.var,h.now.app h.vs not_row_ver hg,h.was.app h.vs not_row_ver hg,ho,World.ownsRow.kept h.ix hg ?_,h.ge,h.bel.grown hg h.bel.size (fun k hk=>by have:=(World.ownsRow.lt h.vs k hk).1;omega)⟩
 ·obtain⟨ds,hd⟩:=own_blkW h.vs he.symm
  rw[h.var]at hd
  simp at hd
 ·cases hb:vi.ownBlock with
  |none=>exact .inl rfl
  |some k=>exact .inr (fun he=>by
   obtain⟨ds,hd⟩:=own_blkW h.ix hb
   obtain⟨es,PQ⟩:=own_blkW h.vs he.symm
   rw[hd]at PQ
   simp at PQ)
def addM(s:StoreD)(e:EventD)(g:Bool):StoreD:=⟨s.tx+1,s.now,s.was,s.cur,s.vs++[verOf (s.tx+1) g e],entF (momS s) (jan (s.vs++[verOf (s.tx+1) g e]))⟩
def StFrom(B:Nat)(w:World)(v:Value)(s:StoreD):Prop:=∀W':World,(∀k,B<=k->k<w.heap.size->W'.heap[k]? =w.heap[k]?)->Jd W' v s
structure OutM(s:StoreD)(m c:Int)(w:World)(q:Ending)(w':World):Prop where
 ex:∃a1 a2 a3 a4 a5 a6 a8 a9 c1 c2 c3 c4 c5 c6 c8 c9,q=.returned (.agg (outA s a1 a2 a3 a4 a5 a6 a8 a9 c1 c2 c3 c4 c5 c6 c8 c9 m c).toArray)/\StFrom w.heap.size w' (.agg (stA s a1 a2 a3 a4 a5 a6 a8 a9 c1 c2 c3 c4 c5 c6 c8 c9).toArray) s
 bel:Bw w w'
theorem spec_l06Said(s:StoreD)(ev:EventD)(gn:Bool)(v:Value)(B:Nat)(w:World)(hv:OwnSt w B v s)(ok:Zr s)(oG:relB s.now=true)(dC:relB s.was=true)(h0:0<=s.tx)(h1:s.tx<900000)(CG:s.vs.length<=800)(hL:(jan (s.vs++[verOf (s.tx+1) gn ev])).length<=900)(nV:∀e∈jan (s.vs++[verOf (s.tx+1) gn ev]),EvR e)(cV:(verOf (s.tx+1) gn ev).ok):
  Cl 23 #[v,ev.v,.bool gn] w (OutM (addM s ev gn) 0 0 w):=by
 have dQ:=hv
 obtain⟨a,b,c,d,e,f,va,ia,rfl,_,_,_,_,_⟩:=hv.form
 obtain⟨GT,vi,YT,YU,YV⟩:=ji0
 obtain⟨id,name,zone,wall,gap,fold⟩:=ev
 simp only[EventD.v]at *
 have KS:IntKind.i64.wrap (s.tx+1)=s.tx+1:=by rw[IntKind.wrap_i64];omega
 obtain⟨w0,KR,ag,A0,E0,R0,z0⟩:=three_out w (stO s a b c d e f va ia) [iv id,.string name,.string zone,iv wall,iv gap,iv fold]
 have q1:=spec_l06Copy s _ B _ (dQ.below ag) ok
 obtain⟨x0,x1,x2,x3,x4,x5,x6,x7,x8,x9⟩:=A0.ten
 go_enter Tryz.func23,Tryz.ntmps23
 go_wp2_with fail
 refine q1.mono ?_
 rintro q w1 hP
 obtain⟨a1,a2,a3,a4,a5,a6,a8,a9,c1,c2,c3,c4,c5,c6,c8,c9,rfl,hN,hW,hV,hX⟩:=hP.ex
 have hb1:=hP.bel
 rw[z0]at hN hW hV hX
 have l1:=hb1.size
 rw[z0]at l1
 have aj:=qtr ag hb1
 have A1:=A0.below hb1
 have E1:=E0.below hb1
 have R1:=R0.below hb1
 clear x0 x1 x2 x3 x4 x5 x6 x7 x8 x9 A0 E0 R0 ag q1 hP hb1 z0 hv dQ
 have b2:=qal w1 (.cells (stA s a1 a2 a3 a4 a5 a6 a8 a9 c1 c2 c3 c4 c5 c6 c8 c9).toArray 43)
 have S2:SaidS s w (w1.alloc (.cells (stA s a1 a2 a3 a4 a5 a6 a8 a9 c1 c2 c3 c4 c5 c6 c8 c9).toArray 43)) (stO s a b c d e f va ia) [iv id,.string name,.string zone,iv wall,iv gap,iv fold] [iv 0,nS,nS,nS,nS,nS,nS,iv 0,nS,nS,iv 0,iv 0] w1.heap.size (stA s a1 a2 a3 a4 a5 a6 a8 a9 c1 c2 c3 c4 c5 c6 c8 c9) (.agg #[.slice a1 s.now.rules.length c1,.slice a2 s.now.zones.length c2,.slice a3 s.now.links.length c3]) (.agg #[.slice a4 s.was.rules.length c4,.slice a5 s.was.zones.length c5,.slice a6 s.was.links.length c6]) (.slice a8 s.vs.length c8) s.vs.length (s.vs.map VersionD.cs).flatten (.slice a9 s.ix.length c9) (s.ix.map EntryD.cs).flatten:=⟨A1.below b2,E1.below b2,R1.below b2,heap_alloc_new w1 _,hN.below b2,hW.below b2,jac hV b2,jac hX b2,l1,(qtr aj b2)⟩
 obtain⟨w2,gH⟩:=qeb (w1.alloc (.cells (stA s a1 a2 a3 a4 a5 a6 a8 a9 c1 c2 c3 c4 c5 c6 c8 c9).toArray 43))
 obtain⟨g,hg⟩:=qeb w1.heap.size
 rw[gH]at S2
 rw[hg]at S2 l1
 clear b2 A1 E1 R1 aj hN hW hV hX
 have S3:=S2.set 0 (iv (s.tx+1))
 obtain⟨w3,gm⟩:=qeb (w2.setCell (ad g 0) (iv (s.tx+1)))
 rw[gm]at S3
 have V2:=varC_of S2.var
 have V3:=varC_of S3.var
 have u0:=V2.c 0 rfl
 have Rx:=V2.f 0 rfl
 have y0:=S2.par.c 0 rfl
 have v0:=V3.c 0 rfl
 have v8:=V3.c 8 rfl
 have e0:=S3.ev.c 0 rfl
 have e1:=S3.ev.c 1 rfl
 have e2:=S3.ev.c 2 rfl
 have e3:=S3.ev.c 3 rfl
 have e4:=S3.ev.c 4 rfl
 have e5:=S3.ev.c 5 rfl
 have yU:=hidP S3
 have RK:w.heap.size+1+1+1<=w3.heap.size:=by have:=heap_lt S3.var;omega
 have gM:=hidP (rfl:(s.vs.map VersionD.cs).flatten=(s.vs.map VersionD.cs).flatten)
 have Px:=S3.vs
 clear S2 S3 V2 V3
 go_wp2_with (first|(at_builtin;refine wpList_append_own _ rfl _ _ 40 rfl (w.heap.size+1+1+1) 95 GT (.agg #[iv 0,.bool false,iv 0,.string ⟨#[]⟩,.string ⟨#[]⟩,iv 0,iv 0,iv 0]) 8 80 Tryz.underlying40 vi YT YU YV rfl (by decide) _ _ _ rfl (woa (w:=w3) Px _) (ad w3.heap.size 0) 1 1 [iv (s.tx+1),.bool gn,iv id,.string name,.string zone,iv wall,iv gap,iv fold] rfl ?qa ?qb ?qc ?qd ?qe ?qf ?_)|fail)
 case qa=>rfl
 case qb=>exact jah w3 _ _
 case qc=>intro u hu;simp at hu;rcases hu with rfl|rfl|rfl|rfl|rfl|rfl|rfl|rfl<;>rfl
 case qd=>unfold maxLen;omega
 case qe=>omega
 case qf=>simp;omega
 intro vn w4 ho dp _
 clear gH hg gm u0 Rx y0 v0 v8 e0 e1 e2 e3 e4 e5 Px
 obtain⟨an,cn,rfl⟩:=own_shape2 ho
 have S4:=(yU.out.below (qal w3 (.cells #[iv (s.tx+1),.bool gn,iv id,.string name,.string zone,iv wall,iv gap,iv fold] 95))).app ho dp
 have V4:=varC_of S4.var
 have p8:=V4.c 8 rfl
 have Sa:=V4.f 8 rfl
 have S5:=S4.set 8 (.slice an (s.vs.length+1) cn)
 obtain⟨w5,oK⟩:=qeb (w4.setCell (ad g 8) (.slice an (s.vs.length+1) cn))
 rw[oK]at S5
 have V5:Zh w5 g [iv (s.tx+1),.slice a1 s.now.rules.length c1,.slice a2 s.now.zones.length c2,.slice a3 s.now.links.length c3,.slice a4 s.was.rules.length c4,.slice a5 s.was.zones.length c5,.slice a6 s.was.links.length c6,iv s.cur,.slice an (s.vs.length+1) cn,.slice a9 s.ix.length c9]:=varC_of S5.var
 obtain⟨z0,z1,z2,z3,z4,z5,z6,z7,z8,z9⟩:=V5.ten
 have Yv:=S5.vs
 have xO:Jd w5 (.agg #[iv (s.tx+1),.slice a1 s.now.rules.length c1,.slice a2 s.now.zones.length c2,.slice a3 s.now.links.length c3,.slice a4 s.was.rules.length c4,.slice a5 s.was.zones.length c5,.slice a6 s.was.links.length c6,iv s.cur,.slice an (s.vs.length+1) cn,.slice a9 s.ix.length c9]) ⟨s.tx+1,s.now,s.was,s.cur,s.vs++[⟨s.tx+1,gn,id,name,zone,wall,gap,fold⟩],s.ix⟩:=by
  have hl:s.vs.length+1=(s.vs++[(⟨s.tx+1,gn,id,name,zone,wall,gap,fold⟩:VersionD)]).length:=by simp
  have ej:=ver_rowO (v:=(⟨s.tx+1,gn,id,name,zone,wall,gap,fold⟩:VersionD)) Yv
  have Yw:=ent_rowO S5.ix
  rw[hl]
  exact⟨a1,a2,a3,a4,a5,a6,an,a9,c1,c2,c3,c4,c5,c6,cn,c9,rfl,S5.now.at,S5.was.at,ej.1,Yw.1,ej.2,Yw.2⟩
 have Qu:Zr ⟨s.tx+1,s.now,s.was,s.cur,s.vs++[⟨s.tx+1,gn,id,name,zone,wall,gap,fold⟩],s.ix⟩:=⟨ok.now,ok.was,fun v hv=>by
  rcases List.mem_append.1 hv with h|h
  ·exact ok.vs v h
  ·simp at h;subst h;exact cV,by simp;omega,ok.xl⟩
 have hQ:=jh5 ⟨s.tx+1,s.now,s.was,s.cur,s.vs++[⟨s.tx+1,gn,id,name,zone,wall,gap,fold⟩],s.ix⟩ _ w5 xO Qu oG dC (by simp;omega) (Nat.le_trans hL (by omega)) nV
 have QJ:Hid (addM s ⟨id,name,zone,wall,gap,fold⟩ gn=⟨s.tx+1,s.now,s.was,s.cur,s.vs++[⟨s.tx+1,gn,id,name,zone,wall,gap,fold⟩],entF (momS ⟨s.tx+1,s.now,s.was,s.cur,s.vs++[⟨s.tx+1,gn,id,name,zone,wall,gap,fold⟩],s.ix⟩) (jan (s.vs++[⟨s.tx+1,gn,id,name,zone,wall,gap,fold⟩]))⟩):=rfl
 have L3:=hidP (jep (momS ⟨s.tx+1,s.now,s.was,s.cur,s.vs++[⟨s.tx+1,gn,id,name,zone,wall,gap,fold⟩],s.ix⟩) (jan (s.vs++[⟨s.tx+1,gn,id,name,zone,wall,gap,fold⟩])))
 dsimp only at hQ
 generalize entF (momS ⟨s.tx+1,s.now,s.was,s.cur,s.vs++[⟨s.tx+1,gn,id,name,zone,wall,gap,fold⟩],s.ix⟩) (jan (s.vs++[⟨s.tx+1,gn,id,name,zone,wall,gap,fold⟩]))=EE at *
 have Eu:=hidP S5
 clear S4 V4 S5 V5 yU ho dp xO Qu Yv gM
 go_wp2_with fail
 refine hQ.mono ?_
 rintro q w6 ⟨x6,rfl,fV,hb6⟩
 obtain⟨px,cx,rfl⟩:=own_shape2 fV
 have S6:=Eu.out.below hb6
 have S7:=S6.set 9 (.slice px EE.length cx)
 have V6:=varC_of S6.var
 have l6:=hb6.size
 have lg:=heap_lt Eu.out.var
 have cj:=own_far (g:=g) (j:=9) (u:=.slice px EE.length cx) fV lg
 have K7:=Eu.out.ge
 have p9:=V6.c 9 rfl
 have Sb:=V6.f 9 rfl
 obtain⟨w7,yk⟩:=qeb (w6.setCell (ad g 9) (.slice px EE.length cx))
 rw[yk]at S7 cj
 have V7:Zh w7 g [iv (s.tx+1),.slice a1 s.now.rules.length c1,.slice a2 s.now.zones.length c2,.slice a3 s.now.links.length c3,.slice a4 s.was.rules.length c4,.slice a5 s.was.zones.length c5,.slice a6 s.was.links.length c6,iv s.cur,.slice an (s.vs.length+1) cn,.slice px EE.length cx]:=varC_of S7.var
 have R7:=S7.res
 obtain⟨y0,y1,y2,y3,y4,y5,y6,y7,y8,y9⟩:=V7.ten
 obtain⟨r0,r1,r2,r3,r4,r5,r6,r7,r8,r9,SN,SO⟩:=R7.twC
 obtain⟨f0,f1,f2,f3,f4,f5,f6,f7,f8,f9,SJ,SK⟩:=R7.twF
 obtain⟨W8,RM,⟨t0,t1,t2,t3,t4,t5,t6,t7,t8,t9,wJ,Qy⟩,T8,_,J8⟩:=R7.fin (iv (s.tx+1)) (.slice a1 s.now.rules.length c1) (.slice a2 s.now.zones.length c2) (.slice a3 s.now.links.length c3) (.slice a4 s.was.rules.length c4) (.slice a5 s.was.zones.length c5) (.slice a6 s.was.links.length c6) (iv s.cur) (.slice an (s.vs.length+1) cn) (.slice px EE.length cx) (iv 0) (iv 0)
 have yA:=hidP (J8 _ _ (by omega) S7.bel)
 have QN:Hid (Ending.returned (.agg #[iv (s.tx+1),.slice a1 s.now.rules.length c1,.slice a2 s.now.zones.length c2,.slice a3 s.now.links.length c3,.slice a4 s.was.rules.length c4,.slice a5 s.was.zones.length c5,.slice a6 s.was.links.length c6,iv s.cur,.slice an (s.vs.length+1) cn,.slice px EE.length cx,iv 0,iv 0])=.returned (.agg (outA ⟨s.tx+1,s.now,s.was,s.cur,s.vs++[(⟨s.tx+1,gn,id,name,zone,wall,gap,fold⟩:VersionD)],EE⟩ a1 a2 a3 a4 a5 a6 an px c1 c2 c3 c4 c5 c6 cn cx 0 0).toArray)):=by
  have hl:(s.vs++[(⟨s.tx+1,gn,id,name,zone,wall,gap,fold⟩:VersionD)]).length=s.vs.length+1:=by simp
  simp only[Hid,outA,hl]
 have SQ:Hid (StFrom w.heap.size W8 (.agg (stA ⟨s.tx+1,s.now,s.was,s.cur,s.vs++[⟨s.tx+1,gn,id,name,zone,wall,gap,fold⟩],EE⟩ a1 a2 a3 a4 a5 a6 an px c1 c2 c3 c4 c5 c6 cn cx).toArray) ⟨s.tx+1,s.now,s.was,s.cur,s.vs++[⟨s.tx+1,gn,id,name,zone,wall,gap,fold⟩],EE⟩):=fun W' hW=>by
  have RT:=T8.size
  have YO:∀k,w.heap.size+1+1+1<=k->k<w7.heap.size->W'.heap[k]? =w7.heap[k]? :=fun k h1 h2=>(hW k (by omega) (by omega)).trans (T8.block k h2 (show k≠w.heap.size+1+1 by omega))
  have Ck:=(S7.now.keep fun k cs t _ h1 h2=>(YO k (by omega) (heap_lt h2)).trans h2).at
  have Rp:=(S7.was.keep fun k cs t _ h1 h2=>(YO k (by omega) (heap_lt h2)).trans h2).at
  have ej:=ver_rowO (v:=(⟨s.tx+1,gn,id,name,zone,wall,gap,fold⟩:VersionD)) (own_agree S7.vs fun k cs h1 h2=>(YO k (by omega) (heap_lt h2)).trans h2)
  have Yw:=ent_rowO (own_agree cj fun k cs h1 h2=>(YO k (by omega) (heap_lt h2)).trans h2)
  exact⟨a1,a2,a3,a4,a5,a6,an,px,c1,c2,c3,c4,c5,c6,cn,cx,rfl,Ck,Rp,ej.1,Yw.1,ej.2,Yw.2⟩
 clear hQ fV hb6 S6 S7 V6 V7 R7 T8 cj Eu J8
 go_wp2
 exact bpr (v:=.agg #[iv (s.tx+1),.slice a1 s.now.rules.length c1,.slice a2 s.now.zones.length c2,.slice a3 s.now.links.length c3,.slice a4 s.was.rules.length c4,.slice a5 s.was.zones.length c5,.slice a6 s.was.links.length c6,iv s.cur,.slice an (s.vs.length+1) cn,.slice px EE.length cx,iv 0,iv 0]) (by simp[results,Tryz.results23,go_sem,t0,t1,t2,t3,t4,t5,t6,t7,t8,t9,wJ,Qy]) rfl (by rw[QJ.out];exact⟨⟨a1,a2,a3,a4,a5,a6,an,px,c1,c2,c3,c4,c5,c6,cn,cx,QN.out,SQ.out⟩,yA.out⟩)
end
end Go.Proofs.YtknlhkipdfkddaaGreatDoor
