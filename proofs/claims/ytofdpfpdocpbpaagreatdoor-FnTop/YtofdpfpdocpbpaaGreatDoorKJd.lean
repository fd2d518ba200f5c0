/- Packed. -/
import Derived.Test.YtofdpfpdocpbpaaGreatDoorKId
import Derived.Test.YtofdpfpdocpbpaaGreatDoorTimePd
import Derived.Test.YtofdpfpdocpbpaaGreatDoorAHd
import Derived.Test.YtofdpfpdocpbpaaGreatDoorFiPd
import Derived.Test.YtofdpfpdocpbpaaGreatDoorLVd
import Derived.Deep.RegionHeld3
set_option maxRecDepth 20000
set_option maxHeartbeats 20000000
set_option linter.unusedSimpArgs false
namespace Go.Proofs.YtofdpfpdocpbpaaGreatDoor
section
open Go.RowKit Go.ChangeMaps Go.MapKept Go.WideMaps Go.Sort
theorem jzy{w:World}{base:Nat}{e:TypeId}{a:Option Addr}{cap:Nat}{l:List VersionD}(h:w.ownsRow base e 8 (.slice a l.length cap) l.length (l.map VersionD.cs).flatten):Zd w a 8 (l.map VersionD.cs)/\l.length<=cap:=by
 have h1:w.ownsRow base e 8 (.slice a l.length cap) (l.map VersionD.cs).length (l.map VersionD.cs).flatten:=by rw[List.length_map];exact h
 obtain⟨a2,c2,e2,s2,_⟩:=jav h1 (fun r hr=>by obtain⟨x,_,rfl⟩:=List.mem_map.mp hr;rfl)
 injection e2 with e2 _ _
 subst e2
 exact⟨s2,jwx h⟩
theorem jj1(s:Za)(id n:Int)(ev:EventD)(p:Nat)(w00 w:World)(x:Option Addr)(K:Nat)(hK:Zb s w00 w x K)(hKb:K<=900)(hw:(Lit.int .i64 id).wf=true)(hl:jbk s.vs id=some ev)(hm:momD s.now ev=(n,true))(hV:Zc w p [.int .i64 id])(hPw:Pow w00):
  Calls Tryz.prog 97 #[.pointer (some ⟨p,0,none⟩),.pointer x] w fun q w'=>q=.returned (.tuple #[.string (S (jcs n)),.nilIface])/\Zb s w00 w' x (K+1)/\Frm w w':=by
 have HK:=hidP hK
 obtain⟨bb,lb,nn,a1,a2,a3,a4,a5,a6,a8,a9,c1,c2,c3,c4,c5,c6,c8,c9,nm,wm,k,B,a,b,c,d,e,f,ca,cb,cc,cd,ce,cf,rfl,hM,hn,hBk,hk,⟨n1,n2,n3,n5⟩,hVs⟩:=hK.ex
 obtain⟨e',hlk,hev⟩:=hM.lookW hw
 have hee:=hev ev hl
 subst hee
 have bz:=jaa w
 have b1:=qal w (.cells #[.int .i64 0,.string ⟨#[]⟩,.string ⟨#[]⟩,.int .i64 0,.int .i64 0,.int .i64 0] 99)
 have b1d:=b1.trans ((jaa _).mono b1.size)
 have hlA:(Instr.lookup 75 (.map (some lb)) (.int .i64 id) true).run Tryz.prog w.drew=.ok (.tuple #[e'.v,.bool true]) w.drew:=by
  obtain⟨e2,h1,h2⟩:=(hM.below bz).lookW hw
  rw[hl]at h1
  rw[h2 _ hl]at h1
  exact h1
 have hlB:(Instr.lookup 75 (.map (some lb)) (.int .i64 id) true).run Tryz.prog (w.alloc (.cells #[.int .i64 0,.string ⟨#[]⟩,.string ⟨#[]⟩,.int .i64 0,.int .i64 0,.int .i64 0] 99)).drew=.ok (.tuple #[e'.v,.bool true]) (w.alloc (.cells #[.int .i64 0,.string ⟨#[]⟩,.string ⟨#[]⟩,.int .i64 0,.int .i64 0,.int .i64 0] 99)).drew:=by
  obtain⟨e2,h1,h2⟩:=(hM.below b1d).lookW hw
  rw[hl]at h1
  rw[h2 _ hl]at h1
  exact h1
 have x10:=hBk.live
 have p0:=hV.c 0 rfl
 have y10:=jab b1 x10
 have q0:=jab b1 p0
 have hI0:Js s B (stR s a1 a2 a3 a4 a5 a6 c1 c2 c3 c4 c5 c6) (bkX s a1 a2 a3 a4 a5 a6 a8 a9 c1 c2 c3 c4 c5 c6 c8 c9) w00 bb lb nn nm wm a b c d e f ca cb cc cd ce cf (.slice a8 s.vs.length c8) w k w:=⟨hBk,hM,hVs,Frm.refl w⟩
 have HI0:=hidP hI0
 have HX:=hidP (And.intro hK.env (And.intro hK.rb (And.intro hK.ro hPw)))
 obtain⟨id',name,zone,wall,gap,fold⟩:=e'
 simp only[EventD.v]at hlA hlB
 clear hK hM hBk hVs hI0 hev hV hl hlk
 go_enter Tryz.func97,Tryz.ntmps97
 go_wp2_with fail
 go_region
 all_goals
  have bE:=(qal w (.cells #[.int .i64 id',.string name,.string zone,.int .i64 wall,.int .i64 gap,.int .i64 fold] 99)).trans ((jaa _).mono (by simp))
  have E1:=(Zc.new w [.int .i64 id',.string name,.string zone,.int .i64 wall,.int .i64 gap,.int .i64 fold] 99).below (jaa _)
  have hI1:=HI0.out.below bE
  have hs1:(w.alloc (.cells #[.int .i64 id',.string name,.string zone,.int .i64 wall,.int .i64 gap,.int .i64 fold] 99)).drew.heap.size=w.heap.size+1:=by show(w.alloc _).heap.size=_;simp
  clear hlA hlB bz b1 b1d y10 q0 x10 p0 bE
  generalize (w.alloc (.cells #[.int .i64 id',.string name,.string zone,.int .i64 wall,.int .i64 gap,.int .i64 fold] 99)).drew=w1 at *
  have bA:Below w1.heap.size w1 w1.drew:=jaa w1
  have bB:Below w1.heap.size w1 (w1.alloc (.cells #[.int .i64 0,.bool false] 152)).drew:=(qal w1 _).trans ((jaa _).mono (by simp))
  obtain⟨tB,tC,tF,tG⟩:(fun z:World=>z.cell? ⟨w1.heap.size,0,none⟩=some (.int .i64 0)/\z.cell? ⟨w1.heap.size,1,none⟩=some (.bool false)/\z.frozen? ⟨w1.heap.size,0,none⟩=false/\z.frozen? ⟨w1.heap.size,1,none⟩=false) ((w1.alloc (.cells #[.int .i64 0,.bool false] 152)).drew):=by simp[go_sem]
  have tH:Hid ((w1.alloc (.cells #[.int .i64 0,.bool false] 152)).drew.heap[w1.heap.size]? =some (.cells #[.int .i64 0,.bool false] 152 (0,0))):=heap_alloc_new w1 _
  have hIA:=hI1.below bA
  have hIB:=hI1.below bB
  have EA:=E1.below bA
  have EB:=E1.below bB
  have mA:=hIA.ask_n ⟨id',name,zone,wall,gap,fold⟩ HX.out.1 HX.out.2.2.1.1 HX.out.2.1.1 (by omega) n1 hm
  have mB:=hIB.ask_n ⟨id',name,zone,wall,gap,fold⟩ HX.out.1 HX.out.2.2.1.1 HX.out.2.1.1 (by omega) n1 hm
  simp only[EventD.v]at mA mB
  have y11:=hI1.book.n0
  have y12:=hI1.book.n1
  have y13:=hI1.book.n2
  have y14:=hI1.book.n3
  have e0:=E1.c 0 rfl
  have e1:=E1.c 1 rfl
  have e2:=E1.c 2 rfl
  have e3:=E1.c 3 rfl
  have e4:=E1.c 4 rfl
  have e5:=E1.c 5 rfl
  have hnl:nm<w.heap.size+1:=by have:=hI1.book.cn.lt;omega
  have hne:w.heap.size≠nm:=fun h=>by
   obtain⟨es,cl,hmm⟩:=jan hI1.book.cn
   have:=jl3 hmm 0
   rw[<- h,e0]at this
   cases this
  have hn1:w1.heap.size≠nm:=by omega
  have hbb:bb<w1.heap.size:=qbl y11
  have HS1:=hidP hs1
  clear hs1
  have HIA:=hidP hIA
  have HIB:=hidP hIB
  have HEA:=hidP EA
  have HEB:=hidP EB
  have:=World.new_ne w1 _ y11
  have:=World.new_ne w1 _ y12
  have:=World.new_ne w1 _ y13
  have:=World.new_ne w1 _ y14
  have:=World.new_ne w1 _ e0
  have:=World.new_ne w1 _ e1
  have:=World.new_ne w1 _ e2
  have:=World.new_ne w1 _ e3
  have:=World.new_ne w1 _ e4
  have:=World.new_ne w1 _ e5
  clear hIA hIB EA EB hI1
  go_wp2_with fail
  go_region_held3 (fun w'=>w'.cell? ⟨bb,11,none⟩=some (.slice a s.now.rules.length ca)/\w'.cell? ⟨bb,12,none⟩=some (.slice b s.now.zones.length cb)/\w'.cell? ⟨bb,13,none⟩=some (.slice c s.now.links.length cc)/\w'.cell? ⟨bb,14,none⟩=some (.map (some nm))/\w'.cell? ⟨w.heap.size,0,none⟩=some (.int .i64 id')/\w'.cell? ⟨w.heap.size,1,none⟩=some (.string name)/\w'.cell? ⟨w.heap.size,2,none⟩=some (.string zone)/\w'.cell? ⟨w.heap.size,3,none⟩=some (.int .i64 wall)/\w'.cell? ⟨w.heap.size,4,none⟩=some (.int .i64 gap)/\w'.cell? ⟨w.heap.size,5,none⟩=some (.int .i64 fold)) (go_keep) (first|(go_at_call 92;refine mA.mono ?_;rintro q w4 ⟨rfl,hI4,hg4⟩;have z11:=hI4.book.n0;have z12:=hI4.book.n1;have z13:=hI4.book.n2;have z14:=hI4.book.n3;have g0:=hg4.cell (HEA.out.c 0 rfl) (by simpa using hne);have g1:=hg4.cell (HEA.out.c 1 rfl) (by simpa using hne);have g2:=hg4.cell (HEA.out.c 2 rfl) (by simpa using hne);have g3:=hg4.cell (HEA.out.c 3 rfl) (by simpa using hne);have g4:=hg4.cell (HEA.out.c 4 rfl) (by simpa using hne);have g5:=hg4.cell (HEA.out.c 5 rfl) (by simpa using hne))|(go_at_call 92;refine mB.mono ?_;rintro q w4 ⟨rfl,hI4,hg4⟩;have z11:=hI4.book.n0;have z12:=hI4.book.n1;have z13:=hI4.book.n2;have z14:=hI4.book.n3;have g0:=hg4.cell (HEB.out.c 0 rfl) (by simpa using hne);have g1:=hg4.cell (HEB.out.c 1 rfl) (by simpa using hne);have g2:=hg4.cell (HEB.out.c 2 rfl) (by simpa using hne);have g3:=hg4.cell (HEB.out.c 3 rfl) (by simpa using hne);have g4:=hg4.cell (HEB.out.c 4 rfl) (by simpa using hne);have g5:=hg4.cell (HEB.out.c 5 rfl) (by simpa using hne);have r0:=hg4.cell tB (by simpa using hn1);have r1:=hg4.cell tC (by simpa using hn1);have f0:=(hg4.frozen_far ⟨w1.heap.size,0,none⟩ (qbl tB) (by simpa using hn1)).trans tF;have f1:=(hg4.frozen_far ⟨w1.heap.size,1,none⟩ (qbl tC) (by simpa using hn1)).trans tG))
  all_goals
   have hBI:Zb s w00 w4 (some ⟨bb,0,none⟩) (K+1):=⟨⟨bb,lb,nn,a1,a2,a3,a4,a5,a6,a8,a9,c1,c2,c3,c4,c5,c6,c8,c9,nm,wm,k+1,B,a,b,c,d,e,f,ca,cb,cc,cd,ce,cf,rfl,hI4.live,by omega,hI4.book,by omega,⟨n1,n2,n3,n5⟩,hI4.ver⟩,HX.out.1,HX.out.2.1,HX.out.2.2.1⟩
   have hF4:=hI4.frm
   have hb0:=HK.out.belw.size
   first
   |(have G:=ja2 w4 w1.heap.size (.int .i64 n) (.bool true)
     obtain⟨m0,m1⟩:=ja5 (v0:=.int .i64 n) (v1:=.bool true) r0 r1
     have hT:w4.heap[w1.heap.size]? =some (.cells #[.int .i64 0,.bool false] 152 (0,0)):=(hg4.block _ (qbl tB) (by simpa using hn1)).trans tH.out
     have HBW:=hidP (And.intro (hBI.other G (by have:=HS1.out;omega) ⟨_,hT⟩ (by decide) (by decide) (by decide) (fun h=>by rcases h with h|h|h|h<;>exact absurd h (by decide))) (hF4.row G (by have:=HS1.out;omega)))
     clear r0 r1 f0 f1 G hT
     generalize (w4.setCell ⟨w1.heap.size,0,none⟩ (.int .i64 n)).setCell ⟨w1.heap.size,1,none⟩ (.bool true)=W at *)
   |(have bW:=qal w4 (.cells #[.int .i64 n,.bool true] 152)
     obtain⟨m0,m1⟩:(fun z:World=>z.cell? ⟨w4.heap.size,0,none⟩=some (.int .i64 n)/\z.cell? ⟨w4.heap.size,1,none⟩=some (.bool true)) (w4.alloc (.cells #[.int .i64 n,.bool true] 152)):=by simp[go_sem]
     have HBW:=hidP (And.intro (hBI.below bW) (hF4.below bW))
     clear bW
     generalize w4.alloc (.cells #[.int .i64 n,.bool true] 152)=W at *)
   |fail
   have hTt:=jmf n W HBW.out.1.envw.1 (HX.out.2.2.2.of_below HBW.out.1.belw)
   clear hBI hF4 hI4 hg4 mA mB HIA HIB HEA HEB HI0 HX g0 g1 g2 g3 g4 g5 z11 z12 z13 z14 y11 y12 y13 y14 e0 e1 e2 e3 e4 e5 tB tC tF tG tH bA bB E1 HK
   go_wp2_with fail
   refine hTt.mono ?_
   rintro q w6 ⟨rfl,hb6⟩
   have HP:=hidP (And.intro (HBW.out.1.below hb6) (HBW.out.2.below hb6))
   clear hTt HBW hb6 m0 m1
   go_wp2
   go_ret2
   exact⟨rfl,HP.out.1,HP.out.2⟩
end
section
open Go.RowKit Go.ChangeMaps Go.MapKept Go.WideMaps Go.Sort
theorem Frm.belowB{a b c:World}(h:Frm a b)(k:Below a.heap.size b c)(hs:b.heap.size<=c.heap.size):Frm a c:=⟨Nat.le_trans h.size hs,fun x cs t hc h1 h2=>(k.block x (Array.getElem?_eq_some_iff.mp hc).1).trans (h.keep x cs t hc h1 h2)⟩
structure Jq(s:Za)(w00 w:World)(x:Option Addr):Prop where
 ex:∃bb a8 c8,x=some ⟨bb,0,none⟩/\w.cell? ⟨bb,0,none⟩=some (.int .i64 s.tx)/\w.cell? ⟨bb,8,none⟩=some (.slice a8 s.vs.length c8)/\w.ownsRow w00.heap.size 101 8 (.slice a8 s.vs.length c8) s.vs.length (s.vs.map VersionD.cs).flatten/\∃cs,w.heap[bb]? =some (Obj.cells cs 85 (0,0))
 env:Zm w00
 bel:Below w00.heap.size w00 w
theorem Jq.below{s:Za}{w00 w w':World}{x:Option Addr}(h:Jq s w00 w x)(hb:Below w.heap.size w w'):Jq s w00 w' x:=by
 obtain⟨bb,a8,c8,hx,h0,h8,hV,cs,hc⟩:=h.ex
 exact⟨⟨bb,a8,c8,hx,jab hb h0,jab hb h8,jad hV hb,cs,(hb.block bb (Array.getElem?_eq_some_iff.mp hc).1).trans hc⟩,h.env,h.bel.trans (hb.mono h.bel.size)⟩
theorem Jq.other{s:Za}{w00 w w':World}{x:Option Addr}{g:Nat}(h:Jq s w00 w x)(hg:w.grownBy w' (some g))(hb:w00.heap.size<=g){t:TypeId}(ht:∃cs,w.heap[g]? =some (Obj.cells cs t (0,0)))(h1:t≠85)(h2:t≠101):Jq s w00 w' x:=by
 obtain⟨bb,a8,c8,hx,h0,h8,hV,cs,hc⟩:=h.ex
 obtain⟨ds,hd⟩:=ht
 have hbg:some bb≠some g:=fun e=>by
  injection e with e
  rw[e,hd]at hc
  injection hc with hc
  injection hc with _ hc _
  exact h1 hc
 exact⟨⟨bb,a8,c8,hx,hg.cell h0 hbg,hg.cell h8 hbg,World.ownsRow.kept hV hg (.inr (Ne.symm (jbj hV ⟨ds,hd⟩ (Ne.symm h2)))),cs,(hg.block bb (Array.getElem?_eq_some_iff.mp hc).1 hbg).trans hc⟩,h.env,h.bel.grown hg h.bel.size (fun j hj=>by injection hj with hj;omega)⟩
theorem j03{B:Nat}{Rs:List (Value × RelD)}{X:List (Nat × Value)}(w0:World)(s:Za)(bb lb nm wm N k0 g:Nat)(ob:Obj)(wF:World)(hwF:wF.heap.size<=B)(a b c d e f:Option Addr)(ca cb cc cd ce cf:Nat)(hE:Zm w0)(ok:Zr s.now)(hr:relB s.now=true)(hB:w0.heap.size<=B)(h1:bb<B)(h2:nm<B)(h3:wm<B)(h4:nm≠lb)(h6:g<B)(h7:nm≠g)(hNl:k0+N<=1000):
  MoK 92 #[.agg #[.slice a s.now.rules.length ca,.slice b s.now.zones.length cb,.slice c s.now.links.length cc,.map (some nm)]] (momD s.now) (fun k W=>Zf B Rs X w0 W s bb lb nm wm (k0+k) (k0+k) a b c d e f ca cb cc cd ce cf/\W.heap[g]? =some ob/\Frm wF W) lb B N where
 enter:=fun _ _=>by kernel_rfl
 call:=fun k ev W hk hI=>(jby s.now a b c ca cb cc nm (k0+k) ev W (hE.of_below hI.1.bel) hI.1.rn.at ok hr hI.1.cn (by omega)).mono fun q W' hP=>⟨hP.ex,⟨hI.1.grew_n hP.grown hP.cache,(hP.grown.block g (Array.getElem?_eq_some_iff.mp hI.2.1).1 (by simpa using Ne.symm h7)).trans hI.2.1,hI.2.2.map hP.grown (jan hI.1.cn)⟩,_,h4,jan hI.1.cn,hP.grown⟩
 below:=fun k W W' hI hb=>⟨hI.1.below hb,(hb.block g (Array.getElem?_eq_some_iff.mp hI.2.1).1).trans hI.2.1,hI.2.2.below hb⟩
 row:=fun k W W' x hI hg hx ht=>⟨hI.1.grown hg (by omega) hx (by omega) (by omega) (by omega) ht,(hg.block g (Array.getElem?_eq_some_iff.mp hI.2.1).1 (by simp;omega)).trans hI.2.1,hI.2.2.row hg (by omega)⟩
theorem jqb(s:Za)(lo hi:Int)(w00 w:World)(x:Option Addr)(K:Nat)(hK:Zb s w00 w x K)(hKb:K<=900)(h30:(jai s.vs).length<=30):
  Calls Tryz.prog 141 #[.pointer x,.int .i64 lo,.int .i64 hi] w fun q W'=>∃v,q=.returned v/\Zl W' w.heap.size v (entF (momF (momD s.now) lo hi) (jai s.vs))/\Jq s w00 W' x/\Frm w W':=by
 have HKI:=hidP hK
 have b1:Below w.heap.size w ((w.alloc (.cells #[.int .i64 lo] 2)).alloc (.cells #[.int .i64 hi] 2)):=(qal _ _).alloc (by simp) _
 have hsW:(((w.alloc (.cells #[.int .i64 lo] 2)).alloc (.cells #[.int .i64 hi] 2))).heap.size=w.heap.size+1+1:=by simp
 have e0:(((w.alloc (.cells #[.int .i64 lo] 2)).alloc (.cells #[.int .i64 hi] 2))).heap[w.heap.size]? =some (.cells #[.int .i64 lo] 2 (0,0)):=(heap_alloc_old _ _ (by simp)).trans (heap_alloc_new w _)
 have e1:(((w.alloc (.cells #[.int .i64 lo] 2)).alloc (.cells #[.int .i64 hi] 2))).heap[w.heap.size+1]? =some (.cells #[.int .i64 hi] 2 (0,0)):=by
  have:=heap_alloc_new (w.alloc (.cells #[.int .i64 lo] 2)) (.cells #[.int .i64 hi] 2)
  rw[show(w.alloc (.cells #[.int .i64 lo] 2)).heap.size=w.heap.size+1 by simp]at this
  exact this
 obtain⟨W,hW⟩:∃x,((w.alloc (.cells #[.int .i64 lo] 2)).alloc (.cells #[.int .i64 hi] 2))=x:=⟨_,rfl⟩
 rw[hW]at b1 hsW e0 e1
 have bD:=jaa W
 have b2:=qtr b1 bD
 have hsD:W.drew.heap.size=w.heap.size+1+1:=hsW
 obtain⟨bb,lb,n,a1,a2,a3,a4,a5,a6,a8,a9,c1,c2,c3,c4,c5,c6,c8,c9,nm,wm,k,B,a,b,c,d,e,f,ca,cb,cc,cd,ce,cf,rfl,hM0,hn,hBk0,hk,⟨n1,n2,n3,n5⟩,hV⟩:=hK.ex
 obtain⟨g,ob,hg0,h7,hgV⟩:∃g ob,w.heap[g]? =some ob/\nm≠g/\∀x,(Value.slice a8 s.vs.length c8).ownBlock=some x->x=g:=by
  cases hv:(Value.slice a8 s.vs.length c8).ownBlock with
  |none=>
   obtain⟨es,cl,hm⟩:=jbv hM0
   exact⟨lb,_,hm,n1,fun x h=>by cases h⟩
  |some g=>
   obtain⟨cs,hc⟩:=jcj hV hv
   refine⟨g,_,hc,fun e=>?_,fun x h=>by injection h with h;exact h.symm⟩
   obtain⟨es,cl,hm⟩:=jan hBk0.cn
   rw[e,hc]at hm
   cases hm
 have hgl:g<w.heap.size:=(Array.getElem?_eq_some_iff.mp hg0).1
 have hbbw:bb<w.heap.size+1+1:=by have:=qbl hBk0.cur;dsimp only at this;omega
 have hM:=hM0.below b2
 have hBk:=hBk0.below b2
 have hg:=(b2.block g hgl).trans hg0
 have y10:=hBk.live
 have y11:=hBk.n0
 have y12:=hBk.n1
 have y13:=hBk.n2
 have y14:=hBk.n3
 have hK2:=j03 (B:=W.drew.heap.size) (Rs:=stR s a1 a2 a3 a4 a5 a6 c1 c2 c3 c4 c5 c6) (X:=bkX s a1 a2 a3 a4 a5 a6 a8 a9 c1 c2 c3 c4 c5 c6 c8 c9) w00 s bb lb nm wm (jai s.vs).length k g ob W.drew (Nat.le_refl _) a b c d e f ca cb cc cd ce cf hK.env hK.ro.1 hK.rb.1 hBk.bel.size (qbl hBk.cur) hBk.cn.lt hBk.cw.lt n1 (Array.getElem?_eq_some_iff.mp hg).1 h7 (by omega)
 have hBm:=hBk.mono W.drew.heap.size hBk.rn.le (Nat.le_refl _)
 have hE:=jel j5a (jbk s.vs) (jai s.vs) W.drew hK2 hM (jbf s.vs) (jck s.vs.length) (by omega) ⟨hBm,hg,Frm.refl _⟩
 have HL:Hid ((entF (momD s.now) (jai s.vs)).length<=1000):=Nat.le_trans (jmo _ _) (by omega)
 have HF:Hid (((entF (momD s.now) (jai s.vs)).filter fun x=>rgB lo hi x.at_)=entF (momF (momD s.now) lo hi) (jai s.vs)):=juh (jck s.vs.length)
 obtain⟨E,hEq⟩:∃x,entF (momD s.now) (jai s.vs)=x:=⟨_,rfl⟩
 rw[hEq]at hE HL HF
 have HV:=hidP (And.intro hV (And.intro hg0 hgV))
 have HE01:=hidP (And.intro (show W.drew.heap[w.heap.size]? =some (.cells #[.int .i64 lo] 2 (0,0))from e0) (show W.drew.heap[w.heap.size+1]? =some (.cells #[.int .i64 hi] 2 (0,0))from e1))
 have HFD:=hidP (Frm.of_below b2)
 have HSD:=hidP hsD
 clear hK hM0 hM hBk0 hBk hV hg0 hg hgV hK2 hBm e0 e1 b1 b2 hsW bD hEq hsD
 go_enter Tryz.func141,Tryz.ntmps141
 go_wp2_with fail
 clear hW
 go_region_held3 (fun wz=>wz.cell? ⟨bb,10,none⟩=some (.map (some lb))/\wz.cell? ⟨bb,11,none⟩=some (.slice a s.now.rules.length ca)/\wz.cell? ⟨bb,12,none⟩=some (.slice b s.now.zones.length cb)/\wz.cell? ⟨bb,13,none⟩=some (.slice c s.now.links.length cc)/\wz.cell? ⟨bb,14,none⟩=some (.map (some nm))) (go_keep) (first|(go_at_call 188;refine hD.mono ?_;rintro q w3 ⟨v3,rfl,hO3,hB3⟩;obtain⟨p3,m3,k3,rfl⟩:=jaq hO3;have j10:=(hB3.cell (p:=⟨bb,10,none⟩) hbbw).trans k10;have j11:=(hB3.cell (p:=⟨bb,11,none⟩) hbbw).trans k11;have j12:=(hB3.cell (p:=⟨bb,12,none⟩) hbbw).trans k12;have j13:=(hB3.cell (p:=⟨bb,13,none⟩) hbbw).trans k13;have j14:=(hB3.cell (p:=⟨bb,14,none⟩) hbbw).trans k14)|(go_at_call 57;refine hE.mono ?_;rintro q w2 hP2;obtain⟨v2,rfl,hO2⟩:=hP2.ex;obtain⟨j2,hj2,hB2,hg2,hF2⟩:=hP2.inv;obtain⟨p2,m2,k2,rfl⟩:=jaq hO2;have hs2:=hP2.size;have hz:=HSD.out;have hb0:w2.heap[w.heap.size]? =some (.cells #[.int .i64 lo] 2 (0,0)):=(hF2.keep _ _ _ HE01.out.1 (by decide) (by decide)).trans HE01.out.1;have hb1:w2.heap[w.heap.size+1]? =some (.cells #[.int .i64 hi] 2 (0,0)):=(hF2.keep _ _ _ HE01.out.2 (by decide) (by decide)).trans HE01.out.2;have hD:=jot E (w.heap.size+1+1) _ w.heap.size (w.heap.size+1) lo hi w2 (jb8 hO2 (by omega)) ⟨by simp[World.cell?,hb0],by simp[World.cell?,hb1]⟩ (by omega) (by omega) (by omega) HL.out;clear hz hb0 hb1;have k10:=hB2.live;have k11:=hB2.n0;have k12:=hB2.n1;have k13:=hB2.n2;have k14:=hB2.n3))
 all_goals
  have hVer:Jq s w00 w3 (some ⟨bb,0,none⟩):=by
   have hsw:=HKI.out.belw.size
   have h0:=hB2.more (0,.int .i64 s.tx) (by simp[bkX])
   have h8:=hB2.more (8,.slice a8 s.vs.length c8) (by simp[bkX])
   obtain⟨cs,hc⟩:=hB2.blk
   refine⟨⟨bb,a8,c8,rfl,(hB3.cell (p:=⟨bb,0,none⟩) hbbw).trans h0,(hB3.cell (p:=⟨bb,8,none⟩) hbbw).trans h8,⟨HV.out.1.1,?_⟩,cs,(hB3.block bb hbbw).trans hc⟩,HKI.out.env,hB2.bel.trans (hB3.mono (by omega))⟩
   rcases HV.out.1.2 with h1|⟨g',cap,cur,h1,h2,h3,h4⟩
   ·exact .inl h1
   ·have eg:=HV.out.2.2 g' (by rw[h1];rfl)
    subst eg
    exact .inr ⟨g',cap,cur,h1,h2,((hB3.block g' (by omega)).trans (hg2.trans HV.out.2.1.symm)).trans h3,h4⟩
  have HP:=hidP (And.intro hVer ((HFD.out.trans hF2).belowB (hB3.mono (by omega)) hB3.size))
  have HO3:Hid (Zl w3 w.heap.size (.slice p3 m3 k3) (entF (momF (momD s.now) lo hi) (jai s.vs))):=by rw[HF.out]at hO3;exact jb8 hO3 (by omega)
  clear hO3 hB3 hD hE hVer hB2 hF2 hg2 hO2 hP2 HV HE01 HFD HF
  go_wp2
  go_ret
  exact⟨_,rfl,HO3.out,HP.out.1,HP.out.2⟩
end
section
open Go.RowKit Go.ChangeMaps Go.MapKept Go.WideMaps Go.Sort
theorem jy0(s:Za)(tx:Int)(L:List EventD)(hL:asL s tx=L)(hC:asC s tx=0)(hi:∀v∈s.vs,1<=v.id/\v.id<=1000000)(hg:jcy s.vs s.vs.length=true)(hl:s.vs.length<=1048576)(hids:∀e∈L,jk3 e.id)(hl6:L.length<=60)(p:Nat)(w00 w:World)(x:Option Addr)(hK:Jq s w00 w x)(hV:Zc w p [.int .i64 tx]):
  Calls Tryz.prog 99 #[.pointer (some ⟨p,0,none⟩),.pointer x] w fun q w'=>q=.returned (.tuple #[.string (idsT (L.map EventD.id)),.nilIface])/\Jq s w00 w' x/\Frm w w':=by
 obtain⟨bb,a8,c8,rfl,h0,h8,hVr,_⟩:=hK.ex
 obtain⟨hs8,hc8⟩:=jzy hVr
 have hA:=jx2 s bb a8 c8 tx w h0 h8 hs8 hc8 hi hg hl
 rw[hL,hC]at hA
 have p0:=hV.c 0 rfl
 have HK:=hidP hK
 have hR0:=fun W=>jb9 W
 clear hK hV h0 h8 hVr hs8 hc8 hi hg hl hL hC
 go_enter Tryz.func99,Tryz.ntmps99
 go_wp2_with fail
 refine hA.mono ?_
 rintro q w1 ⟨v1,rfl,hO1,hb1⟩
 obtain⟨ar,cap,rfl,hseq⟩:=Zq.seq hO1
 have bW:=qal w1 (.cells #[.slice ar L.length cap,.int .i64 0] 234)
 have V2:=Zc.new w1 [.slice ar L.length cap,.int .i64 0] 234
 have hb2:=qtr hb1 bW
 have hseq2:=hseq.below bW
 clear hA hO1 p0 hb1 bW hseq
 go_wp2_with fail
 obtain⟨w2,hw2⟩:∃x,w1.alloc (.cells #[.slice ar L.length cap,.int .i64 0] 234)=x:=⟨_,rfl⟩
 rw[hw2]at V2 hb2 hseq2 ⊢
 clear hw2
 have v0:=V2.c 0 rfl
 have v1:=V2.c 1 rfl
 have bD:=jaa w2
 have hI:=jx4 L ar cap w2.drew (hseq2.below bD) hl6 hids
 have HB2:=hidP hb2
 clear V2 hb2 hseq2
 go_region_held3 (fun w'=>w'.cell? ⟨w1.heap.size,0,none⟩=some (.slice ar L.length cap)/\w'.cell? ⟨w1.heap.size,1,none⟩=some (.int .i64 0)) (go_keep) (first|(go_at_call 133;refine(hR0 _).mono ?_;rintro q w4 ⟨rfl,hw4⟩;have hw4:=hw4.symm;subst hw4)|(go_at_call 144;refine hI.mono ?_;rintro q w3 ⟨rfl,hb3⟩;have t0:=jab hb3 (jab bD v0);have t1:=jab hb3 (jab bD v1)))
 all_goals
  have hb3':=HB2.out.trans ((bD.trans hb3).mono HB2.out.size)
  have HP:=hidP (And.intro (HK.out.below hb3') (Frm.of_below hb3'))
  clear hb3 hb3' hI t0 t1 v0 v1 bD HB2
  go_wp2
  go_ret2
  exact⟨rfl,HP.out.1,HP.out.2⟩
theorem jun(s:Za)(d1 c1 d2 c2:ByteArray)(L:List EntryD)(hL:entF (momF (momD s.now) (trN (timS d1 c1)) (trN (timS d2 c2))) (jai s.vs)=L)(h1:trC (timS d1 c1)=0)(h2:trC (timS d2 c2)=0)(m1:(timS d1 c1).size<=maxLen)(m2:(timS d2 c2).size<=maxLen)(hids:∀e∈L,jk3 e.id)(hl6:L.length<=60)(p:Nat)(w00 w:World)(x:Option Addr)(K:Nat)(hK:Zb s w00 w x K)(hKb:K<=900)(h30:(jai s.vs).length<=30)(hV:Zc w p [.string d1,.string c1,.string d2,.string c2]):
  Calls Tryz.prog 98 #[.pointer (some ⟨p,0,none⟩),.pointer x] w fun q w'=>q=.returned (.tuple #[.string (idsT (L.map EntryD.id)),.nilIface])/\Jq s w00 w' x/\Frm w w':=by
 have hT1:=ji3 d1 c1 w hK.envw.1 h1 m1
 have hT2:=fun W hE=>ji3 d2 c2 W hE h2 m2
 have hF:=fun W h=>jqb s (trN (timS d1 c1)) (trN (timS d2 c2)) w00 W x K h hKb h30
 simp only[hL]at hF
 generalize trN (timS d1 c1)=N1 at *
 generalize trN (timS d2 c2)=N2 at *
 have e0:=hV.c 0 rfl
 have e1:=hV.c 1 rfl
 have HK:=hidP hK
 have HV:=hidP hV
 clear hK hV h1 h2 m1 m2 hL
 go_enter Tryz.func98,Tryz.ntmps98
 go_wp2_with fail
 refine hT1.mono ?_
 rintro q w1 ⟨rfl,hb1⟩
 have V1:=HV.out.below hb1
 have e2:=V1.c 2 rfl
 have e3:=V1.c 3 rfl
 have hI1:=HK.out.below hb1
 have hTT2:=hT2 w1 hI1.envw.1
 have HI1:=hidP (And.intro hI1 hb1)
 clear hT1 e0 e1 V1 hI1 hb1 HK HV hT2
 go_wp2_with fail
 refine hTT2.mono ?_
 rintro q w2 ⟨rfl,hb2⟩
 have hFF:=hF w2 (HI1.out.1.below hb2)
 have HF2:=hidP (Frm.of_below (HI1.out.2.trans (hb2.mono HI1.out.2.size)))
 clear hTT2 e2 e3 hF hb2 HI1
 go_wp2_with fail
 refine hFF.mono ?_
 rintro q w3 ⟨v3,rfl,hO3,hV3,hF3⟩
 obtain⟨ar,cap,rfl,hseq⟩:=Zl.seq hO3
 have hI:=jx5 L ar cap w3 hseq hl6 hids
 have HP:=hidP (And.intro hV3 (HF2.out.trans hF3))
 clear hFF hO3 hseq hV3 hF3 HF2
 go_wp2_with fail
 refine hI.mono ?_
 rintro q w4 ⟨rfl,hb4⟩
 have HQ:=hidP (And.intro (HP.out.1.below hb4) (HP.out.2.below hb4))
 clear hI HP hb4
 go_wp2
 go_ret2
 exact⟨rfl,HQ.out.1,HQ.out.2⟩
end
end Go.Proofs.YtofdpfpdocpbpaaGreatDoor
