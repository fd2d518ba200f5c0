/- Packed. -/
import Derived.Test.YtofdpfpdocpbpaaGreatDoorKFd
import Derived.Test.YtofdpfpdocpbpaaGreatDoorAHd
set_option maxRecDepth 20000
set_option maxHeartbeats 20000000
set_option linter.unusedSimpArgs false
namespace Go.Proofs.YtofdpfpdocpbpaaGreatDoor
section
open Go.RowKit Go.ChangeMaps Go.MapKept Go.WideMaps Go.Sort
def stR(s:Za)(a1 a2 a3 a4 a5 a6:Option Addr)(c1 c2 c3 c4 c5 c6:Nat):List (Value × RelD):=[(.agg #[.slice a1 s.now.rules.length c1,.slice a2 s.now.zones.length c2,.slice a3 s.now.links.length c3],s.now),(.agg #[.slice a4 s.was.rules.length c4,.slice a5 s.was.zones.length c5,.slice a6 s.was.links.length c6],s.was)]
structure Zb(s:Za)(w00 w:World)(x:Option Addr)(K:Nat):Prop where
 ex:∃bb lb n a1 a2 a3 a4 a5 a6 a8 a9 c1 c2 c3 c4 c5 c6 c8 c9 nm wm k B a b c d e f ca cb cc cd ce cf,x=some ⟨bb,0,none⟩/\Zg w lb n (jbk s.vs)/\n<=1048576+K/\Zf B (stR s a1 a2 a3 a4 a5 a6 c1 c2 c3 c4 c5 c6) (bkX s a1 a2 a3 a4 a5 a6 a8 a9 c1 c2 c3 c4 c5 c6 c8 c9) w00 w s bb lb nm wm k k a b c d e f ca cb cc cd ce cf/\k<=K/\(nm≠lb/\wm≠lb/\w00.heap.size<=lb/\w00.heap.size<=bb)/\w.ownsRow w00.heap.size 101 8 (.slice a8 s.vs.length c8) s.vs.length (s.vs.map VersionD.cs).flatten
 env:Zm w00
 rb:relB s.now=true/\relB s.was=true
 ro:Zr s.now/\Zr s.was
theorem Zb.below{s:Za}{w00 w w':World}{x:Option Addr}{K:Nat}(h:Zb s w00 w x K)(hb:Below w.heap.size w w'):Zb s w00 w' x K:=by
 obtain⟨bb,lb,n,a1,a2,a3,a4,a5,a6,a8,a9,c1,c2,c3,c4,c5,c6,c8,c9,nm,wm,k,B,a,b,c,d,e,f,ca,cb,cc,cd,ce,cf,hx,hM,hn,hBk,hk,hne,hV⟩:=h.ex
 exact⟨⟨bb,lb,n,a1,a2,a3,a4,a5,a6,a8,a9,c1,c2,c3,c4,c5,c6,c8,c9,nm,wm,k,B,a,b,c,d,e,f,ca,cb,cc,cd,ce,cf,hx,hM.below hb,hn,hBk.below hb,hk,hne,jad hV hb⟩,h.env,h.rb,h.ro⟩
theorem jnl{w:World}{g:Nat}(hm:∃es c,w.heap[g]? =some (.map es c)):(∀cs,w.heap[g]? ≠some (Obj.cells cs 304 (0,0)))/\∀cs t,w.heap[g]? =some (Obj.cells cs t (0,0))->¬relT t:=by
 obtain⟨es,c,hm⟩:=hm
 exact⟨fun cs hc=>(by rw[hm]at hc;cases hc),fun cs t hc=>(by rw[hm]at hc;cases hc)⟩
theorem j6k{a b c:World}{base n:Nat}{v:Value}{xs:List Value}(h:Frm a b)(k:b.grownBy c v.ownBlock)(ho:b.ownsRow base 101 8 v n xs):Frm a c:=by
 cases hv:v.ownBlock with
 |none=>
  rw[hv]at k
  exact h.below ⟨k.os,k.tape,k.output,k.size,fun j hj=>k.block j hj (by simp)⟩
 |some g=>
  rw[hv]at k
  refine h.typed k fun cs t hc=>.inr ?_
  obtain⟨ds,hd⟩:=jcj ho hv
  rw[hd]at hc
  injection hc with hc
  injection hc with _ hc _
  exact hc.symm
theorem jmj{a b:World}{bb j:Nat}{v:Value}(h:Frm a b)(hb:∃cs,b.heap[bb]? =some (Obj.cells cs 85 (0,0))):Frm a (b.setCell ⟨bb,j,none⟩ v):=h.typed (jae b bb j v) fun cs t hc=>.inl (by
 obtain⟨ds,hd⟩:=hb
 rw[hd]at hc
 injection hc with hc
 injection hc with _ hc _
 exact hc.symm)
theorem jx3(s:Za)(gn:Bool)(ev:EventD)(w00 w:World)(x:Option Addr)(K:Nat)(hK:Zb s w00 w x K)(hKb:K<=700)(hvl:s.vs.length<60)(h0:0<=s.tx)(h1:s.tx<900000)(hid:1<=ev.id/\ev.id<=1000000)(hL:(jai (s.vs++[jpf (s.tx+1) gn ev])).length<=30):
  Calls Tryz.prog 179 #[.pointer x,ev.v,.bool gn] w fun q w'=>q=.returned (.tuple #[])/\Zb (addS s ev gn) w00 w' x (K+30)/\Frm w w':=by
 obtain⟨bb,lb,n,a1,a2,a3,a4,a5,a6,a8,a9,c1,c2,c3,c4,c5,c6,c8,c9,nm,wm,k,B,a,b,c,d,e,f,ca,cb,cc,cd,ce,cf,rfl,hM,hn,hBk,hk,⟨n1,n2,n3,n5⟩,hOV⟩:=hK.ex
 have HK:=hidP (And.intro hK.env (And.intro hK.rb hK.ro))
 have hwr:IntKind.i64.wrap (s.tx+1)=s.tx+1:=by rw[IntKind.wrap_i64];omega
 obtain⟨id,name,zone,wall,gap,fold⟩:=ev
 simp only[EventD.v]at *
 have x0:=hBk.more (0,.int .i64 s.tx) (by simp[bkX])
 have f0:=hBk.free 0
 have hbl:bb<w.heap.size:=qbl x0
 have nbo:some bb≠(Value.slice a8 s.vs.length c8).ownBlock:=jbj hOV hBk.blk (by decide)
 have hF1:=jmj (j:=0) (v:=.int .i64 (s.tx+1)) (Frm.refl w) hBk.blk
 have hB1:Zf B (stR s a1 a2 a3 a4 a5 a6 c1 c2 c3 c4 c5 c6) (bkX ⟨s.tx+1,s.now,s.was,s.cur,s.vs,s.ix⟩ a1 a2 a3 a4 a5 a6 a8 a9 c1 c2 c3 c4 c5 c6 c8 c9) w00 (w.setCell ⟨bb,0,none⟩ (.int .i64 (s.tx+1))) s bb lb nm wm k k a b c d e f ca cb cc cd ce cf:=hBk.set 0 _ (by omega) (by omega) n5 (fun p hp=>by
  simp only[bkX,List.mem_cons,List.not_mem_nil,or_false]at hp ⊢
  rcases hp with rfl|rfl|rfl|rfl|rfl|rfl|rfl|rfl|rfl<;>simp)
 have hM1:Zg (w.setCell ⟨bb,0,none⟩ (.int .i64 (s.tx+1))) lb n (jbk s.vs):=hM.kept (jae w bb 0 _) (by simpa using Ne.symm (jc0 (jbv hM) hBk.cur))
 have hO1:=World.ownsRow.kept hOV (jae w bb 0 (.int .i64 (s.tx+1))) (.inr (Ne.symm nbo))
 have b1:=(Below.refl (w.setCell ⟨bb,0,none⟩ (.int .i64 (s.tx+1))).heap.size (w.setCell ⟨bb,0,none⟩ (.int .i64 (s.tx+1)))).alloc (Nat.le_refl _) (.cells #[.int .i64 id,.string name,.string zone,.int .i64 wall,.int .i64 gap,.int .i64 fold] 99)
 have hB1:=hB1.below b1
 have hM1:=hM1.below b1
 have hO1:=jad hO1 b1
 have hF1:=hF1.below b1
 have E1:=Zc.new (w.setCell ⟨bb,0,none⟩ (.int .i64 (s.tx+1))) [.int .i64 id,.string name,.string zone,.int .i64 wall,.int .i64 gap,.int .i64 fold] 99
 rw[World.size_setCell]at E1
 have z1:((w.setCell ⟨bb,0,none⟩ (.int .i64 (s.tx+1))).alloc (.cells #[.int .i64 id,.string name,.string zone,.int .i64 wall,.int .i64 gap,.int .i64 fold] 99)).heap.size=w.heap.size+1:=by simp
 go_enter Tryz.func179,Tryz.ntmps179
 go_wp2_with fail
 clear b1 hBk x0 f0 hM hK hOV
 generalize (w.setCell ⟨bb,0,none⟩ (.int .i64 (s.tx+1))).alloc (.cells #[.int .i64 id,.string name,.string zone,.int .i64 wall,.int .i64 gap,.int .i64 fold] 99)=wB at *
 have x0:=hB1.more (0,.int .i64 (s.tx+1)) (by simp[bkX])
 have e0:=E1.c 0 rfl
 have e1:=E1.c 1 rfl
 have e2:=E1.c 2 rfl
 have e3:=E1.c 3 rfl
 have e4:=E1.c 4 rfl
 have e5:=E1.c 5 rfl
 go_region
 have b2:=qal wB (.cells #[.int .i64 (s.tx+1),.bool gn,.int .i64 id,.string name,.string zone,.int .i64 wall,.int .i64 gap,.int .i64 fold] 101)
 have b2:=b2.trans ((jaa _).mono b2.size)
 have hB2:=hB1.below b2
 have hM2:=hM1.below b2
 have hO2:=jad hO1 b2
 have hF2:=hF1.below b2
 have V2:=(Zc.new wB [.int .i64 (s.tx+1),.bool gn,.int .i64 id,.string name,.string zone,.int .i64 wall,.int .i64 gap,.int .i64 fold] 101).below (jaa _)
 rw[z1]at V2
 have z2:((wB.alloc (.cells #[.int .i64 (s.tx+1),.bool gn,.int .i64 id,.string name,.string zone,.int .i64 wall,.int .i64 gap,.int .i64 fold] 101)).drew).heap.size=w.heap.size+1+1:=by
  show(wB.alloc _).heap.size=_
  simp[z1]
 clear x0 e0 e1 e2 e3 e4 e5 E1 hB1 hM1 hO1 hF1 b2
 generalize (wB.alloc (.cells #[.int .i64 (s.tx+1),.bool gn,.int .i64 id,.string name,.string zone,.int .i64 wall,.int .i64 gap,.int .i64 fold] 101)).drew=wC at *
 have hTk:=jn5 ⟨s.tx+1,gn,id,name,zone,wall,gap,fold⟩ lb n (jbk s.vs) wC.drew (hM2.below (jaa _)) (by unfold maxLen;omega) hid
 simp only[VersionD.v]at hTk
 have x10:=hB2.live
 have e0:=V2.c 0 rfl
 have e1:=V2.c 1 rfl
 have e2:=V2.c 2 rfl
 have e3:=V2.c 3 rfl
 have e4:=V2.c 4 rfl
 have e5:=V2.c 5 rfl
 have e6:=V2.c 6 rfl
 have e7:=V2.c 7 rfl
 have nbl:some bb≠some lb:=by simpa using jc0 (jbv hM2) hB2.cur
 have nvl:some (w.heap.size+1)≠some lb:=by simpa using jc0 (jbv hM2) e0
 have HB2:=hidP hB2
 have HM2:=hidP hM2
 have HO2:=hidP hO2
 have HF2:=hidP hF2
 clear hB2 hM2 V2 hO2 hF2
 go_wp2_with fail
 go_region_held3 (fun w'=>w'.cell? ⟨bb,10,none⟩=some (.map (some lb))/\w'.cell? ⟨w.heap.size+1,0,none⟩=some (.int .i64 (s.tx+1))/\w'.cell? ⟨w.heap.size+1,1,none⟩=some (.bool gn)/\w'.cell? ⟨w.heap.size+1,2,none⟩=some (.int .i64 id)/\w'.cell? ⟨w.heap.size+1,3,none⟩=some (.string name)/\w'.cell? ⟨w.heap.size+1,4,none⟩=some (.string zone)/\w'.cell? ⟨w.heap.size+1,5,none⟩=some (.int .i64 wall)/\w'.cell? ⟨w.heap.size+1,6,none⟩=some (.int .i64 gap)/\w'.cell? ⟨w.heap.size+1,7,none⟩=some (.int .i64 fold)) (go_keep) ((go_at_call 52;refine hTk.mono ?_;rintro q wD ⟨rfl,hM3,hg3⟩;have t10:=hg3.cell (a:=⟨bb,10,none⟩) x10 nbl;have t0:=hg3.cell (a:=⟨w.heap.size+1,0,none⟩) e0 nvl;have t1:=hg3.cell (a:=⟨w.heap.size+1,1,none⟩) e1 nvl;have t2:=hg3.cell (a:=⟨w.heap.size+1,2,none⟩) e2 nvl;have t3:=hg3.cell (a:=⟨w.heap.size+1,3,none⟩) e3 nvl;have t4:=hg3.cell (a:=⟨w.heap.size+1,4,none⟩) e4 nvl;have t5:=hg3.cell (a:=⟨w.heap.size+1,5,none⟩) e5 nvl;have t6:=hg3.cell (a:=⟨w.heap.size+1,6,none⟩) e6 nvl;have t7:=hg3.cell (a:=⟨w.heap.size+1,7,none⟩) e7 nvl))
 have hmap:=jbv (HM2.out.below (jaa wC))
 have hB3:=(HB2.out.below (jaa wC)).grownT hg3 n3 (by simpa using nbl) n1 n2 (jnl hmap).1 (jnl hmap).2
 have hOV:=World.ownsRow.kept (jad HO2.out (jaa wC)) hg3 (by
  cases hv:(Value.slice a8 s.vs.length c8).ownBlock with
  |none=>exact .inl rfl
  |some g=>
   refine .inr fun e=>?_
   obtain⟨cs,hc⟩:=jcj (jad HO2.out (jaa wC)) hv
   injection e with e
   obtain⟨es,z,hm⟩:=hmap
   rw[e,hm]at hc
   cases hc)
 have hF3:=(HF2.out.below (jaa wC)).map hg3 hmap
 have zC:=hg3.size
 have hnb:some bb≠(Value.slice a8 s.vs.length c8).ownBlock:=nbo
 obtain⟨i0,hi,hz0,hz1,hz2⟩:=ji0
 have x8:=hB3.more (8,.slice a8 s.vs.length c8) (by simp[bkX])
 have f8:=hB3.free 8
 have x8b:(wD.alloc (.cells #[.int .i64 (s.tx+1),.bool gn,.int .i64 id,.string name,.string zone,.int .i64 wall,.int .i64 gap,.int .i64 fold] 101)).cell? ⟨bb,8,none⟩=some (.slice a8 s.vs.length c8):=jab (qal wD _) x8
 have hbD:bb<wD.heap.size:=qbl x8
 have hMD:w00.heap.size<=wD.heap.size:=hB3.bel.size
 have HB3:=hidP hB3
 have HM3:=hidP hM3
 have HF3:=hidP hF3
 clear hTk x10 e0 e1 e2 e3 e4 e5 e6 e7 HB2 HM2 HO2 HF2 hg3 hB3 hM3 t10 hmap hF3
 go_wp2_with fail
 go_region_law (refine step_append_lies _ (by rfl) (.tmp 35) (.tmp 37) 57 (by rfl) w00.heap.size 101 i0 (.agg #[.int .i64 0,.bool false,.int .i64 0,.string ⟨#[]⟩,.string ⟨#[]⟩,.int .i64 0,.int .i64 0,.int .i64 0]) 8 80 Tryz.underlying57 hi hz0 hz1 hz2 rfl (by omega) (.slice a8 s.vs.length c8) s.vs.length (s.vs.map VersionD.cs).flatten (by rfl) (World.ownsRow.alloc (w:=wD.drew) hOV _) ⟨wD.heap.size,0,none⟩ 1 1 [.int .i64 (s.tx+1),.bool gn,.int .i64 id,.string name,.string zone,.int .i64 wall,.int .i64 gap,.int .i64 fold] (by rfl) rfl (ja3 _ _ _) (by intro u hu;simp at hu;rcases hu with rfl|rfl|rfl|rfl|rfl|rfl|rfl|rfl<;>rfl) (by omega) (by unfold maxLen;omega) (by omega) (by simp;omega) _ rfl ?_;intro g1 cap1 wF hown1 hgrow hat hlt1;have r1:=hgrow.cell (a:=⟨bb,8,none⟩) (jab (qal wD.drew _) x8) hnb;have r2:=(hgrow.frozen_far ⟨bb,8,none⟩ (by simp;omega) hnb).trans (((jal (qal wD.drew _)).2 _ _ (by simp;omega)).trans f8))
 all_goals
  have bA:=(jaa wD).trans ((qal wD.drew (.cells #[.int .i64 (s.tx+1),.bool gn,.int .i64 id,.string name,.string zone,.int .i64 wall,.int .i64 gap,.int .i64 fold] 101)).mono (Nat.le_refl _))
  have hB4:=HB3.out.below bA
  have hOA:=jad hOV bA
  have hB5:=hB4.appended hgrow hOA (Nat.le_refl _)
  have hF5:=j6k (HF3.out.below bA) hgrow hOA
  have hlr:some lb≠(Value.slice a8 s.vs.length c8).ownBlock:=fun h=>by
   obtain⟨es,z,hm⟩:=jbv (HM3.out.below bA)
   obtain⟨cs,hc⟩:=jcj hOA h.symm
   rw[hm]at hc
   cases hc
  have hM4:=(HM3.out.below bA).kept hgrow hlr
  have hg1:g1≠bb:=fun h=>jbj hown1 hB5.blk (by decide) (by rw[<- h];rfl)
  have hgl:g1≠lb:=fun h=>by
   obtain⟨es,z,hm⟩:=jbv hM4
   obtain⟨cs,hc⟩:=jcj hown1 (g:=g1) rfl
   rw[h,hm]at hc
   cases hc
  have hM6:=hM4.kept (jae wF bb 8 (.slice (some ⟨g1,0,none⟩) (s.vs.length+1) cap1)) (by simpa using fun h=>nbl (by rw[h]))
  rw[j1e]at hM6
  have hO6:=World.ownsRow.kept hown1 (jae wF bb 8 (.slice (some ⟨g1,0,none⟩) (s.vs.length+1) cap1)) (.inr (by simp[Value.ownBlock];omega))
  have hF6:=jmj (j:=8) (v:=.slice (some ⟨g1,0,none⟩) (s.vs.length+1) cap1) hF5 hB5.blk
  have hB6:Zf B (stR s a1 a2 a3 a4 a5 a6 c1 c2 c3 c4 c5 c6) (bkX ⟨s.tx+1,s.now,s.was,s.cur,s.vs++[⟨s.tx+1,gn,id,name,zone,wall,gap,fold⟩],s.ix⟩ a1 a2 a3 a4 a5 a6 (some ⟨g1,0,none⟩) a9 c1 c2 c3 c4 c5 c6 cap1 c9) w00 (wF.setCell ⟨bb,8,none⟩ (.slice (some ⟨g1,0,none⟩) (s.vs.length+1) cap1)) s bb lb nm wm k k a b c d e f ca cb cc cd ce cf:=hB5.set 8 _ (by omega) (by omega) (by omega) (fun p hp=>by
   simp only[bkX,List.mem_cons,List.not_mem_nil,or_false]at hp ⊢
   rcases hp with rfl|rfl|rfl|rfl|rfl|rfl|rfl|rfl|rfl<;>simp)
  obtain⟨cur,hob⟩:=jcj hO6 (g:=g1) rfl
  have h7:nm≠g1:=fun h=>by
   obtain⟨es,cl,hm⟩:=jan hB6.cn
   rw[h,hob]at hm
   cases hm
  have h8:wm≠g1:=fun h=>by
   obtain⟨es,cl,hm⟩:=jan hB6.cw
   rw[h,hob]at hm
   cases hm
  have hEn:=jdt w00 s bb lb nm wm (n+1) k g1 _ a b c d e f ca cb cc cd ce cf _ (jai (s.vs++[⟨s.tx+1,gn,id,name,zone,wall,gap,fold⟩])) _ HK.out.1 HK.out.2.2.1 HK.out.2.2.2 HK.out.2.1.1 HK.out.2.1.2 hB6 n1 n2 hob h7 h8 hM6 (jbf _) (jck _) (show k+(jai (s.vs++[jpf (s.tx+1) gn ⟨id,name,zone,wall,gap,fold⟩])).length<=1000 by omega)
  have HO6:=hidP hO6
  have HF6:=hidP hF6
  have HX:=hidP (jmo (momB s) (jai (s.vs++[⟨s.tx+1,gn,id,name,zone,wall,gap,fold⟩])))
  have hlb:lb≠bb:=fun h=>nbl (by rw[h])
  have hzH:=hB6.bel.size
  clear bA hB4 hOA hB5 hF5 hF6 hM4 hM6 hO6 hB6 h7 h8 hgrow hown1 hat hlt1 r1 r2 x8 x8b f8 hOV HB3 HM3 HF3 t0 t1 t2 t3 t4 t5 t6 t7 hi hz0 hz1 hz2 hlr
  generalize wF.setCell ⟨bb,8,none⟩ (.slice (some ⟨g1,0,none⟩) (s.vs.length+1) cap1)=wH at *
  have HSF:Hid (addS s ⟨id,name,zone,wall,gap,fold⟩ gn=⟨s.tx+1,s.now,s.was,s.cur,s.vs++[⟨s.tx+1,gn,id,name,zone,wall,gap,fold⟩],entF (momB s) (jai (s.vs++[⟨s.tx+1,gn,id,name,zone,wall,gap,fold⟩]))⟩):=rfl
  generalize entF (momB s) (jai (s.vs++[⟨s.tx+1,gn,id,name,zone,wall,gap,fold⟩]))=EE at *
  go_wp2_with fail
  refine hEn.mono ?_
  rintro q w9 hP9
  obtain⟨v9,rfl,hO9⟩:=hP9.ex
  obtain⟨j,hj,hB9,hob9,hF9⟩:=hP9.inv
  obtain⟨p9,d9,rfl⟩:=jb2 hO9
  have x9:=hB9.more (9,.slice a9 s.ix.length c9) (by simp[bkX])
  have f9:=hB9.free 9
  have hB10:Zf wH.heap.size (stR s a1 a2 a3 a4 a5 a6 c1 c2 c3 c4 c5 c6) (bkX ⟨s.tx+1,s.now,s.was,s.cur,s.vs++[⟨s.tx+1,gn,id,name,zone,wall,gap,fold⟩],EE⟩ a1 a2 a3 a4 a5 a6 (some ⟨g1,0,none⟩) p9 c1 c2 c3 c4 c5 c6 cap1 d9) w00 (w9.setCell ⟨bb,9,none⟩ (.slice p9 EE.length d9)) s bb lb nm wm (k+j) (k+j) a b c d e f ca cb cc cd ce cf:=hB9.set 9 _ (by omega) (by omega) (by omega) (fun p hp=>by
   simp only[bkX,List.mem_cons,List.not_mem_nil,or_false]at hp ⊢
   rcases hp with rfl|rfl|rfl|rfl|rfl|rfl|rfl|rfl|rfl<;>simp)
  have hM10:=hP9.live.kept (jae w9 bb 9 (.slice p9 EE.length d9)) (by simpa using hlb)
  have hV10:=World.ownsRow.kept (j4i (l:=s.vs) (v:=⟨s.tx+1,gn,id,name,zone,wall,gap,fold⟩) (jww HO6.out (hob9.trans hob.symm))) (jae w9 bb 9 (.slice p9 EE.length d9)) (.inr (by simp[Value.ownBlock];omega))
  have hF10:=hidP (jmj (j:=9) (v:=.slice p9 EE.length d9) (HF6.out.trans hF9) hB9.blk)
  rw[List.length_map]at hV10
  have hjk:k+j<=K+30:=by
   have:(jai (s.vs++[⟨s.tx+1,gn,id,name,zone,wall,gap,fold⟩])).length<=30:=hL
   omega
  have HI:Hid (Zb ⟨s.tx+1,s.now,s.was,s.cur,s.vs++[⟨s.tx+1,gn,id,name,zone,wall,gap,fold⟩],EE⟩ w00 (w9.setCell ⟨bb,9,none⟩ (.slice p9 EE.length d9)) (some ⟨bb,0,none⟩) (K+30)):=⟨⟨bb,lb,n+1,a1,a2,a3,a4,a5,a6,some ⟨g1,0,none⟩,p9,c1,c2,c3,c4,c5,c6,cap1,d9,nm,wm,k+j,wH.heap.size,a,b,c,d,e,f,ca,cb,cc,cd,ce,cf,rfl,hM10,by omega,hB10.re rfl rfl rfl,hjk,⟨n1,n2,n3,n5⟩,hV10⟩,HK.out.1,HK.out.2.1,HK.out.2.2⟩
  clear hEn hB10 hV10 hM10 hO9 hob9 hP9 hB9 HO6 HF6 hF9
  go_wp2
  exact bodyPost_end (results_none Tryz.results179 _ _ _) rfl ⟨rfl,by rw[HSF.out];exact HI.out,hF10.out⟩
end
section
open Go.RowKit Go.ChangeMaps Go.MapKept Go.WideMaps Go.Sort
theorem Frm.of_below{w w':World}(hb:Below w.heap.size w w'):Frm w w':=(Frm.refl w).below hb
theorem jma(s:Za)(nm:ByteArray)(w00 w:World)(x:Option Addr)(K:Nat)(hK:Zb s w00 w x K):
  Calls Tryz.prog 177 #[.pointer x,.string nm] w fun e w'=>e=.returned (.bool (j4d s nm))/\Below w.heap.size w w':=by
 have hr1:=hK.rb.1
 have hr2:=hK.rb.2
 have ok1:=hK.ro.1
 have ok2:=hK.ro.2
 obtain⟨bb,lb,n,a1,a2,a3,a4,a5,a6,a8,a9,c1,c2,c3,c4,c5,c6,c8,c9,mm,wm,k,B,a,b,c,d,e,f,ca,cb,cc,cd,ce,cf,rfl,hM,hn,hBk,hk,hne,hV⟩:=hK.ex
 have hR1:Zi w (.agg #[.slice a1 s.now.rules.length c1,.slice a2 s.now.zones.length c2,.slice a3 s.now.links.length c3]) s.now:=(hBk.rs (_,s.now) (List.mem_cons_self ..)).at
 have hR2:Zi w (.agg #[.slice a4 s.was.rules.length c4,.slice a5 s.was.zones.length c5,.slice a6 s.was.links.length c6]) s.was:=(hBk.rs (_,s.was) (List.mem_cons_of_mem _ (List.mem_cons_self ..))).at
 have hE0:=hK.env.of_below hBk.bel
 have x1:=hBk.more (1,.slice a1 s.now.rules.length c1) (by simp[bkX])
 have x2:=hBk.more (2,.slice a2 s.now.zones.length c2) (by simp[bkX])
 have x3:=hBk.more (3,.slice a3 s.now.links.length c3) (by simp[bkX])
 have x4:=hBk.more (4,.slice a4 s.was.rules.length c4) (by simp[bkX])
 have x5:=hBk.more (5,.slice a5 s.was.zones.length c5) (by simp[bkX])
 have x6:=hBk.more (6,.slice a6 s.was.links.length c6) (by simp[bkX])
 have x7:=hBk.cur
 have hZ1:=jff s.now _ nm w hE0 hR1 ok1 hr1
 have hZ2:=fun w hE h=>jff s.was (.agg #[.slice a4 s.was.rules.length c4,.slice a5 s.was.zones.length c5,.slice a6 s.was.links.length c6]) nm w hE h ok2 hr2
 unfold j4d
 clear hK hM hn hBk hk hne hV hr1 hr2 ok1 ok2 hR1
 generalize inR s.now nm=pb at *
 generalize inR s.was nm=qb at *
 obtain⟨tx,now,was,cur,vs,ix⟩:=s
 dsimp only at *
 cases pb
 ·go_enter Tryz.func177,Tryz.ntmps177
  go_wp2_with fail
  refine hZ1.mono ?_
  rintro q w1 ⟨rfl,hb1⟩
  go_wp2
  go_ret
  exact⟨rfl,hb1⟩
 by_cases hc0:cur=0
 ·subst hc0
  go_enter Tryz.func177,Tryz.ntmps177
  go_wp2_with fail
  refine hZ1.mono ?_
  rintro q w1 ⟨rfl,hb1⟩
  have y7:=jab hb1 x7
  go_wp2
  go_ret
  exact⟨rfl,hb1⟩
 rw[decide_eq_false hc0]
 have hc1:(cur==0)=false:=by simp[hc0]
 go_enter Tryz.func177,Tryz.ntmps177
 go_wp2_with fail
 refine hZ1.mono ?_
 rintro q w1 ⟨rfl,hb1⟩
 have y7:=jab hb1 x7
 have y4:=jab hb1 x4
 have y5:=jab hb1 x5
 have y6:=jab hb1 x6
 have hE1:=hE0.of_below hb1
 have hR3:=hR2.below hb1
 clear x1 x2 x3 x4 x5 x6 x7 hR2 hE0 hc0
 go_wp2_with fail
 refine(hZ2 _ hE1 hR3).mono ?_
 rintro q w2 ⟨rfl,hb2⟩
 cases qb
 ·go_wp2
  go_ret
  exact⟨rfl,(qtr hb1 hb2)⟩
 ·go_wp2
  go_ret
  exact⟨rfl,(qtr hb1 hb2)⟩
theorem jn9(s:Za)(ev:EventD)(w00 w:World)(x:Option Addr)(K:Nat)(hK:Zb s w00 w x K)(hKb:K<=700)(h0:0<=s.tx)(hw:(Lit.int .i64 ev.id).wf=true)(m1:ev.name.size<=maxLen)(m2:ev.zone.size<=maxLen)(he:jc6 ev=true)(hz:j4d s ev.zone=true)(hf:j6j s=false)(hvl:s.vs.length<60)(htx:s.tx<900000)(hn:(jbk s.vs ev.id).isSome=false)(h30:(jai s.vs).length<30)(hL:(jai (s.vs++[jpf (s.tx+1) false ev])).length<=30):
  Calls Tryz.prog 134 #[.pointer x,ev.v] w fun q w'=>q=.returned (.int .i64 0)/\Zb (addS s ev false) w00 w' x (K+30)/\Frm w w':=by
 have hid:=(jjz he).1
 have hq1:=fun W=>jek ev W m1 m2
 rw[he]at hq1
 have hq2:=fun W x h=>jma s ev.zone w00 W x K h
 rw[hz]at hq2
 have hA:=fun W x h=>jx3 s false ev w00 W x K h hKb hvl h0 htx hid hL
 have hFl:=fun W bb a8 c8 h1 h2=>jx1 s bb a8 c8 W h1 h2
 rw[hf]at hFl
 have hlen:∀W x,Zb s w00 W x K->∃bb lb,x=some ⟨bb,0,none⟩/\W.cell? ⟨bb,10,none⟩=some (.map (some lb))/\(∀W',Below W.heap.size W W'->(∃e:EventD,(Instr.lookup 75 (.map (some lb)) (.int .i64 ev.id) true).run Tryz.prog W'=.ok (.tuple #[e.v,.bool (jbk s.vs ev.id).isSome]) W')/\∀ty,(Builtin.len_ #[75] ty #[.map (some lb)]).run Tryz.prog W'=.ok (.int .i64 (jai s.vs).length) W')/\W.cell? ⟨bb,0,none⟩=some (.int .i64 s.tx)/\∃a8 c8,W.cell? ⟨bb,8,none⟩=some (.slice a8 s.vs.length c8):=fun W x hK=>by
  obtain⟨bb,lb,n,a1,a2,a3,a4,a5,a6,a8,a9,c1,c2,c3,c4,c5,c6,c8,c9,mm,wm,k,B,a,b,c,d,e,f,ca,cb,cc,cd,ce,cf,rfl,hM,hn,hBk,_⟩:=hK.ex
  refine⟨bb,lb,rfl,hBk.live,fun W' hb=>⟨?_,fun ty=>?_⟩,hBk.more (0,.int .i64 s.tx) (by simp[bkX]),a8,c8,hBk.more (8,.slice a8 s.vs.length c8) (by simp[bkX])⟩
  ·obtain⟨e,he,_⟩:=(hM.below hb).lookW hw
   exact⟨e,he⟩
  ·obtain⟨D,d1,d2⟩:=(hM.below hb).own
   rw[<- jdo d1 d2 (jbf s.vs) (jck s.vs.length)]
   exact d1.len mapT ty
 rw[hn]at hlen
 obtain⟨id,name,zone,wall,gap,fold⟩:=ev
 simp only[EventD.v]at *
 have b0:=qal w (.cells #[.int .i64 id,.string name,.string zone,.int .i64 wall,.int .i64 gap,.int .i64 fold] 99)
 have E0:=Zc.new w [.int .i64 id,.string name,.string zone,.int .i64 wall,.int .i64 gap,.int .i64 fold] 99
 have hK0:=hK.below b0
 have hF0:=Frm.of_below b0
 obtain⟨we,hwe⟩:∃x,w.alloc (.cells #[.int .i64 id,.string name,.string zone,.int .i64 wall,.int .i64 gap,.int .i64 fold] 99)=x:=⟨_,rfl⟩
 rw[hwe]at E0 hK0 hF0
 obtain⟨bb,lb,rfl,_⟩:=hlen _ _ hK0
 have e0:=E0.c 0 rfl
 have e1:=E0.c 1 rfl
 have e2:=E0.c 2 rfl
 have e3:=E0.c 3 rfl
 have e4:=E0.c 4 rfl
 have e5:=E0.c 5 rfl
 clear hK b0
 go_enter Tryz.func134,Tryz.ntmps134
 go_wp2_with fail
 clear hwe
 refine(hq1 _).mono ?_
 rintro q w1 ⟨rfl,hb1⟩
 have E1:=E0.below hb1
 have hK1:=hK0.below hb1
 have hF1:=hF0.below hb1
 clear e0 e1 e2 e3 e4 e5 E0 hK0 hF0 hb1 hq1
 have e2:=E1.c 2 rfl
 go_wp2_with fail
 refine(hq2 _ _ hK1).mono ?_
 rintro q w2 ⟨rfl,hb2⟩
 have E2:=E1.below hb2
 have hK2:=hK1.below hb2
 have hF2:=hF1.below hb2
 clear e2 E1 hK1 hF1 hb2 hq2 he hz hf
 obtain⟨_,lb,hxx,x10,hlk,_⟩:=hlen _ _ hK2
 injection hxx with hxx
 injection hxx with hxx
 subst hxx
 have e0:=E2.c 0 rfl
 obtain⟨ev1,hl1⟩:=(hlk _ (jaa w2)).1
 have b2:=qal w2 (.cells #[.int .i64 0,.string ⟨#[]⟩,.string ⟨#[]⟩,.int .i64 0,.int .i64 0,.int .i64 0] 99)
 have b2d:=b2.trans ((jaa _).mono b2.size)
 obtain⟨ev2,hl2⟩:=(hlk _ b2d).1
 have y10:=jab b2 x10
 have y0:=jab b2 e0
 have hT:∀ty,(Builtin.len_ #[75] ty #[.map (some lb)]).run Tryz.prog w2=.ok (.int .i64 (jai s.vs).length) w2:=(hlk _ (Below.refl _ _)).2
 have bz:=jaa w2
 go_upto_region 5 with fail
 go_cut [6]from 5 to 24 (fun s6 wx=>s6=.bool false/\Hid (Below w2.heap.size w2 wx))
 case first=>
  go_region
  all_goals (go_wp2;go_meet;exact⟨rfl,by first|exact bz.alloc bz.size _|exact bst _ _ _ (Nat.le_refl _) (bz.alloc bz.size _)|exact b2d|exact b2d⟩)
 case rest=>
  obtain⟨rfl,hb3⟩:=hcut
  obtain⟨w3,hw3⟩:∃x:World,x=wc:=⟨_,rfl⟩
  subst hw3
  have hb3:=hb3.out
  have hK3:=hK2.below hb3
  have E3:=E2.below hb3
  have hF3:=hF2.below hb3
  clear hl1 hl2 b2 b2d y10 y0 hT bz x10 e0 hlk hb3 E2 hK2 hF2 ev1 ev2
  obtain⟨_,lb3,hxx,z10,hlk3,z0,a8,c8,z8⟩:=hlen _ _ hK3
  injection hxx with hxx
  injection hxx with hxx
  subst hxx
  have hF4:=hFl _ bb a8 c8 z0 z8
  have hT3:=(hlk3 _ (Below.refl _ _)).2
  clear hlen hFl hlk3 z0 z8
  go_wp2_with fail
  refine hF4.mono ?_
  rintro q w4 ⟨rfl,hw4⟩
  have hw4:=hw4.symm
  subst hw4
  clear hF4
  have hA4:=hA _ _ hK3
  have e0:=E3.c 0 rfl
  have e1:=E3.c 1 rfl
  have e2:=E3.c 2 rfl
  have e3:=E3.c 3 rfl
  have e4:=E3.c 4 rfl
  have e5:=E3.c 5 rfl
  have HF:=hidP hF3
  have h31:(((jai s.vs).length:Int)==30)=false:=by simp;omega
  clear hA hK3 E3 hF3
  go_wp2_with fail
  refine hA4.mono ?_
  rintro q w5 ⟨rfl,hI5,hF5⟩
  have HP:=hidP (And.intro hI5 (HF.out.trans hF5))
  clear e0 e1 e2 e3 e4 e5 hA4 hI5 hF5
  go_wp2
  go_ret
  exact⟨rfl,HP.out.1,HP.out.2⟩
end
end Go.Proofs.YtofdpfpdocpbpaaGreatDoor
