/- Packed. -/
import Derived.Test.YtofdpfpdocpbpaaGreatDoorKGd
import Derived.Test.YtofdpfpdocpbpaaGreatDoorLVd
import Derived.Lib.MinMax
import Derived.Deep.RegionHeld3
import Derived.BigRegion
set_option maxHeartbeats 20000000
set_option linter.unusedSimpArgs false
namespace Go.Proofs.YtofdpfpdocpbpaaGreatDoor
section
open Go.RowKit Go.ChangeMaps Go.MapKept Go.WideMaps Go.Sort
theorem jrn{w w':World}{base:Nat}{e:TypeId}{q n:Nat}{v:Value}{xs:List Value}(h:w.ownsRow base e q v n xs)(hF:Frm w w')(h1:e≠85)(h2:e≠101):w'.ownsRow base e q v n xs:=jh8 h fun b cs hc=>hF.keep b cs e hc h1 h2
theorem Frm.cell{w w':World}(hF:Frm w w'){b:Nat}{cs:Array Value}{t:TypeId}(h:w.heap[b]? =some (Obj.cells cs t (0,0)))(h1:t≠85)(h2:t≠101)(o:Nat):w'.cell? ⟨b,o,none⟩=w.cell? ⟨b,o,none⟩:=by
 have:=hF.keep b cs t h h1 h2
 simp only[World.cell?,this]
theorem Zb.up{s:Za}{w00 w:World}{x:Option Addr}{K K':Nat}(h:Zb s w00 w x K)(hk:K<=K'):Zb s w00 w x K':=by
 obtain⟨bb,lb,n,a1,a2,a3,a4,a5,a6,a8,a9,c1,c2,c3,c4,c5,c6,c8,c9,nm,wm,k,B,a,b,c,d,e,f,ca,cb,cc,cd,ce,cf,hx,hM,hn,hBk,hkk,hne,hV⟩:=h.ex
 exact⟨⟨bb,lb,n,a1,a2,a3,a4,a5,a6,a8,a9,c1,c2,c3,c4,c5,c6,c8,c9,nm,wm,k,B,a,b,c,d,e,f,ca,cb,cc,cd,ce,cf,hx,hM,by omega,hBk,by omega,hne,hV⟩,h.env,h.rb,h.ro⟩
theorem Zb.base{s:Za}{w00 w:World}{x:Option Addr}{K:Nat}(h:Zb s w00 w x K){wB:World}(hb:Below wB.heap.size wB w00)(hE:Zm wB):Zb s wB w x K:=by
 obtain⟨bb,lb,n,a1,a2,a3,a4,a5,a6,a8,a9,c1,c2,c3,c4,c5,c6,c8,c9,nm,wm,k,B,a,b,c,d,e,f,ca,cb,cc,cd,ce,cf,hx,hM,hn,hBk,hkk,⟨n1,n2,n3,n5⟩,hV⟩:=h.ex
 have hs:=hb.size
 have hbn:=hBk.bn
 have hbw:=hBk.bw
 exact⟨⟨bb,lb,n,a1,a2,a3,a4,a5,a6,a8,a9,c1,c2,c3,c4,c5,c6,c8,c9,nm,wm,k,B,a,b,c,d,e,f,ca,cb,cc,cd,ce,cf,hx,hM,hn,{ hBk with bel:=hb.trans (hBk.bel.mono hs),bn:=by omega,bw:=by omega },hkk,⟨n1,n2,by omega,by omega⟩,jb8 hV hs⟩,hE,h.rb,h.ro⟩
theorem Zb.other{s:Za}{w00 w w':World}{x:Option Addr}{K g:Nat}(h:Zb s w00 w x K)(hg:w.grownBy w' (some g))(hb:w00.heap.size<=g){t:TypeId}(ht:∃cs,w.heap[g]? =some (Obj.cells cs t (0,0)))(h1:t≠85)(h2:t≠101)(h3:t≠304)(h4:¬relT t):Zb s w00 w' x K:=by
 obtain⟨bb,lb,n,a1,a2,a3,a4,a5,a6,a8,a9,c1,c2,c3,c4,c5,c6,c8,c9,nm,wm,k,B,a,b,c,d,e,f,ca,cb,cc,cd,ce,cf,hx,hM,hn,hBk,hkk,hne,hV⟩:=h.ex
 obtain⟨cs,hc⟩:=ht
 have hmap:∀z,(∃es c,w.heap[z]? =some (.map es c))->z≠g:=fun z hz e=>by
  obtain⟨es,c,hm⟩:=hz
  rw[e,hc]at hm
  cases hm
 have hbg:bb≠g:=fun e=>by
  obtain⟨ds,hd⟩:=hBk.blk
  rw[e,hc]at hd
  injection hd with hd
  injection hd with _ hd _
  exact h1 hd
 refine⟨⟨bb,lb,n,a1,a2,a3,a4,a5,a6,a8,a9,c1,c2,c3,c4,c5,c6,c8,c9,nm,wm,k,B,a,b,c,d,e,f,ca,cb,cc,cd,ce,cf,hx,hM.kept hg (by simpa using hmap lb (jbv hM)),hn,hBk.grownT hg hb hbg (hmap nm (jan hBk.cn)) (hmap wm (jan hBk.cw)) (fun ds hd=>?_) (fun ds t' hd hr=>?_),hkk,hne,World.ownsRow.kept hV hg (.inr (Ne.symm (jbj hV ⟨cs,hc⟩ (Ne.symm h2))))⟩,h.env,h.rb,h.ro⟩
 ·rw[hc]at hd
  injection hd with hd
  injection hd with _ hd _
  exact h3 hd
 ·rw[hc]at hd
  injection hd with hd
  injection hd with _ hd _
  subst hd
  exact h4 hr
theorem Zb.turn{s:Za}{w00 w:World}{bb K:Nat}(h:Zb s w00 w (some ⟨bb,0,none⟩) K)(z:Int):Zb ⟨s.tx,s.now,s.was,z,s.vs,s.ix⟩ w00 (w.setCell ⟨bb,7,none⟩ (.int .i64 z)) (some ⟨bb,0,none⟩) K/\Frm w (w.setCell ⟨bb,7,none⟩ (.int .i64 z)):=by
 obtain⟨bb',lb,n,a1,a2,a3,a4,a5,a6,a8,a9,c1,c2,c3,c4,c5,c6,c8,c9,nm,wm,k,B,a,b,c,d,e,f,ca,cb,cc,cd,ce,cf,hx,hM,hn,hBk,hk,⟨n1,n2,n3,n5⟩,hV⟩:=h.ex
 injection hx with hx
 injection hx with hx
 subst hx
 have hg:=ja1 w bb 7 (.int .i64 z)
 have T:=jah (b:=bb) (j:=7) (v:=.int .i64 z) hBk.blk
 exact⟨Zb.written hBk hM hn n3 n5 hV h.env hg T (hBk.var.set (j:=7) (.int .i64 z)) rfl (hBk.cn.grown hg (Ne.symm hBk.ne_n) (jb0 hBk.blk)) (hBk.cw.grown hg (Ne.symm hBk.ne_w) (jb0 hBk.blk)) hBk.ne hBk.bn hBk.bw n1 n2 hk (Nat.le_refl _) (hBk.rn.grownB hg hBk.blk) (hBk.rw.grownB hg hBk.blk) ((hBk.rs (_,s.now) (List.mem_cons_self ..)).grownB hg hBk.blk) ((hBk.rs (_,s.was) (List.mem_cons_of_mem _ (List.mem_cons_self ..))).grownB hg hBk.blk) h.rb h.ro,jmk (Frm.refl w) hg hBk.blk⟩
structure EntI(s:Za)(w00 w:World)(bb K:Nat)(q:Ending)(w':World):Prop where
 ex:∃p d u,q=.returned (.slice p (entF (momB s) (jai s.vs)).length d)/\w'.cell? ⟨bb,9,none⟩=some u/\w'.frozen? ⟨bb,9,none⟩=false/\Zb ⟨s.tx,s.now,s.was,s.cur,s.vs,entF (momB s) (jai s.vs)⟩ w00 (w'.setCell ⟨bb,9,none⟩ (.slice p (entF (momB s) (jai s.vs)).length d)) (some ⟨bb,0,none⟩) (K+30)/\Frm w (w'.setCell ⟨bb,9,none⟩ (.slice p (entF (momB s) (jai s.vs)).length d))
 frm:Frm w w'
theorem jf5(s:Za)(w00 w:World)(bb K:Nat)(hK:Zb s w00 w (some ⟨bb,0,none⟩) K)(hKb:K<=900)(hL:(jai s.vs).length<=30):
  Calls Tryz.prog 40 #[.pointer (some ⟨bb,0,none⟩)] w (EntI s w00 w bb K):=by
 obtain⟨bb',lb,n,a1,a2,a3,a4,a5,a6,a8,a9,c1,c2,c3,c4,c5,c6,c8,c9,nm,wm,k,B,a,b,c,d,e,f,ca,cb,cc,cd,ce,cf,hx,hM,hn,hBk,hk,⟨n1,n2,n3,n5⟩,hV⟩:=hK.ex
 injection hx with hx
 injection hx with hx
 subst hx
 have hlb:lb≠bb:=Ne.symm (jc0 (jbv hM) hBk.cur)
 obtain⟨g,ob,hg,h7,h8,hgV⟩:∃g ob,w.heap[g]? =some ob/\nm≠g/\wm≠g/\∀x,(Value.slice a8 s.vs.length c8).ownBlock=some x->x=g:=by
  cases hv:(Value.slice a8 s.vs.length c8).ownBlock with
  |none=>
   obtain⟨es,cl,hm⟩:=jbv hM
   exact⟨lb,_,hm,n1,n2,fun x h=>by cases h⟩
  | some g=>
   obtain⟨cs,hc⟩:=jcj hV hv
   refine⟨g,_,hc,fun e=>?_,fun e=>?_,fun x h=>by injection h with h;exact h.symm⟩
   ·obtain⟨es,cl,hm⟩:=jan hBk.cn
    rw[e,hc]at hm
    cases hm
   ·obtain⟨es,cl,hm⟩:=jan hBk.cw
    rw[e,hc]at hm
    cases hm
 have hEn:=jdt w00 s bb lb nm wm n k g ob a b c d e f ca cb cc cd ce cf _ (jai s.vs) w hK.env hK.ro.1 hK.ro.2 hK.rb.1 hK.rb.2 hBk n1 n2 hg h7 h8 hM (jbf _) (jck _) (by omega)
 refine hEn.mono ?_
 rintro q w9 hP9
 obtain⟨v9,rfl,hO9⟩:=hP9.ex
 obtain⟨j,hj,hB9,hob9,hF9⟩:=hP9.inv
 obtain⟨p9,d9,rfl⟩:=jb2 hO9
 have hsB:=hB9.bel.size
 have hB10:Zf w.heap.size (stR s a1 a2 a3 a4 a5 a6 c1 c2 c3 c4 c5 c6) (bkX ⟨s.tx,s.now,s.was,s.cur,s.vs,(entF (momB s) (jai s.vs))⟩ a1 a2 a3 a4 a5 a6 a8 p9 c1 c2 c3 c4 c5 c6 c8 d9) w00 (w9.setCell ⟨bb,9,none⟩ (.slice p9 (entF (momB s) (jai s.vs)).length d9)) s bb lb nm wm (k+j) (k+j) a b c d e f ca cb cc cd ce cf:=hB9.set 9 _ (by omega) (by omega) (by omega) (fun p hp=>by
  simp only[bkX,List.mem_cons,List.not_mem_nil,or_false]at hp ⊢
  rcases hp with rfl|rfl|rfl|rfl|rfl|rfl|rfl|rfl|rfl<;>simp)
 have hM10:=hP9.live.kept (jae w9 bb 9 (.slice p9 (entF (momB s) (jai s.vs)).length d9)) (by simpa using hlb)
 have hV9:w9.ownsRow w00.heap.size 101 8 (.slice a8 s.vs.length c8) s.vs.length (s.vs.map VersionD.cs).flatten:=by
  refine⟨hV.1,?_⟩
  rcases hV.2 with h1|⟨g',cap,cur,h1,h2,h3,h4⟩
  ·exact .inl h1
  ·have e:=hgV g' (by rw[h1];rfl)
   subst e
   exact .inr ⟨g',cap,cur,h1,h2,(hob9.trans hg.symm).trans h3,h4⟩
 have hnv:some bb≠(Value.slice a8 s.vs.length c8).ownBlock:=jbj hV9 hB9.blk (by decide)
 have hV10:=World.ownsRow.kept hV9 (jae w9 bb 9 (.slice p9 (entF (momB s) (jai s.vs)).length d9)) (.inr (Ne.symm hnv))
 have hF10:=jmj (j:=9) (v:=.slice p9 (entF (momB s) (jai s.vs)).length d9) hF9 hB9.blk
 have x9:=hB9.more (9,.slice a9 s.ix.length c9) (by simp[bkX])
 exact⟨⟨p9,d9,_,rfl,x9,hB9.free 9,⟨⟨bb,lb,n,a1,a2,a3,a4,a5,a6,a8,p9,c1,c2,c3,c4,c5,c6,c8,d9,nm,wm,k+j,w.heap.size,a,b,c,d,e,f,ca,cb,cc,cd,ce,cf,rfl,hM10,by omega,hB10.re rfl rfl rfl,by omega,⟨n1,n2,n3,n5⟩,hV10⟩,hK.env,hK.rb,hK.ro⟩,hF10⟩,hF9⟩
end
section
open Go.RowKit Go.ChangeMaps Go.MapKept Go.WideMaps Go.Sort
theorem seqE{w:World}{base n cap:Nat}{ar:Option Addr}{P:List EventD}(h:Zq w base (.slice ar n cap) P):Zd w ar 6 (P.map EventD.cs):=by
 obtain⟨a,c,hv,hs⟩:=Zq.seq h
 injection hv with h1
 rw[h1]
 exact hs
structure Js(s:Za)(B:Nat)(Rs:List (Value × RelD))(X:List (Nat × Value))(w00:World)(bb lb n nm wm:Nat)(a b c d e f:Option Addr)(ca cb cc cd ce cf:Nat)(vv:Value)(wF:World)(k:Nat)(w:World):Prop where
 book:Zf B Rs X w00 w s bb lb nm wm k k a b c d e f ca cb cc cd ce cf
 live:Zg w lb n (jbk s.vs)
 ver:w.ownsRow w00.heap.size 101 8 vv s.vs.length (s.vs.map VersionD.cs).flatten
 frm:Frm wF w
theorem Js.below{s:Za}{B:Nat}{Rs:List (Value × RelD)}{X:List (Nat × Value)}{w00:World}{bb lb n nm wm:Nat}{a b c d e f:Option Addr}{ca cb cc cd ce cf:Nat}{vv:Value}{wF:World}{k:Nat}{w w':World}(h:Js s B Rs X w00 bb lb n nm wm a b c d e f ca cb cc cd ce cf vv wF k w)(hb:Below w.heap.size w w'):Js s B Rs X w00 bb lb n nm wm a b c d e f ca cb cc cd ce cf vv wF k w':=⟨h.book.below hb,h.live.below hb,jad h.ver hb,h.frm.below hb⟩
theorem Js.kept{s:Za}{B:Nat}{Rs:List (Value × RelD)}{X:List (Nat × Value)}{w00:World}{bb lb n nm wm:Nat}{a b c d e f:Option Addr}{ca cb cc cd ce cf:Nat}{vv:Value}{wF:World}{k k2 g:Nat}{w w':World}(h:Js s B Rs X w00 bb lb n nm wm a b c d e f ca cb cc cd ce cf vv wF k w)(hB:Zf B Rs X w00 w' s bb lb nm wm k2 k2 a b c d e f ca cb cc cd ce cf)(hg:w.grownBy w' (some g))(hm:∃es c,w.heap[g]? =some (.map es c))(hl:g≠lb):Js s B Rs X w00 bb lb n nm wm a b c d e f ca cb cc cd ce cf vv wF k2 w':=by
 refine⟨hB,h.live.kept hg (by simpa using Ne.symm hl),World.ownsRow.kept h.ver hg ?_,h.frm.map hg hm⟩
 cases hv:vv.ownBlock with
 |none=>exact .inl rfl
 |some x=>
  refine .inr fun e=>?_
  obtain⟨cs,hc⟩:=jcj h.ver hv
  obtain⟨es,cl,hm⟩:=hm
  injection e with e
  rw[e,hm]at hc
  cases hc
theorem Js.ask_w{s:Za}{B:Nat}{Rs:List (Value × RelD)}{X:List (Nat × Value)}{w00:World}{bb lb n nm wm:Nat}{a b c d e f:Option Addr}{ca cb cc cd ce cf:Nat}{vv:Value}{wF:World}{k:Nat}{w:World}(h:Js s B Rs X w00 bb lb n nm wm a b c d e f ca cb cc cd ce cf vv wF k w)(ev:EventD)(hE:Zm w00)(ok:Zr s.was)(hr:relB s.was=true)(hk:k<=1000)(hl:wm≠lb){P:Int × Bool}(hP:momD s.was ev=P):
  Calls Tryz.prog 92 #[.agg #[.slice d s.was.rules.length cd,.slice e s.was.zones.length ce,.slice f s.was.links.length cf,.map (some wm)],ev.v] w fun q w'=>q=.returned (.agg #[.int .i64 P.1,.bool P.2])/\Js s B Rs X w00 bb lb n nm wm a b c d e f ca cb cc cd ce cf vv wF (k+1) w'/\w.grownBy w' (some wm):=by
 subst hP
 exact(jby s.was d e f cd ce cf wm k ev w (hE.of_below h.book.bel) h.book.rw.at ok hr h.book.cw (by omega)).mono fun q w' hP=>⟨hP.ex,h.kept (h.book.grew_w hP.grown hP.cache) hP.grown (jan h.book.cw) hl,hP.grown⟩
theorem Js.ask_n{s:Za}{B:Nat}{Rs:List (Value × RelD)}{X:List (Nat × Value)}{w00:World}{bb lb n nm wm:Nat}{a b c d e f:Option Addr}{ca cb cc cd ce cf:Nat}{vv:Value}{wF:World}{k:Nat}{w:World}(h:Js s B Rs X w00 bb lb n nm wm a b c d e f ca cb cc cd ce cf vv wF k w)(ev:EventD)(hE:Zm w00)(ok:Zr s.now)(hr:relB s.now=true)(hk:k<=1000)(hl:nm≠lb){P:Int × Bool}(hP:momD s.now ev=P):
  Calls Tryz.prog 92 #[.agg #[.slice a s.now.rules.length ca,.slice b s.now.zones.length cb,.slice c s.now.links.length cc,.map (some nm)],ev.v] w fun q w'=>q=.returned (.agg #[.int .i64 P.1,.bool P.2])/\Js s B Rs X w00 bb lb n nm wm a b c d e f ca cb cc cd ce cf vv wF (k+1) w'/\w.grownBy w' (some nm):=by
 subst hP
 exact(jby s.now a b c ca cb cc nm k ev w (hE.of_below h.book.bel) h.book.rn.at ok hr h.book.cn (by omega)).mono fun q w' hP=>⟨hP.ex,h.kept (h.book.grew_n hP.grown hP.cache) hP.grown (jan h.book.cn) hl,hP.grown⟩
set_option maxRecDepth 20000 in
theorem jof(s:Za)(most:Nat)(hm1:1<=most)(hm2:most<=1000)(w00 w:World)(xa:Option Addr)(K:Nat)(hK:Zb s w00 w xa K)(hKb:K<=800)(hL:(jai s.vs).length<=30)(hid:∀x∈jai s.vs,1<=x.id/\x.id<=1000000):
  Calls Tryz.prog 182 #[.pointer xa,.int .i64 most] w fun q w'=>q=.returned (.int .i64 (folN s most))/\Zb (folS s most) w00 w' xa (K+90)/\Frm w w':=by
 have HE:=hidP (And.intro hK.env (And.intro hK.rb hK.ro))
 obtain⟨bb,lb,n,y10,hxa,hM,y7⟩:∃bb lb n,w.cell? ⟨bb,10,none⟩=some (.map (some lb))/\xa=some ⟨bb,0,none⟩/\Zg w lb n (jbk s.vs)/\w.cell? ⟨bb,7,none⟩=some (.int .i64 s.cur):=by
  obtain⟨bb,lb,n,a1,a2,a3,a4,a5,a6,a8,a9,c1,c2,c3,c4,c5,c6,c8,c9,nm,wm,k,B,a,b,c,d,e,f,ca,cb,cc,cd,ce,cf,hx,hM,hn,hBk,_⟩:=hK.ex
  exact⟨bb,lb,n,hBk.live,hx,hM,hBk.cur⟩
 subst hxa
 have hbw:bb<w.heap.size:=qbl y10
 have b1:=qal w (.cells #[.pointer (some ⟨bb,0,none⟩)] 33)
 have hby:=joi lb n (jbk s.vs) (jai s.vs) _ (hM.below b1) (jbf _) (jck _) (by omega)
 have hx0:(w.alloc (.cells #[.pointer (some ⟨bb,0,none⟩)] 33)).heap[w.heap.size]? =some (.cells #[.pointer (some ⟨bb,0,none⟩)] 33 (0,0)):=heap_alloc_new w _
 have hsA:(w.alloc (.cells #[.pointer (some ⟨bb,0,none⟩)] 33)).heap.size=w.heap.size+1:=by simp
 have y0:(w.alloc (.cells #[.pointer (some ⟨bb,0,none⟩)] 33)).cell? ⟨w.heap.size,0,none⟩=some (.pointer (some ⟨bb,0,none⟩)):=by simp[go_sem]
 have y10:=jab b1 y10
 have y7:=jab b1 y7
 have HB1:=hidP b1
 have HK:=hidP hK
 clear hK hM b1
 go_enter Tryz.func182,Tryz.ntmps182
 go_wp2_with fail
 generalize w.alloc (.cells #[.pointer (some ⟨bb,0,none⟩)] 33)=wA at *
 refine hby.mono ?_
 rintro q w1 ⟨v1,rfl,hO1,hb1⟩
 obtain⟨p1,q1,k1,rfl⟩:=jaq hO1
 have hDl:=jys (jai s.vs) wA.heap.size _ w1 hO1 (jua w.heap.size bb wA.heap.size s.cur w1 (jab hb1 y0) (jab hb1 y7) (by omega) (by omega)) hb1.size (by omega)
 go_wp2_with fail
 refine hDl.mono ?_
 rintro q w2 ⟨v2,rfl,hO2,hb2⟩
 obtain⟨ar,cap,hv2,_⟩:=hO2.seq
 subst hv2
 have hcp:=jwx hO2
 have hB2:Below wA.heap.size wA w2:=hb1.trans hb2
 have hI2:Zb s w00 w2 (some ⟨bb,0,none⟩) (K+2*0):=(HK.out.below HB1.out).below hB2
 have hx2:w2.heap[w.heap.size]? =some (.cells #[.pointer (some ⟨bb,0,none⟩)] 33 (0,0)):=(hB2.block _ (by omega)).trans hx0
 have hF2:Frm w w2:=(Frm.of_below HB1.out).below hB2
 have hWl:=jzx s
 have HNW:Hid (((jai s.vs).filter (waitB s.cur))=jdz s):=rfl
 rw[HNW.out]at hcp hO2 ⊢
 have hwsz:w.heap.size<w2.heap.size:=by have:=hB2.size;omega
 clear hby hDl hO1 hb1 hb2 hB2 y0 y10 y7 hx0 HNW
 obtain⟨NW,hNW⟩:∃x,(jdz s).length=x:=⟨_,rfl⟩
 have HNW:=hidP hNW
 rw[hNW]at hWl hcp ⊢
 clear hNW
 obtain⟨mm,hmm⟩:∃x,min most NW=x:=⟨_,rfl⟩
 have hmi:min (most:Int) (NW:Int)=(mm:Int):=by omega
 have l1:(mm:Int)<=(NW:Int):=by omega
 have l2:(mm:Int)<=(cap:Int):=by omega
 have l3:(0:Int)<=(mm:Int):=by omega
 have y0:w2.cell? ⟨w.heap.size,0,none⟩=some (.pointer (some ⟨bb,0,none⟩)):=by simp[World.cell?,hx2]
 have HI2:=hidP hI2
 have HX2:=hidP hx2
 have HO2:=hidP hO2
 have HF2:=hidP hF2
 have HNE1:Hid (99≠85/\99≠101):=by constructor<;>decide
 clear hI2 hx2 hO2 hF2
 go_wp2
 go_loopw [7,9,25] (fun s7 _ s25 wr=>∃j:Nat,s25=.int .i64 j/\j<=mm/\s7=.int .i64 (cntE (momD s.was) (momD s.now) ((jdz s).take j))/\Hid (Zb s w00 wr (some ⟨bb,0,none⟩) (K+2*j))/\Hid (Frm w2 wr)) (fun _ _ s25 _=>mm-(intOf s25).toNat)
 case atStart=>exact⟨0,rfl,by omega,rfl,HI2,Frm.refl w2⟩
 case round=>
  obtain⟨wa,hwa⟩:∃x:World,x=wr:=⟨_,rfl⟩
  subst hwa
  obtain⟨j,rfl,hj,rfl,HI,HF⟩:=hrel
  have y0:wa.cell? ⟨w.heap.size,0,none⟩=some (.pointer (some ⟨bb,0,none⟩)):=(HF.out.cell HX2.out (by decide) (by decide) 0).trans y0
  have hxa:wa.heap[w.heap.size]? =some (.cells #[.pointer (some ⟨bb,0,none⟩)] 33 (0,0)):=(HF.out.keep _ _ _ HX2.out (by decide) (by decide)).trans HX2.out
  have hOa:=jrn HO2.out HF.out HNE1.out.1 HNE1.out.2
  have hra:=seqE hOa
  by_cases hlt:j<mm
  ·obtain⟨x,hx⟩:∃x,(jdz s)[j]? =some x:=⟨_,List.getElem?_eq_getElem (by rw[HNW.out];omega)⟩
   have HCT:=hidP (jy8 (f:=momD s.was) (g:=momD s.now) hx)
   have hcl:=j23 (momD s.was) (momD s.now) ((jdz s).take j)
   rw[List.length_take]at hcl
   obtain⟨rb,ro,rfl,hc⟩:=hra.at (i:=j) (r:=x.cs) (by rw[List.getElem?_map,hx];rfl)
   have ev0_:wa.cell? ⟨rb,ro+j*6,none⟩=some (.int .i64 x.id):=hc 0 _ rfl
   have ev1_:wa.cell? ⟨rb,ro+j*6+1,none⟩=some (.string x.name):=hc 1 _ rfl
   have ev2_:wa.cell? ⟨rb,ro+j*6+2,none⟩=some (.string x.zone):=hc 2 _ rfl
   have ev3_:wa.cell? ⟨rb,ro+j*6+3,none⟩=some (.int .i64 x.wall):=hc 3 _ rfl
   have ev4_:wa.cell? ⟨rb,ro+j*6+4,none⟩=some (.int .i64 x.gap):=hc 4 _ rfl
   have ev5_:wa.cell? ⟨rb,ro+j*6+5,none⟩=some (.int .i64 x.fold):=hc 5 _ rfl
   obtain⟨bb',lb',n',a1,a2,a3,a4,a5,a6,a8,a9,c1,c2,c3,c4,c5,c6,c8,c9,nm,wm,k,B,a,b,c,d,e,f,ca,cb,cc,cd,ce,cf,hxx,hMa,hna,hBa,hka,⟨n1,n2,n3,n5⟩,hVa⟩:=HI.out.ex
   injection hxx with hxx
   injection hxx with hxx
   subst hxx
   have hIa:Js s B (stR s a1 a2 a3 a4 a5 a6 c1 c2 c3 c4 c5 c6) (bkX s a1 a2 a3 a4 a5 a6 a8 a9 c1 c2 c3 c4 c5 c6 c8 c9) w00 bb lb' n' nm wm a b c d e f ca cb cc cd ce cf (.slice a8 s.vs.length c8) wa k wa:=⟨hBa,hMa,hVa,Frm.refl wa⟩
   have b3:Below wa.heap.size wa (wa.alloc (.cells #[.int .i64 x.id,.string x.name,.string x.zone,.int .i64 x.wall,.int .i64 x.gap,.int .i64 x.fold] 99)).drew:=(qal wa _).trans ((jaa _).mono (by simp))
   have hI3:=hIa.below b3
   have E3:=(Zc.new wa [.int .i64 x.id,.string x.name,.string x.zone,.int .i64 x.wall,.int .i64 x.gap,.int .i64 x.fold] 99).below (jaa _)
   obtain⟨P,hP⟩:∃P,momD s.was x=P:=⟨_,rfl⟩
   obtain⟨Q,hQ⟩:∃Q,momD s.now x=Q:=⟨_,rfl⟩
   have hMw:=hI3.ask_w x HE.out.1 HE.out.2.2.2 HE.out.2.1.2 (by omega) n2 hP
   have hMn:=fun W (h:Js s B (stR s a1 a2 a3 a4 a5 a6 c1 c2 c3 c4 c5 c6) (bkX s a1 a2 a3 a4 a5 a6 a8 a9 c1 c2 c3 c4 c5 c6 c8 c9) w00 bb lb' n' nm wm a b c d e f ca cb cc cd ce cf (.slice a8 s.vs.length c8) wa (k+1) W)=>h.ask_n x HE.out.1 HE.out.2.2.1 HE.out.2.1.1 (by omega) n1 hQ
   simp only[EventD.v]at hMw hMn
   have y0_:((wa.alloc (.cells #[.int .i64 x.id,.string x.name,.string x.zone,.int .i64 x.wall,.int .i64 x.gap,.int .i64 x.fold] 99)).drew).cell? ⟨w.heap.size,0,none⟩=some (.pointer (some ⟨bb,0,none⟩)):=jab b3 y0
   have y11_:=hI3.book.n0
   have y12_:=hI3.book.n1
   have y13_:=hI3.book.n2
   have y14_:=hI3.book.n3
   have y15_:=hI3.book.w1
   have y16_:=hI3.book.w2
   have y17_:=hI3.book.w3
   have y18_:=hI3.book.w4
   have e0_:=E3.c 0 rfl
   have e1_:=E3.c 1 rfl
   have e2_:=E3.c 2 rfl
   have e3_:=E3.c 3 rfl
   have e4_:=E3.c 4 rfl
   have e5_:=E3.c 5 rfl
   have hwl:wm<wa.heap.size:=hBa.cw.lt
   have hnl:nm<wa.heap.size:=hBa.cn.lt
   have hmw:w.heap.size≠wm:=fun e=>by
    obtain⟨es,cl,hm⟩:=jan hBa.cw
    rw[<- e,hxa]at hm
    cases hm
   have hmn:w.heap.size≠nm:=fun e=>by
    obtain⟨es,cl,hm⟩:=jan hBa.cn
    rw[<- e,hxa]at hm
    cases hm
   have j1:(j:Int)<(mm:Int):=by omega
   have j0:(0:Int)<=(j:Int):=by omega
   rw[hP,hQ]at HCT
   obtain⟨P1,P2⟩:=P
   obtain⟨Q1,Q2⟩:=Q
   have HTI:Hid (∀W,Js s B (stR s a1 a2 a3 a4 a5 a6 c1 c2 c3 c4 c5 c6) (bkX s a1 a2 a3 a4 a5 a6 a8 a9 c1 c2 c3 c4 c5 c6 c8 c9) w00 bb lb' n' nm wm a b c d e f ca cb cc cd ce cf (.slice a8 s.vs.length c8) wa (k+1+1) W->Zb s w00 W (some ⟨bb,0,none⟩) (K+2*(j+1))/\Frm w2 W):=fun W h=>⟨⟨⟨bb,lb',n',a1,a2,a3,a4,a5,a6,a8,a9,c1,c2,c3,c4,c5,c6,c8,c9,nm,wm,k+1+1,B,a,b,c,d,e,f,ca,cb,cc,cd,ce,cf,rfl,h.live,by omega,h.book,by omega,⟨n1,n2,n3,n5⟩,h.ver⟩,HE.out.1,HE.out.2.1,HE.out.2.2⟩,HF.out.trans h.frm⟩
   clear hc hx b3 HI2 hP hQ hBa hMa hVa hIa hna hka hra hOa hxa
   have hPQ:(P1,P2)=(Q1,Q2)\/((P1==Q1)=false\/(P2==Q2)=false)/\(P1,P2)≠(Q1,Q2):=by
    by_cases h1:P1=Q1
    ·by_cases h2:P2=Q2
     ·exact .inl (by rw[h1,h2])
     ·exact .inr ⟨.inr (by simpa using h2),fun h=>h2 (by injection h)⟩
    ·exact .inr ⟨.inl (by simpa using h1),fun h=>h1 (by injection h)⟩
   rcases hPQ with he|⟨he|he,hnp⟩
   rotate_left
   all_goals try
    rw[if_neg hnp]at HCT
   rotate_left
   rotate_left
   rw[if_pos he]at HCT
   injection he with h1 h2
   subst h1 h2
   all_goals
   go_wp2_with fail
   go_region_held3 (fun w'=>w'.cell? ⟨w.heap.size,0,none⟩=some (.pointer (some ⟨bb,0,none⟩))/\w'.cell? ⟨bb,11,none⟩=some (.slice a s.now.rules.length ca)/\w'.cell? ⟨bb,12,none⟩=some (.slice b s.now.zones.length cb)/\w'.cell? ⟨bb,13,none⟩=some (.slice c s.now.links.length cc)/\w'.cell? ⟨bb,14,none⟩=some (.map (some nm))/\w'.cell? ⟨bb,15,none⟩=some (.slice d s.was.rules.length cd)/\w'.cell? ⟨bb,16,none⟩=some (.slice e s.was.zones.length ce)/\w'.cell? ⟨bb,17,none⟩=some (.slice f s.was.links.length cf)/\w'.cell? ⟨bb,18,none⟩=some (.map (some wm))/\w'.cell? ⟨wa.heap.size,0,none⟩=some (.int .i64 x.id)/\w'.cell? ⟨wa.heap.size,1,none⟩=some (.string x.name)/\w'.cell? ⟨wa.heap.size,2,none⟩=some (.string x.zone)/\w'.cell? ⟨wa.heap.size,3,none⟩=some (.int .i64 x.wall)/\w'.cell? ⟨wa.heap.size,4,none⟩=some (.int .i64 x.gap)/\w'.cell? ⟨wa.heap.size,5,none⟩=some (.int .i64 x.fold)) (go_keep) (first|(go_at_call 92;have hx4:=hg4;refine(hMn w4 hI4).mono ?_;rintro q w5 ⟨rfl,hI5,hg5⟩;have v0_:=hg5.cell u0_ (by simpa using hmn);have v11_:=hI5.book.n0;have v12_:=hI5.book.n1;have v13_:=hI5.book.n2;have v14_:=hI5.book.n3;have v15_:=hI5.book.w1;have v16_:=hI5.book.w2;have v17_:=hI5.book.w3;have v18_:=hI5.book.w4;have t0_:=hg5.cell s0_ (by simp;omega);have t1_:=hg5.cell s1_ (by simp;omega);have t2_:=hg5.cell s2_ (by simp;omega);have t3_:=hg5.cell s3_ (by simp;omega);have t4_:=hg5.cell s4_ (by simp;omega);have t5_:=hg5.cell s5_ (by simp;omega))|(go_at_call 92;refine hMw.mono ?_;rintro q w4 ⟨rfl,hI4,hg4⟩;have u0_:=hg4.cell y0_ (by simpa using hmw);have u11_:=hI4.book.n0;have u12_:=hI4.book.n1;have u13_:=hI4.book.n2;have u14_:=hI4.book.n3;have u15_:=hI4.book.w1;have u16_:=hI4.book.w2;have u17_:=hI4.book.w3;have u18_:=hI4.book.w4;have s0_:=hg4.cell e0_ (by simp;omega);have s1_:=hg4.cell e1_ (by simp;omega);have s2_:=hg4.cell e2_ (by simp;omega);have s3_:=hg4.cell e3_ (by simp;omega);have s4_:=hg4.cell e4_ (by simp;omega);have s5_:=hg4.cell e5_ (by simp;omega)))
   all_goals
    have HI5:=hidP (HTI.out _ hI5)
    have hcw:IntKind.i64.wrap (((cntE (momD s.was) (momD s.now) ((jdz s).take j):Nat):Int)+1)=((cntE (momD s.was) (momD s.now) ((jdz s).take j):Nat):Int)+1:=by rw[IntKind.wrap_i64];omega
    clear hI4 hI5 hg4 hg5 hMw hMn HTI y0 hmw hmn HX2 HO2 HF2 HF u0_ v0_ y0_ y11_ u11_ v11_ y12_ u12_ v12_ y13_ u13_ v13_ y14_ u14_ v14_ y15_ u15_ v15_ y16_ u16_ v16_ y17_ u17_ v17_ y18_ u18_ v18_ e0_ s0_ t0_ e1_ s1_ t1_ e2_ s2_ t2_ e3_ s3_ t3_ e4_ s4_ t4_ e5_ s5_ t5_ ev0_ ev1_ ev2_ ev3_ ev4_ ev5_
    go_wp2
    go_roundw
    case rel=>exact⟨j+1,by go_num,by omega,by rw[HCT.out];simp,HI5.out.1,HI5.out.2⟩
    case measure=>simp[intOf];omega
  ·obtain rfl:j=mm:=by omega
   have hIj:=HI.out
   have hFj:=HF2.out.trans HF.out
   have HTK:Hid ((jdz s).take most=(jdz s).take j):=by
    simp only[Hid]
    by_cases h:most<=NW
    ·rw[show j=most by omega]
    ·rw[List.take_of_length_le (by rw[HNW.out];omega),List.take_of_length_le (by rw[HNW.out];omega)]
   have hbx:=hidP hxa
   have nx1:bb≠w.heap.size:=by omega
   clear HI HI2 hOa hxa
   by_cases hset:NW<=most
   ·have HS2:Hid (stB s most=setS s):=if_pos (by rw[HNW.out];exact hset)
    obtain rfl:j=NW:=by omega
    have hSt:=jhb s w00 wa _ _ hIj
    have HFj:=hidP hFj
    clear hra hFj hIj
    go_wp2_with fail
    refine hSt.mono ?_
    rintro q w3 ⟨rfl,hI3,hF3⟩
    have y3:w3.cell? ⟨w.heap.size,0,none⟩=some (.pointer (some ⟨bb,0,none⟩)):=(hF3.cell hbx.out (by decide) (by decide) 0).trans y0
    have hx3:w3.heap[w.heap.size]? =some (.cells #[.pointer (some ⟨bb,0,none⟩)] 33 (0,0)):=(hF3.keep _ _ _ hbx.out (by decide) (by decide)).trans hbx.out
    have HF3:=hidP ((HFj.out.trans hF3).below (jaa w3))
    have y3d:w3.drew.cell? ⟨w.heap.size,0,none⟩=some (.pointer (some ⟨bb,0,none⟩)):=y3
    have hCl:=jf5 (setS s) w00 w3.drew bb _ (hI3.below (jaa w3)) (by omega) hL
    clear hSt hI3 hF3
    go_wp2_with fail
    go_region_held3 (fun w'=>w'.cell? ⟨w.heap.size,0,none⟩=some (.pointer (some ⟨bb,0,none⟩))) (repeat (first|with_reducible assumption|with_reducible (refine jqt ?_ nx1))) ((go_at_call 40;refine hCl.mono ?_;rintro q w9 hP9;obtain⟨p9,d9,u9,rfl,z9,f9,hI9,hF9⟩:=hP9.ex;have z0:w9.cell? ⟨w.heap.size,0,none⟩=some (.pointer (some ⟨bb,0,none⟩)):=(hP9.frm.cell hx3 (by decide) (by decide) 0).trans y3d))
    all_goals
     have HP:=hidP (And.intro (hI9.up (show K+2*j+30<=K+90 by omega)) (HF3.out.trans hF9))
     clear hI9 hF9 hP9 hCl
     go_wp2
     go_ret
     exact⟨by unfold folN;rw[HTK.out];rfl,by unfold folS;rw[HS2.out];exact HP.out.1,HP.out.2⟩
   ·have hlast:1<=j:=by omega
    obtain⟨x,hx⟩:∃x,(jdz s)[j-1]? =some x:=⟨_,List.getElem?_eq_getElem (by rw[HNW.out];omega)⟩
    have HS2:Hid (stB s most=⟨s.tx,s.now,s.was,x.id+1,s.vs,s.ix⟩):=by
     have h:¬(jdz s).length<=most:=by rw[HNW.out];exact hset
     simp only[Hid]
     unfold stB
     rw[if_neg h,jve (by rw[show most-1=j-1 by omega];exact hx) hm1 h]
    have hxi:=hid x (List.mem_filter.mp (List.mem_of_getElem? hx)).1
    have hwr:IntKind.i64.wrap (x.id+1)=x.id+1:=by rw[IntKind.wrap_i64];omega
    obtain⟨rb,ro,rfl,hc⟩:=hra.at (i:=j-1) (r:=x.cs) (by rw[List.getElem?_map,hx];rfl)
    have c0:wa.cell? ⟨rb,ro+(j-1)*6,none⟩=some (.int .i64 x.id):=hc 0 _ rfl
    have j1:(j:Int)-1=((j-1:Nat):Int):=by omega
    have j2:((j-1:Nat):Int)<(j:Int):=by omega
    have j3:(0:Int)<=((j-1:Nat):Int):=by omega
    have j4:((j:Int)==(NW:Int))=false:=by simp;omega
    obtain⟨x7,f7⟩:wa.cell? ⟨bb,7,none⟩=some (.int .i64 s.cur)/\wa.frozen? ⟨bb,7,none⟩=false:=by
     obtain⟨bb',lb',n',a1,a2,a3,a4,a5,a6,a8,a9,c1,c2,c3,c4,c5,c6,c8,c9,nm,wm,k,B,a,b,c,d,e,f,ca,cb,cc,cd,ce,cf,hxx,hMa,hna,hBa,_⟩:=hIj.ex
     injection hxx with hxx
     injection hxx with hxx
     subst hxx
     exact⟨hBa.cur,hBa.free 7⟩
    obtain⟨hI3,hF3⟩:=hIj.turn (x.id+1)
    have hx3:(wa.setCell ⟨bb,7,none⟩ (.int .i64 (x.id+1))).heap[w.heap.size]? =some (.cells #[.pointer (some ⟨bb,0,none⟩)] 33 (0,0)):=(hF3.keep _ _ _ hbx.out (by decide) (by decide)).trans hbx.out
    have hF3:=hFj.trans hF3
    clear hIj hFj hc hx hra
    go_wp2_with fail
    go_region
    have hI3:=hI3.below (jaa _)
    have HF3:=hidP ((hF3.below (jaa _)).below (jaa _))
    have hx3:(wa.setCell ⟨bb,7,none⟩ (.int .i64 (x.id+1))).drew.heap[w.heap.size]? =some (.cells #[.pointer (some ⟨bb,0,none⟩)] 33 (0,0)):=hx3
    clear hF3 x7 f7 c0
    generalize (wa.setCell ⟨bb,7,none⟩ (.int .i64 (x.id+1))).drew=w3 at *
    have y3:w3.cell? ⟨w.heap.size,0,none⟩=some (.pointer (some ⟨bb,0,none⟩)):=by simp[World.cell?,hx3]
    have y3d:w3.drew.cell? ⟨w.heap.size,0,none⟩=some (.pointer (some ⟨bb,0,none⟩)):=y3
    have hCl:=jf5 ⟨s.tx,s.now,s.was,x.id+1,s.vs,s.ix⟩ w00 w3.drew bb _ (hI3.below (jaa w3)) (by omega) hL
    clear hI3
    go_wp2_with fail
    go_region_held3 (fun w'=>w'.cell? ⟨w.heap.size,0,none⟩=some (.pointer (some ⟨bb,0,none⟩))) (repeat (first|with_reducible assumption|with_reducible (refine jqt ?_ nx1))) ((go_at_call 40;refine hCl.mono ?_;rintro q w9 hP9;obtain⟨p9,d9,u9,rfl,z9,f9,hI9,hF9⟩:=hP9.ex;have z0:w9.cell? ⟨w.heap.size,0,none⟩=some (.pointer (some ⟨bb,0,none⟩)):=(hP9.frm.cell hx3 (by decide) (by decide) 0).trans y3d))
    all_goals
     have HP:=hidP (And.intro (hI9.up (show K+2*j+30<=K+90 by omega)) (HF3.out.trans hF9))
     clear hI9 hF9 hP9 hCl
     go_wp2
     go_ret
     exact⟨by unfold folN;rw[HTK.out];rfl,by unfold folS;rw[HS2.out];exact HP.out.1,HP.out.2⟩
theorem jqh(s:Za)(most:Nat)(hm1:1<=most)(hm2:most<=1000)(hc:s.cur≠0)(w00 w:World)(xa:Option Addr)(K:Nat)(hK:Zb s w00 w xa K)(hKb:K<=800)(hL:(jai s.vs).length<=30)(hid:∀x∈jai s.vs,1<=x.id/\x.id<=1000000):
  Calls Tryz.prog 137 #[.pointer xa,.int .i64 most] w fun q w'=>q=.returned (.tuple #[.int .i64 (folN s most),.int .i64 0])/\Zb (folS s most) w00 w' xa (K+90)/\Frm w w':=by
 have hF2:=jof s most hm1 hm2 w00 w xa K hK hKb hL hid
 obtain⟨bb,c7,hx⟩:∃bb,w.cell? ⟨bb,7,none⟩=some (.int .i64 s.cur)/\xa=some ⟨bb,0,none⟩:=by
  obtain⟨bb,lb,n,a1,a2,a3,a4,a5,a6,a8,a9,c1,c2,c3,c4,c5,c6,c8,c9,nm,wm,k,B,a,b,c,d,e,f,ca,cb,cc,cd,ce,cf,hx,hM,hn,hBk,_⟩:=hK.ex
  exact⟨bb,hBk.cur,hx⟩
 subst hx
 clear hK hL hid
 have g1:¬(most:Int)<1:=by omega
 have g2:¬1000<(most:Int):=by omega
 have g3:(s.cur==0)=false:=by simpa using hc
 go_enter Tryz.func137,Tryz.ntmps137
 go_wp2_with fail
 refine hF2.mono ?_
 rintro q w2 ⟨rfl,hI,hF⟩
 have HP:=hidP (And.intro hI hF)
 clear hI hF
 go_wp2
 go_ret2
 exact⟨rfl,HP.out.1,HP.out.2⟩
end
end Go.Proofs.YtofdpfpdocpbpaaGreatDoor
