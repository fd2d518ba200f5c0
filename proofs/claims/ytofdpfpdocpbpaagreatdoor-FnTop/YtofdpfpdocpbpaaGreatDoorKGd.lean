/- Packed. -/
import Derived.Test.YtofdpfpdocpbpaaGreatDoorTabPd
import Derived.Test.YtofdpfpdocpbpaaGreatDoorCPd
import Derived.Deep.AppendLies
import Derived.Deep.RegionLaw
import Derived.Deep.RegionHeld3
import Derived.BigRegion
import Derived.Test.YtofdpfpdocpbpaaGreatDoorLVd
import Derived.Test.YtofdpfpdocpbpaaGreatDoorSLd
import Derived.Test.YtofdpfpdocpbpaaGreatDoorSId
import Derived.Test.YtofdpfpdocpbpaaGreatDoorAHd
import Derived.Test.YtofdpfpdocpbpaaGreatDoorSAd
import Derived.Test.YtofdpfpdocpbpaaGreatDoorZonePd
import Derived.Test.YtofdpfpdocpbpaaGreatDoorFiPd
import Derived.Lib.MinMax
import Derived.Test.YtofdpfpdocpbpaaGreatDoorKF2d
import Derived.Test.YtofdpfpdocpbpaaGreatDoorKEd
import Derived.Test.YtofdpfpdocpbpaaGreatDoorSDd
set_option maxRecDepth 20000
set_option maxHeartbeats 20000000
set_option linter.unusedSimpArgs false
namespace Go.Proofs.YtofdpfpdocpbpaaGreatDoor
section
open Go.RowKit Go.Sort
section
variable {P : Program} {ops : Array Oper} {Q : Exit -> Act -> World -> Prop} {md : Region.Mode} {S : World -> Prop} {fuel : Nat} {listed : Array Bool} {a : Act} {w : World} {o o2 o3 : Oper}
end
section
variable {w W W' : World} {a b c nr nz nl g : Nat} {rn ln : List Value} {d5 d9 v3 : Option Nat} {o8 o12 : Option (Option Addr × Nat)} {p : Option Addr} {cp : Nat}
end
def E1(W0 W:World)(g:Nat):Prop:=Below W0.heap.size W0 W/\W.heap[g]? =some (.cells #[] 148 (0,0))/\W0.heap.size<=g
def E2(w W0 W:World)(z:ZoneD)(p:Option Addr)(c:Nat):Prop:=Below W0.heap.size W0 W/\W.ownsRow (w.heap.size+1+1) 148 6 (.slice p z.eras.length c) z.eras.length (z.eras.map EraD.cs).flatten
def E3(w W0 W:World)(z:ZoneD)(p:Option Addr)(c g:Nat):Prop:=Below W0.heap.size W0 W/\W.ownsRow (w.heap.size+1+1) 148 6 (.slice p z.eras.length c) z.eras.length (z.eras.map EraD.cs).flatten/\W.heap[g]? =some (.cells #[.string z.name,.slice p z.eras.length c] 136 (0,0))
end
section
open Go.RowKit Go.Lib Go.Sort
theorem jwx{w:World}{base:Nat}{e:TypeId}{q:Nat}{a:Option Addr}{m cap:Nat}{n:Nat}{xs:List Value}(h:w.ownsRow base e q (.slice a m cap) n xs):n<=cap:=by
 rcases h.2 with⟨h1,h2⟩|⟨_,c,_,h1,_,_,h2,_⟩
 ·omega
 ·injection h1 with _ _ h1;omega
end
section
open Go.RowKit
theorem rel0_ok:Zr ⟨[],[],[]⟩:=⟨⟨⟨Nat.zero_le _,fun x hx=>by simp at hx⟩,⟨Nat.zero_le _,fun x hx=>by simp at hx⟩,⟨Nat.zero_le _,fun x hx=>by simp at hx⟩⟩,⟨Nat.zero_le _,Nat.zero_le _,Nat.zero_le _,fun x hx=>by simp at hx⟩,fun x hx=>by simp at hx⟩
theorem j4e:StoreOk zeroS:=⟨rel0_ok,rel0_ok,fun x hx=>by simp[zeroS]at hx,Nat.zero_le _,Nat.zero_le _⟩
end
section
open Go.RowKit Go.ChangeMaps Go.MapKept Go.WideMaps Go.Sort
def jdz(s:Za):List EventD:=(jai s.vs).filter (waitB s.cur)
def cntE(f g:EventD->Int × Bool)(l:List EventD):Nat:=(l.filter fun e=> !decide (f e=g e)).length
theorem jy8{f g:EventD->Int × Bool}{l:List EventD}{j:Nat}{x:EventD}(h:l[j]? =some x):cntE f g (l.take (j+1))=cntE f g (l.take j)+(if f x=g x then 0 else 1):=by
 unfold cntE
 rw[List.take_add_one,h,List.filter_append,List.length_append]
 by_cases e:f x=g x<;>simp[e]
theorem j23(f g:EventD->Int × Bool)(l:List EventD):cntE f g l<=l.length:=List.length_filter_le _ _
def j50(l:List EventD):Int:=match l.getLast? with
 |some e=>e.id
 |none=>0
def stB(s:Za)(m:Nat):Za:=if (jdz s).length<=m then setS s else⟨s.tx,s.now,s.was,j50 ((jdz s).take m)+1,s.vs,s.ix⟩
def folS(s:Za)(m:Nat):Za:=⟨s.tx,s.now,(stB s m).was,(stB s m).cur,s.vs,entF (momB (stB s m)) (jai s.vs)⟩
def folN(s:Za)(m:Nat):Nat:=cntE (momD s.was) (momD s.now) ((jdz s).take m)
theorem jwq(w:World):Zi w (.agg #[.slice none 0 0,.slice none 0 0,.slice none 0 0]) ⟨[],[],[]⟩:=⟨none,none,none,0,0,0,rfl,.inl rfl,.inl rfl,.inl rfl⟩
theorem rel0_right:relB ⟨[],[],[]⟩=true:=by decide
theorem jve{s:Za}{m:Nat}{x:EventD}(h:(jdz s)[m-1]? =some x)(h1:1<=m)(h2:¬(jdz s).length<=m):j50 ((jdz s).take m)=x.id:=by
 unfold j50
 have hl:=(List.getElem?_eq_some_iff.mp h).1
 rw[List.getLast?_eq_getElem?,List.length_take,List.getElem?_take,Nat.min_eq_left (by omega),if_pos (by omega),h]
theorem jzx(s:Za):(jdz s).length<=(jai s.vs).length:=List.length_filter_le _ _
end
section
open Go.RowKit Go.ChangeMaps Go.MapKept Go.WideMaps Go.Sort
theorem j0q{w:World}{a b c:Option Addr}{ca cb cc:Nat}:Zi w (.agg #[.slice a 0 ca,.slice b 0 cb,.slice c 0 cc]) ⟨[],[],[]⟩:=⟨a,b,c,ca,cb,cc,rfl,.inl rfl,.inl rfl,.inl rfl⟩
theorem jk5(w:World){a b c:Option Addr}{ca cb cc:Nat}:Ja w.heap.size w (.agg #[.slice a 0 ca,.slice b 0 cb,.slice c 0 cc]) ⟨[],[],[]⟩:=⟨Nat.le_refl _,fun _ _=>j0q⟩
theorem j3i:storeI zeroS=true:=by kernel_rfl
theorem Zb.opened{w w':World}{x:Option Addr}(h:BookC zeroS w w' x)(hE:Zm w):Zb zeroS w w' x 30:=by
 obtain⟨bb,lb,n,a1,a2,a3,a4,a5,a6,a8,a9,c1,c2,c3,c4,c5,c6,c8,c9,nm,wm,k,w0,B,a,b,c,d,e,f,ca,cb,cc,cd,ce,cf,rfl,hM,hn,hBk,hk,hb0,_,hN,hW,⟨n1,n2,n3,n4,n5,n6⟩,hr1,hr2,hC⟩:=h.ex
 obtain⟨M1,M2,M3,⟨m1,m2,m3,m4⟩,_,_,hRV,_⟩:=hC.parts
 have hV:=jb8 (hRV.below hBk.bel).own (show w.heap.size<=M2 by omega)
 rw[List.length_map]at hV
 refine⟨⟨bb,lb,n,a1,a2,a3,a4,a5,a6,a8,a9,c1,c2,c3,c4,c5,c6,c8,c9,nm,wm,k,w'.heap.size,a,b,c,d,e,f,ca,cb,cc,cd,ce,cf,rfl,hM,by omega,?_,hk,⟨n1,n2,n3,by have:=hb0.size;omega⟩,hV⟩,hE,⟨rel0_right,rel0_right⟩,⟨rel0_ok,rel0_ok⟩⟩
 exact⟨hb0.trans (hBk.bel.mono hb0.size),hBk.cur,hBk.live,hBk.n0,hBk.n1,hBk.n2,hBk.n3,hBk.w1,hBk.w2,hBk.w3,hBk.w4,hBk.cn,hBk.cw,hBk.ne,by have:=hBk.bn;have:=hb0.size;omega,by have:=hBk.bw;have:=hb0.size;omega,hBk.more,hBk.blk,jk5 w',jk5 w',n6,hBk.cn.lt,hBk.cw.lt,fun y hy=>by
  simp only[stR,List.mem_cons,List.not_mem_nil,or_false]at hy
  rcases hy with rfl|rfl
  ·exact jk5 w'
  ·exact jk5 w'⟩
theorem joc(w:World)(hE:Zm w):
  Calls Tryz.prog 20 #[.agg #[.int .i64 0,.slice none 0 0,.slice none 0 0,.slice none 0 0,.slice none 0 0,.slice none 0 0,.slice none 0 0,.int .i64 0,.slice none 0 0,.slice none 0 0]] w fun q w'=>(∃x,q=.returned (.tuple #[.pointer x,.bool true])/\Zb zeroS w w' x 30)/\Below w.heap.size w w':=
 (job j5a zeroS (.agg #[.int .i64 0,.slice none 0 0,.slice none 0 0,.slice none 0 0,.slice none 0 0,.slice none 0 0,.slice none 0 0,.int .i64 0,.slice none 0 0,.slice none 0 0]) w hE ⟨none,none,none,none,none,none,none,none,0,0,0,0,0,0,0,0,rfl,jwq w,jwq w,.inl rfl,.inl rfl,Nat.zero_le _,Nat.zero_le _⟩ j4e).mono fun q w' hP=>by
  obtain⟨x,hq,hB⟩:=hP.ex
  rw[j3i]at hq
  exact⟨⟨x,hq,Zb.opened (hB j3i) hE⟩,hP.bel⟩
end
section
open Go.RowKit Go.ChangeMaps Go.MapKept Go.WideMaps Go.Sort
theorem Zf.var{B:Nat}{Rs:List (Value × RelD)}{w0 w:World}{s:Za}{a1 a2 a3 a4 a5 a6 a8 a9:Option Addr}{c1 c2 c3 c4 c5 c6 c8 c9:Nat}{bb lb nm wm nn wn:Nat}{a b c d e f:Option Addr}{ca cb cc cd ce cf:Nat}(h:Zf B Rs (bkX s a1 a2 a3 a4 a5 a6 a8 a9 c1 c2 c3 c4 c5 c6 c8 c9) w0 w s bb lb nm wm nn wn a b c d e f ca cb cc cd ce cf):Zc w bb (bkL s a1 a2 a3 a4 a5 a6 a8 a9 c1 c2 c3 c4 c5 c6 c8 c9 lb nm wm a b c d e f ca cb cc cd ce cf):=fun i u hu=>match i,hu with
 |0,hu=>by cases hu;exact⟨(show w.cell? ⟨bb,0,none⟩=some (.int .i64 s.tx)from h.more (0,_) (by simp[bkX])),h.free 0⟩
 |1,hu=>by cases hu;exact⟨(show w.cell? ⟨bb,1,none⟩=some (.slice a1 s.now.rules.length c1)from h.more (1,_) (by simp[bkX])),h.free 1⟩
 |2,hu=>by cases hu;exact⟨(show w.cell? ⟨bb,2,none⟩=some (.slice a2 s.now.zones.length c2)from h.more (2,_) (by simp[bkX])),h.free 2⟩
 |3,hu=>by cases hu;exact⟨(show w.cell? ⟨bb,3,none⟩=some (.slice a3 s.now.links.length c3)from h.more (3,_) (by simp[bkX])),h.free 3⟩
 |4,hu=>by cases hu;exact⟨(show w.cell? ⟨bb,4,none⟩=some (.slice a4 s.was.rules.length c4)from h.more (4,_) (by simp[bkX])),h.free 4⟩
 |5,hu=>by cases hu;exact⟨(show w.cell? ⟨bb,5,none⟩=some (.slice a5 s.was.zones.length c5)from h.more (5,_) (by simp[bkX])),h.free 5⟩
 |6,hu=>by cases hu;exact⟨(show w.cell? ⟨bb,6,none⟩=some (.slice a6 s.was.links.length c6)from h.more (6,_) (by simp[bkX])),h.free 6⟩
 |7,hu=>by cases hu;exact⟨(show w.cell? ⟨bb,7,none⟩=some (.int .i64 s.cur)from h.cur),h.free 7⟩
 |8,hu=>by cases hu;exact⟨(show w.cell? ⟨bb,8,none⟩=some (.slice a8 s.vs.length c8)from h.more (8,_) (by simp[bkX])),h.free 8⟩
 |9,hu=>by cases hu;exact⟨(show w.cell? ⟨bb,9,none⟩=some (.slice a9 s.ix.length c9)from h.more (9,_) (by simp[bkX])),h.free 9⟩
 |10,hu=>by cases hu;exact⟨(show w.cell? ⟨bb,10,none⟩=some (.map (some lb))from h.live),h.free 10⟩
 |11,hu=>by cases hu;exact⟨(show w.cell? ⟨bb,11,none⟩=some (.slice a s.now.rules.length ca)from h.n0),h.free 11⟩
 |12,hu=>by cases hu;exact⟨(show w.cell? ⟨bb,12,none⟩=some (.slice b s.now.zones.length cb)from h.n1),h.free 12⟩
 |13,hu=>by cases hu;exact⟨(show w.cell? ⟨bb,13,none⟩=some (.slice c s.now.links.length cc)from h.n2),h.free 13⟩
 |14,hu=>by cases hu;exact⟨(show w.cell? ⟨bb,14,none⟩=some (.map (some nm))from h.n3),h.free 14⟩
 |15,hu=>by cases hu;exact⟨(show w.cell? ⟨bb,15,none⟩=some (.slice d s.was.rules.length cd)from h.w1),h.free 15⟩
 |16,hu=>by cases hu;exact⟨(show w.cell? ⟨bb,16,none⟩=some (.slice e s.was.zones.length ce)from h.w2),h.free 16⟩
 |17,hu=>by cases hu;exact⟨(show w.cell? ⟨bb,17,none⟩=some (.slice f s.was.links.length cf)from h.w3),h.free 17⟩
 |18,hu=>by cases hu;exact⟨(show w.cell? ⟨bb,18,none⟩=some (.map (some wm))from h.w4),h.free 18⟩
 |n+19,hu=>by simp[bkL]at hu
theorem Zb.written {s s':Za} {w00 w w':World} {bb lb n:Nat} {a8 a9 a1' a2' a3' a4' a5' a6':Option Addr} {c8 c9 c1' c2' c3' c4' c5' c6':Nat} {nm wm k B nm' wm' k' K K':Nat} {a b c d e f a' b' c' d' e' f':Option Addr} {ca cb cc cd ce cf ca' cb' cc' cd' ce' cf':Nat} {Rs:List (Value × RelD)} {X:List (Nat × Value)} (h:Zf B Rs X w00 w s bb lb nm wm k k a b c d e f ca cb cc cd ce cf) (hM:Zg w lb n (jbk s.vs)) (hn:n<=1048576+K) (n3:w00.heap.size<=lb) (n5:w00.heap.size<=bb) (hV:w.ownsRow w00.heap.size 101 8 (.slice a8 s.vs.length c8) s.vs.length (s.vs.map VersionD.cs).flatten) (hE:Zm w00)
  (hg:w.grownBy w' (some bb)) (hblk:∃cs,w'.heap[bb]? =some (Obj.cells cs 85 (0,0))) (K2:Zc w' bb (bkL s' a1' a2' a3' a4' a5' a6' a8 a9 c1' c2' c3' c4' c5' c6' c8 c9 lb nm' wm' a' b' c' d' e' f' ca' cb' cc' cd' ce' cf')) (hvs:s'.vs=s.vs) (cn:Ze w' nm' k' s'.now) (cw:Ze w' wm' k' s'.was) (hne:nm'≠wm') (h1:w00.heap.size<=nm') (h2:w00.heap.size<=wm') (h3:nm'≠lb) (h4:wm'≠lb) (hk:k'<=K') (hKK:K<=K') (rn:Ja w'.heap.size w' (.agg #[.slice a' s'.now.rules.length ca',.slice b' s'.now.zones.length cb',.slice c' s'.now.links.length cc']) s'.now) (rw':Ja w'.heap.size w' (.agg #[.slice d' s'.was.rules.length cd',.slice e' s'.was.zones.length ce',.slice f' s'.was.links.length cf']) s'.was) (r1:Ja w'.heap.size w' (.agg #[.slice a1' s'.now.rules.length c1',.slice a2' s'.now.zones.length c2',.slice a3' s'.now.links.length c3']) s'.now) (r2:Ja w'.heap.size w' (.agg #[.slice a4' s'.was.rules.length c4',.slice a5' s'.was.zones.length c5',.slice a6' s'.was.links.length c6']) s'.was) (rb:relB s'.now=true/\relB s'.was=true) (ro:Zr s'.now/\Zr s'.was):Zb s' w00 w' (some ⟨bb,0,none⟩) K':=by
 have hbl:bb<w'.heap.size:=qbl (K2.c 0 rfl)
 have hbn:bb≠lb:=jc0 (jbv hM) h.cur
 have hA:=Zc.book K2 (jq5 h.bel hg n5) cn cw hne h1 h2 hblk
 refine⟨⟨bb,lb,n,a1',a2',a3',a4',a5',a6',a8,a9,c1',c2',c3',c4',c5',c6',c8,c9,nm',wm',k',w'.heap.size,a',b',c',d',e',f',ca',cb',cc',cd',ce',cf',rfl,?_,by omega,?_,hk,⟨h3,h4,n3,n5⟩,?_⟩,hE,rb,ro⟩
 ·rw[hvs];exact hM.kept hg (by simpa using Ne.symm hbn)
 ·exact⟨hA.bel,hA.cur,hA.live,hA.n0,hA.n1,hA.n2,hA.n3,hA.w1,hA.w2,hA.w3,hA.w4,hA.cn,hA.cw,hA.ne,hA.bn,hA.bw,hA.more,hA.blk,rn,rw',hbl,cn.lt,cw.lt,fun y hy=>by
   simp only[stR,List.mem_cons,List.not_mem_nil,or_false]at hy
   rcases hy with rfl|rfl
   ·exact r1
   ·exact r2⟩
 ·rw[hvs];exact World.ownsRow.kept hV hg (.inr (Ne.symm (jbj hV h.blk (by decide))))
theorem Ja.grownB{B g:Nat}{w w':World}{v:Value}{r:RelD}(h:Ja B w v r)(hg:w.grownBy w' (some g))(hb:∃cs,w.heap[g]? =some (Obj.cells cs 85 (0,0))):Ja w'.heap.size w' v r:=(h.kept (Zp.grown h.le hg (.inr (jic hb))) hg.size).mono (Nat.le_trans h.le hg.size) (Nat.le_refl _)
theorem jm2{w w':World}{g:Nat}{row:Option Nat}{t:TypeId}(h:∃cs,w.heap[g]? =some (Obj.cells cs t (0,0)))(hg:w.grownBy w' row)(hn:some g≠row):∃cs,w'.heap[g]? =some (Obj.cells cs t (0,0)):=by
 obtain⟨cs,hc⟩:=h
 exact⟨cs,(hg.block g (Array.getElem?_eq_some_iff.mp hc).1 hn).trans hc⟩
theorem jb0{w:World}{b:Nat}(h:∃cs,w.heap[b]? =some (Obj.cells cs 85 (0,0))):∀cs,w.heap[b]? ≠some (Obj.cells cs 304 (0,0)):=fun cs hc=>by
 obtain⟨ds,hd⟩:=h
 rw[hd]at hc
 injection hc with hc
 injection hc with _ hc _
 exact absurd hc (by decide)
theorem jmk{a b c:World}{bb:Nat}(h:Frm a b)(hg:b.grownBy c (some bb))(hb:∃cs,b.heap[bb]? =some (Obj.cells cs 85 (0,0))):Frm a c:=h.typed hg fun cs t hc=>.inl (by
 obtain⟨ds,hd⟩:=hb
 rw[hd]at hc
 injection hc with hc
 injection hc with _ hc _
 exact hc.symm)
theorem jhb(s:Za)(w00 w:World)(x:Option Addr)(K:Nat)(hK:Zb s w00 w x K):
  Calls Tryz.prog 227 #[.pointer x] w fun q w'=>q=.returned (.tuple #[])/\Zb (setS s) w00 w' x K/\Frm w w':=by
 obtain⟨bb,lb,n,a1,a2,a3,a4,a5,a6,a8,a9,c1,c2,c3,c4,c5,c6,c8,c9,nm,wm,k,B,a,b,c,d,e,f,ca,cb,cc,cd,ce,cf,rfl,hM,hn,h,hk,⟨n1,n2,n3,n5⟩,hOV⟩:=hK.ex
 have HK:=hidP (And.intro hK.env (And.intro hK.rb hK.ro))
 have Kv:=h.var
 have x7:w.cell? ⟨bb,7,none⟩=some (.int .i64 s.cur):=Kv.c 7 rfl
 have f7:=h.free 7
 have hlt:bb<w.heap.size:=qbl h.cur
 have hck:=fun W=>jd4 ⟨[],[],[]⟩ none none none 0 0 0 W
 simp only[List.length_nil]at hck
 have HA:Hid (∀w2 M,Below w.heap.size (w.setCell ⟨bb,7,none⟩ (.int .i64 0)) w2->Ze w2 M 0 ⟨[],[],[]⟩->w.heap.size<=M->Zb (setS s) w00 (((((((w2.setCell ⟨bb,4,none⟩ (.slice none 0 0)).setCell ⟨bb,5,none⟩ (.slice none 0 0)).setCell ⟨bb,6,none⟩ (.slice none 0 0)).setCell ⟨bb,15,none⟩ (.slice none 0 0)).setCell ⟨bb,16,none⟩ (.slice none 0 0)).setCell ⟨bb,17,none⟩ (.slice none 0 0)).setCell ⟨bb,18,none⟩ (.map (some M))) (some ⟨bb,0,none⟩) K/\Frm w (((((((w2.setCell ⟨bb,4,none⟩ (.slice none 0 0)).setCell ⟨bb,5,none⟩ (.slice none 0 0)).setCell ⟨bb,6,none⟩ (.slice none 0 0)).setCell ⟨bb,15,none⟩ (.slice none 0 0)).setCell ⟨bb,16,none⟩ (.slice none 0 0)).setCell ⟨bb,17,none⟩ (.slice none 0 0)).setCell ⟨bb,18,none⟩ (.map (some M)))):=fun w2 M b2 hc hM2=>by
  have b2':Below (w.setCell ⟨bb,7,none⟩ (.int .i64 0)).heap.size (w.setCell ⟨bb,7,none⟩ (.int .i64 0)) w2:=by rw[World.size_setCell];exact b2
  have T1:=jah (b:=bb) (j:=7) (v:=.int .i64 0) h.blk
  have T2:=jm2 T1 (jag b2') (by simp)
  have G:=(jaj (jaj (jaj (jaj (jaj (jaj (ja1 w2 bb 4 (.slice none 0 0)) 5 (.slice none 0 0)) 6 (.slice none 0 0)) 15 (.slice none 0 0)) 16 (.slice none 0 0)) 17 (.slice none 0 0)) 18 (.map (some M)))
  have T3:∃cs,(((((((w2.setCell ⟨bb,4,none⟩ (.slice none 0 0)).setCell ⟨bb,5,none⟩ (.slice none 0 0)).setCell ⟨bb,6,none⟩ (.slice none 0 0)).setCell ⟨bb,15,none⟩ (.slice none 0 0)).setCell ⟨bb,16,none⟩ (.slice none 0 0)).setCell ⟨bb,17,none⟩ (.slice none 0 0)).setCell ⟨bb,18,none⟩ (.map (some M))).heap[bb]? =some (Obj.cells cs 85 (0,0)):=jah (jah (jah (jah (jah (jah (jah T2))))))
  have V:=jtg (M:=M) ((h.var.set (j:=7) (.int .i64 0)).below b2')
  have gr:=((ja1 w bb 7 (.int .i64 0)).andThen (jag b2') (fun _ h=>by cases h)).andThen G (fun _ h=>.inr h)
  have hMs:=hc.lt
  have hnb:=h.ne_n
  have hCM:=(hc.grown G (by omega) (jb0 T2))
  generalize ((((((w2.setCell ⟨bb,4,none⟩ (.slice none 0 0)).setCell ⟨bb,5,none⟩ (.slice none 0 0)).setCell ⟨bb,6,none⟩ (.slice none 0 0)).setCell ⟨bb,15,none⟩ (.slice none 0 0)).setCell ⟨bb,16,none⟩ (.slice none 0 0)).setCell ⟨bb,17,none⟩ (.slice none 0 0)).setCell ⟨bb,18,none⟩ (.map (some M))=W at *
  have hnl:=h.cn.lt
  have hll:=hM.lt
  have hb0:=h.bel.size
  exact⟨Zb.written h hM hn n3 n5 hOV HK.out.1 gr T3 V rfl (h.cn.grown gr (Ne.symm hnb) (jb0 h.blk)) (hCM.mono (Nat.zero_le k)) (by omega) h.bn (by omega) n1 (by omega) hk (Nat.le_refl _) (h.rn.grownB gr h.blk) (jk5 W) ((h.rs (_,s.now) (List.mem_cons_self ..)).grownB gr h.blk) (jk5 W) ⟨HK.out.2.1.1,rel0_right⟩ ⟨HK.out.2.2.1,rel0_ok⟩,jmk (Frm.refl w) gr h.blk⟩
 have hs1:(w.setCell ⟨bb,7,none⟩ (.int .i64 0)).heap.size=w.heap.size:=by simp
 have K1:=Kv.set (j:=7) (.int .i64 0)
 clear Kv h hM hOV hK
 go_enter Tryz.func227,Tryz.ntmps227
 go_wp2_with fail
 generalize w.setCell ⟨bb,7,none⟩ (.int .i64 0)=W1 at *
 refine(hck W1).mono ?_
 rintro q w2 hP
 have hq:=hP.ex
 subst hq
 have K2:=K1.below hP.bel
 have y4:w2.cell? ⟨bb,4,none⟩=some (.slice a4 s.was.rules.length c4):=K2.c 4 rfl
 have z4:w2.frozen? ⟨bb,4,none⟩=false:=K2.f 4 (u:=.slice a4 s.was.rules.length c4) rfl
 have y5:w2.cell? ⟨bb,5,none⟩=some (.slice a5 s.was.zones.length c5):=K2.c 5 rfl
 have z5:w2.frozen? ⟨bb,5,none⟩=false:=K2.f 5 (u:=.slice a5 s.was.zones.length c5) rfl
 have y6:w2.cell? ⟨bb,6,none⟩=some (.slice a6 s.was.links.length c6):=K2.c 6 rfl
 have z6:w2.frozen? ⟨bb,6,none⟩=false:=K2.f 6 (u:=.slice a6 s.was.links.length c6) rfl
 have y15:w2.cell? ⟨bb,15,none⟩=some (.slice d s.was.rules.length cd):=K2.c 15 rfl
 have z15:w2.frozen? ⟨bb,15,none⟩=false:=K2.f 15 (u:=.slice d s.was.rules.length cd) rfl
 have y16:w2.cell? ⟨bb,16,none⟩=some (.slice e s.was.zones.length ce):=K2.c 16 rfl
 have z16:w2.frozen? ⟨bb,16,none⟩=false:=K2.f 16 (u:=.slice e s.was.zones.length ce) rfl
 have y17:w2.cell? ⟨bb,17,none⟩=some (.slice f s.was.links.length cf):=K2.c 17 rfl
 have z17:w2.frozen? ⟨bb,17,none⟩=false:=K2.f 17 (u:=.slice f s.was.links.length cf) rfl
 have y18:w2.cell? ⟨bb,18,none⟩=some (.map (some wm)):=K2.c 18 rfl
 have z18:w2.frozen? ⟨bb,18,none⟩=false:=K2.f 18 (u:=.map (some wm)) rfl
 have HP:=hidP (HA.out w2 (w.heap.size+1+1) (by rw[<- hs1];exact hP.bel) (by rw[<- hs1];exact hP.cache) (by omega))
 clear K1 K2 hck HA hP x7 f7
 go_wp2
 exact bodyPost_end (results_none Tryz.results227 _ _ _) rfl ⟨rfl,HP.out⟩
end
section
open Go.RowKit Go.ChangeMaps Go.MapKept Go.WideMaps Go.Sort
def jph(s:Za)(R:RelD):Za:=⟨s.tx,R,s.now,1,s.vs,s.ix⟩
def insS(s:Za)(R:RelD):Za:=if (jai s.vs).length=0 then setS (jph s R)else jph s R
theorem jqt{w:World}{b g j i:Nat}{v u:Value}(h:w.cell? ⟨g,i,none⟩=some u)(hne:b≠g):(w.setCell ⟨b,j,none⟩ v).cell? ⟨g,i,none⟩=some u:=(ja1 w b j v).cell (a:=⟨g,i,none⟩) h (by simpa using Ne.symm hne)
theorem jnz(s:Za)(R:RelD)(ra rb rl:Option Addr)(rca rcb rcl:Nat)(w00 w:World)(x:Option Addr)(K:Nat)(hK:Zb s w00 w x K)(hR:Ja w.heap.size w (.agg #[.slice ra R.rules.length rca,.slice rb R.zones.length rcb,.slice rl R.links.length rcl]) R)(hRb:relB R=true)(hRo:Zr R):
  Calls Tryz.prog 181 #[.pointer x,.agg #[.slice ra R.rules.length rca,.slice rb R.zones.length rcb,.slice rl R.links.length rcl]] w fun q w'=>q=.returned (.tuple #[])/\Zb (insS s R) w00 w' x K/\Frm w w':=by
 have b1:=qal w (.cells #[.slice ra R.rules.length rca,.slice rb R.zones.length rcb,.slice rl R.links.length rcl] 56)
 have R1:=Zc.new w [.slice ra R.rules.length rca,.slice rb R.zones.length rcb,.slice rl R.links.length rcl] 56
 have hK1:=hK.below b1
 have hR1:=hR.below b1
 have hF1:=Frm.of_below b1
 have hs1:(w.alloc (.cells #[.slice ra R.rules.length rca,.slice rb R.zones.length rcb,.slice rl R.links.length rcl] 56)).heap.size=w.heap.size+1:=by simp
 have hbw:∀bb,x=some ⟨bb,0,none⟩->bb<w.heap.size:=fun bb hx=>by
  obtain⟨bb',lb,n,a1,a2,a3,a4,a5,a6,a8,a9,c1,c2,c3,c4,c5,c6,c8,c9,nm,wm,k,B,a,b,c,d,e,f,ca,cb,cc,cd,ce,cf,hx',hM,hn,h,hk,hne,hOV⟩:=hK.ex
  rw[hx']at hx
  injection hx with hx
  injection hx with hx
  rw[<- hx]
  exact qbl h.cur
 have HK0:=hidP (And.intro hK.env (And.intro hK.rb hK.ro))
 clear hK
 obtain⟨w1,hw1⟩:∃x,w.alloc (.cells #[.slice ra R.rules.length rca,.slice rb R.zones.length rcb,.slice rl R.links.length rcl] 56)=x:=⟨_,rfl⟩
 rw[hw1]at R1 hK1 hR1 hF1 hs1
 clear b1
 obtain⟨bb,lb,n,a1,a2,a3,a4,a5,a6,a8,a9,c1,c2,c3,c4,c5,c6,c8,c9,nm,wm,k,B,a,b,c,d,e,f,ca,cb,cc,cd,ce,cf,rfl,hM,hn,h,hk,⟨n1,n2,n3,n5⟩,hOV⟩:=hK1.ex
 have hbw:=hbw bb rfl
 have Kv:=h.var
 have V2:=((((((((Kv.set (j:=4) (.slice a1 s.now.rules.length c1)).set (j:=5) (.slice a2 s.now.zones.length c2)).set (j:=6) (.slice a3 s.now.links.length c3)).set (j:=15) (.slice a s.now.rules.length ca)).set (j:=16) (.slice b s.now.zones.length cb)).set (j:=17) (.slice c s.now.links.length cc)).set (j:=18) (.map (some nm))))
 have G2:=(jaj (jaj (jaj (jaj (jaj (jaj (ja1 w1 bb 4 (.slice a1 s.now.rules.length c1)) 5 (.slice a2 s.now.zones.length c2)) 6 (.slice a3 s.now.links.length c3)) 15 (.slice a s.now.rules.length ca)) 16 (.slice b s.now.zones.length cb)) 17 (.slice c s.now.links.length cc)) 18 (.map (some nm)))
 have y1:w1.cell? ⟨bb,1,none⟩=some (.slice a1 s.now.rules.length c1):=Kv.c 1 rfl
 have y2:w1.cell? ⟨bb,2,none⟩=some (.slice a2 s.now.zones.length c2):=Kv.c 2 rfl
 have y3:w1.cell? ⟨bb,3,none⟩=some (.slice a3 s.now.links.length c3):=Kv.c 3 rfl
 have y11:w1.cell? ⟨bb,11,none⟩=some (.slice a s.now.rules.length ca):=Kv.c 11 rfl
 have y12:w1.cell? ⟨bb,12,none⟩=some (.slice b s.now.zones.length cb):=Kv.c 12 rfl
 have y13:w1.cell? ⟨bb,13,none⟩=some (.slice c s.now.links.length cc):=Kv.c 13 rfl
 have y14:w1.cell? ⟨bb,14,none⟩=some (.map (some nm)):=Kv.c 14 rfl
 have y4:w1.cell? ⟨bb,4,none⟩=some (.slice a4 s.was.rules.length c4):=Kv.c 4 rfl
 have y5:w1.cell? ⟨bb,5,none⟩=some (.slice a5 s.was.zones.length c5):=Kv.c 5 rfl
 have y6:w1.cell? ⟨bb,6,none⟩=some (.slice a6 s.was.links.length c6):=Kv.c 6 rfl
 have y15:w1.cell? ⟨bb,15,none⟩=some (.slice d s.was.rules.length cd):=Kv.c 15 rfl
 have y16:w1.cell? ⟨bb,16,none⟩=some (.slice e s.was.zones.length ce):=Kv.c 16 rfl
 have y17:w1.cell? ⟨bb,17,none⟩=some (.slice f s.was.links.length cf):=Kv.c 17 rfl
 have y18:w1.cell? ⟨bb,18,none⟩=some (.map (some wm)):=Kv.c 18 rfl
 have z4:=h.free 4
 have z5:=h.free 5
 have z6:=h.free 6
 have z15:=h.free 15
 have z16:=h.free 16
 have z17:=h.free 17
 have z18:=h.free 18
 have hS1:=hidP (And.intro h (And.intro hM hOV))
 have HV2:=hidP V2
 have HG2:=hidP G2
 have HR1:=hidP (And.intro R1 hR1)
 have HF1:=hidP hF1
 clear h hM hOV Kv V2 G2 R1 hR1 hF1 hK1
 go_enter Tryz.func181,Tryz.ntmps181
 go_wp2_with fail
 clear hw1
 go_region
 have T1:∃cs,w1.heap[bb]? =some (Obj.cells cs 85 (0,0)):=hS1.out.1.blk
 have V3:=HV2.out.below (jaa _)
 have G3:=HG2.out.trans (jb4 (jaa _) bb)
 have T2:=hidP (jah (b:=bb) (j:=18) (v:=.map (some nm)) (jah (b:=bb) (j:=17) (v:=.slice c s.now.links.length cc) (jah (b:=bb) (j:=16) (v:=.slice b s.now.zones.length cb) (jah (b:=bb) (j:=15) (v:=.slice a s.now.rules.length ca) (jah (b:=bb) (j:=6) (v:=.slice a3 s.now.links.length c3) (jah (b:=bb) (j:=5) (v:=.slice a2 s.now.zones.length c2) (jah (b:=bb) (j:=4) (v:=.slice a1 s.now.rules.length c1) T1)))))))
 have hl1:w.heap.size<w1.heap.size:=by omega
 have R3:=HR1.out.1.app G3 (by simp;omega)
 clear y1 y2 y3 y4 y5 y6 y11 y12 y13 y14 y15 y16 y17 y18 z4 z5 z6 z15 z16 z17 z18 HV2 HG2
 generalize ((((((w1.setCell ⟨bb,4,none⟩ (.slice a1 s.now.rules.length c1)).setCell ⟨bb,5,none⟩ (.slice a2 s.now.zones.length c2)).setCell ⟨bb,6,none⟩ (.slice a3 s.now.links.length c3)).setCell ⟨bb,15,none⟩ (.slice a s.now.rules.length ca)).setCell ⟨bb,16,none⟩ (.slice b s.now.zones.length cb)).setCell ⟨bb,17,none⟩ (.slice c s.now.links.length cc)).setCell ⟨bb,18,none⟩ (.map (some nm))=wq at *
 have T3:∃cs,wq.drew.heap[bb]? =some (Obj.cells cs 85 (0,0)):=T2.out
 generalize wq.drew=w2 at *
 clear T2
 have e0:w2.cell? ⟨w.heap.size,0,none⟩=some (.slice ra R.rules.length rca):=R3.c 0 rfl
 have e1:w2.cell? ⟨w.heap.size,1,none⟩=some (.slice rb R.zones.length rcb):=R3.c 1 rfl
 have e2:w2.cell? ⟨w.heap.size,2,none⟩=some (.slice rl R.links.length rcl):=R3.c 2 rfl
 have hbn:bb≠w.heap.size:=by omega
 have d0:w2.drew.cell? ⟨w.heap.size,0,none⟩=some (.slice ra R.rules.length rca):=e0
 have d1:w2.drew.cell? ⟨w.heap.size,1,none⟩=some (.slice rb R.zones.length rcb):=e1
 have d2:w2.drew.cell? ⟨w.heap.size,2,none⟩=some (.slice rl R.links.length rcl):=e2
 have hck:=jd4 R ra rb rl rca rcb rcl w2.drew
 have HV3:=hidP V3
 clear V3
 go_wp2_with fail
 go_region_held3 (fun w'=>w'.cell? ⟨w.heap.size,0,none⟩=some (.slice ra R.rules.length rca)/\w'.cell? ⟨w.heap.size,1,none⟩=some (.slice rb R.zones.length rcb)/\w'.cell? ⟨w.heap.size,2,none⟩=some (.slice rl R.links.length rcl)) (refine⟨?_,?_,?_⟩<;>repeat (first|with_reducible assumption|with_reducible (refine jqt ?_ hbn))) ((go_at_call 38;refine hck.mono ?_;rintro q w3 hP;have hq:=hP.ex;subst hq;have t0:=jab (hP.bel) e0;have t1:=jab (hP.bel) e1;have t2:=jab (hP.bel) e2;have V4:=HV3.out.below ((jaa w2).trans hP.bel);have s1:w3.cell? ⟨bb,1,none⟩=some (.slice a1 s.now.rules.length c1):=V4.c 1 rfl;have q1:w3.frozen? ⟨bb,1,none⟩=false:=V4.f 1 (u:=.slice a1 s.now.rules.length c1) rfl;have s2:w3.cell? ⟨bb,2,none⟩=some (.slice a2 s.now.zones.length c2):=V4.c 2 rfl;have q2:w3.frozen? ⟨bb,2,none⟩=false:=V4.f 2 (u:=.slice a2 s.now.zones.length c2) rfl;have s3:w3.cell? ⟨bb,3,none⟩=some (.slice a3 s.now.links.length c3):=V4.c 3 rfl;have q3:w3.frozen? ⟨bb,3,none⟩=false:=V4.f 3 (u:=.slice a3 s.now.links.length c3) rfl;have s11:w3.cell? ⟨bb,11,none⟩=some (.slice a s.now.rules.length ca):=V4.c 11 rfl;have q11:w3.frozen? ⟨bb,11,none⟩=false:=V4.f 11 (u:=.slice a s.now.rules.length ca) rfl;have s12:w3.cell? ⟨bb,12,none⟩=some (.slice b s.now.zones.length cb):=V4.c 12 rfl;have q12:w3.frozen? ⟨bb,12,none⟩=false:=V4.f 12 (u:=.slice b s.now.zones.length cb) rfl;have s13:w3.cell? ⟨bb,13,none⟩=some (.slice c s.now.links.length cc):=V4.c 13 rfl;have q13:w3.frozen? ⟨bb,13,none⟩=false:=V4.f 13 (u:=.slice c s.now.links.length cc) rfl;have s14:w3.cell? ⟨bb,14,none⟩=some (.map (some nm)):=V4.c 14 rfl;have q14:w3.frozen? ⟨bb,14,none⟩=false:=V4.f 14 (u:=.map (some nm)) rfl))
 clear t0 t1 t2 s1 q1 s2 q2 s3 q3 s11 q11 s12 q12 s13 q13 s14 q14 e0 e1 e2 d0 d1 d2 hck
 have V5:=((((((((V4.set (j:=1) (.slice ra R.rules.length rca)).set (j:=2) (.slice rb R.zones.length rcb)).set (j:=3) (.slice rl R.links.length rcl)).set (j:=11) (.slice ra R.rules.length rca)).set (j:=12) (.slice rb R.zones.length rcb)).set (j:=13) (.slice rl R.links.length rcl)).set (j:=14) (.map (some (w2.drew.heap.size+1+1)))))
 have G5:=(jaj (jaj (jaj (jaj (jaj (jaj (ja1 w3 bb 1 (.slice ra R.rules.length rca)) 2 (.slice rb R.zones.length rcb)) 3 (.slice rl R.links.length rcl)) 11 (.slice ra R.rules.length rca)) 12 (.slice rb R.zones.length rcb)) 13 (.slice rl R.links.length rcl)) 14 (.map (some (w2.drew.heap.size+1+1))))
 have b23:=(jaa w2).trans hP.bel
 have T4:=jm2 T3 (jag b23) (by simp)
 have T5:=hidP (jah (b:=bb) (j:=14) (v:=.map (some (w2.drew.heap.size+1+1))) (jah (b:=bb) (j:=13) (v:=.slice rl R.links.length rcl) (jah (b:=bb) (j:=12) (v:=.slice rb R.zones.length rcb) (jah (b:=bb) (j:=11) (v:=.slice ra R.rules.length rca) (jah (b:=bb) (j:=3) (v:=.slice rl R.links.length rcl) (jah (b:=bb) (j:=2) (v:=.slice rb R.zones.length rcb) (jah (b:=bb) (j:=1) (v:=.slice ra R.rules.length rca) T4)))))))
 have hd:w2.drew.heap.size=w2.heap.size:=rfl
 have hcc:=hP.cache
 rw[hd]at V5 G5 T5 hcc
 have hw12:=G3.size
 have hw3:w2.heap.size+1+1<w3.heap.size:=hcc.lt
 have hCM:=hcc.grown G5 (by omega) (jb0 T4)
 have G15:=(G3.trans (jb4 b23 bb)).andThen G5 (fun _ h=>.inr h)
 generalize ((((((w3.setCell ⟨bb,1,none⟩ (.slice ra R.rules.length rca)).setCell ⟨bb,2,none⟩ (.slice rb R.zones.length rcb)).setCell ⟨bb,3,none⟩ (.slice rl R.links.length rcl)).setCell ⟨bb,11,none⟩ (.slice ra R.rules.length rca)).setCell ⟨bb,12,none⟩ (.slice rb R.zones.length rcb)).setCell ⟨bb,13,none⟩ (.slice rl R.links.length rcl)).setCell ⟨bb,14,none⟩ (.map (some (w2.heap.size+1+1)))=wr at *
 have T6:=T5.out
 have r7:wr.cell? ⟨bb,7,none⟩=some (.int .i64 s.cur):=V5.c 7 rfl
 have z7:wr.frozen? ⟨bb,7,none⟩=false:=V5.f 7 (u:=.int .i64 s.cur) rfl
 have V7:=V5.set (j:=7) (.int .i64 1)
 have T7:=jah (b:=bb) (j:=7) (v:=.int .i64 1) T6
 have hCM7:=hCM.grown (ja1 wr bb 7 (.int .i64 1)) (by omega) (jb0 T6)
 have G17:=G15.andThen (ja1 wr bb 7 (.int .i64 1)) (fun _ h=>.inr h)
 have HB:Hid (Zb (jph s R) w00 (wr.setCell ⟨bb,7,none⟩ (.int .i64 1)) (some ⟨bb,0,none⟩) K/\Frm w (wr.setCell ⟨bb,7,none⟩ (.int .i64 1))):=by
  obtain⟨h,hM,hOV⟩:=hS1.out
  obtain⟨hE,hrb,hro⟩:=HK0.out
  have hnl:=h.cn.lt
  have hll:=hM.lt
  have hb0:=h.bel.size
  have hnb:=h.bn
  have hRS:=HR1.out.2
  exact⟨Zb.written h hM hn n3 n5 hOV hE G17 T7 V7 rfl (hCM7.mono (Nat.zero_le k)) (h.cn.grown G17 (Ne.symm h.ne_n) (jb0 h.blk)) (by omega) (by omega) (by omega) (by omega) n1 hk (Nat.le_refl _) ((hRS.mono (by omega) (Nat.le_refl _)).grownB G17 h.blk) (h.rn.grownB G17 h.blk) ((hRS.mono (by omega) (Nat.le_refl _)).grownB G17 h.blk) ((h.rs (_,s.now) (List.mem_cons_self ..)).grownB G17 h.blk) ⟨hRb,hrb.1⟩ ⟨hRo,hro.1⟩,jmk HF1.out G17 h.blk⟩
 have r10:wr.cell? ⟨bb,10,none⟩=some (.map (some lb)):=V5.c 10 rfl
 have hT:∀ty,(Builtin.len_ #[75] ty #[.map (some lb)]).run Tryz.prog (wr.setCell ⟨bb,7,none⟩ (.int .i64 1))=.ok (.int .i64 (jai s.vs).length) (wr.setCell ⟨bb,7,none⟩ (.int .i64 1)):=fun ty=>by
  obtain⟨h,hM,hOV⟩:=hS1.out
  obtain⟨D,d1,d2⟩:=(hM.kept G17 (by simpa using Ne.symm (jc0 (jbv hM) h.cur))).own
  rw[<- jdo d1 d2 (jbf s.vs) (jck s.vs.length)]
  exact d1.len mapT ty
 have hst:=jhb (jph s R) w00 (wr.setCell ⟨bb,7,none⟩ (.int .i64 1)) (some ⟨bb,0,none⟩) K HB.out.1
 have x10:(wr.setCell ⟨bb,7,none⟩ (.int .i64 1)).cell? ⟨bb,10,none⟩=some (.map (some lb)):=V7.c 10 rfl
 clear V4 V5 V7 T5 T6 T7 T4 T3 T1 hCM hCM7 hcc G15 G17 G5 G3 R3 HV3 hS1 HR1 HF1 HK0 hP r10
 by_cases hz:(jai s.vs).length=0
 ·have hI:=hidP (show insS s R=setS (jph s R)from if_pos hz)
  have h0:(((jai s.vs).length:Int)==0)=true:=by rw[beq_iff_eq];omega
  have HF:=hidP HB.out.2
  go_wp2_with fail
  refine hst.mono ?_
  rintro q w5 ⟨rfl,hI5,hF5⟩
  have HP:=hidP (And.intro hI5 (HF.out.trans hF5))
  clear hst hT x10 hI5 hF5 HB h0
  go_wp2
  exact bodyPost_end (results_none Tryz.results181 _ _ _) rfl ⟨rfl,by rw[hI.out];exact HP.out.1,HP.out.2⟩
 ·have hI:=hidP (show insS s R=jph s R from if_neg hz)
  have h0:(((jai s.vs).length:Int)==0)=false:=by rw[beq_eq_false_iff_ne];omega
  clear hst
  go_wp2
  exact bodyPost_end (results_none Tryz.results181 _ _ _) rfl ⟨rfl,by rw[hI.out];exact HB.out.1,HB.out.2⟩
end
section
open Go.RowKit Go.ChangeMaps Go.MapKept Go.WideMaps Go.Sort
theorem jf2(s:Za){t:ByteArray}{x1 x2:RX}{z:ZX}{k1 k2 k3:Nat}(hT:TextW t x1 x2 z k1 k2 k3)(w00 w:World)(x:Option Addr)(K:Nat)(hK:Zb s w00 w x K)(hc:s.cur=0)(hall:((jai s.vs).all fun e=>inR (relX x1 x2 z) e.zone)=true)(hRo:Zr (relX x1 x2 z)):
  Calls Tryz.prog 136 #[.pointer x,.string t] w fun q w'=>q=.returned (.int .i64 0)/\Zb (insS s (relX x1 x2 z)) w00 w' x K/\Frm w w':=by
 have hRb:=hT.all
 have hcell:∀W,Zb s w00 W x K->∃bb lb n,x=some ⟨bb,0,none⟩/\W.cell? ⟨bb,7,none⟩=some (.int .i64 0)/\W.cell? ⟨bb,10,none⟩=some (.map (some lb))/\Zg W lb n (jbk s.vs)/\Zm W:=fun W hK=>by
  obtain⟨bb,lb,n,a1,a2,a3,a4,a5,a6,a8,a9,c1,c2,c3,c4,c5,c6,c8,c9,mm,wm,k,B,a,b,c,d,e,f,ca,cb,cc,cd,ce,cf,hx,hM,hn,hBk,_⟩:=hK.ex
  exact⟨bb,lb,n,hx,by have:=hBk.cur;rw[hc]at this;exact this,hBk.live,hM,hK.env.of_below hBk.bel⟩
 obtain⟨bb,lb0,n0,rfl,x7,_,_,hEw⟩:=hcell w hK
 have hrd:=jh3 hT w hEw
 have HT:=hidP (jwp hT)
 have hll:(relX x1 x2 z).links.length=0:=rfl
 have HK:=hidP hK
 clear hK hT hEw
 generalize relX x1 x2 z=R at *
 go_enter Tryz.func136,Tryz.ntmps136
 go_wp2_with fail
 refine hrd.mono ?_
 rintro q w1 hP
 obtain⟨ra,rca,rb,rcb,hq,hRS⟩:=hP.ex
 subst hq
 have HC:=hidP hcell
 have HA:=hidP hall
 clear hcell hall
 go_upto_region 4 with fail
 have hcell:=HC.out
 have hall:=HA.out
 have b2:=qal w1 (.cells #[.slice ra R.rules.length rca,.slice rb R.zones.length rcb,.slice none 0 0,.int .i64 0,.int .i64 0] 268)
 have V2:=Zc.new w1 [.slice ra R.rules.length rca,.slice rb R.zones.length rcb,.slice none 0 0,.int .i64 0,.int .i64 0] 268
 have hb12:=hP.bel.trans (b2.mono hP.bel.size)
 have hI2:=HK.out.below hb12
 have hR2:=hRS.below b2
 have hF2:=Frm.of_below hb12
 obtain⟨w2,hw2⟩:∃x,w1.alloc (.cells #[.slice ra R.rules.length rca,.slice rb R.zones.length rcb,.slice none 0 0,.int .i64 0,.int .i64 0] 268)=x:=⟨_,rfl⟩
 rw[hw2]at V2 hI2 hR2 hF2
 simp only[hw2]
 clear hw2
 have r0:=V2.c 0 rfl
 have r1:=V2.c 1 rfl
 have r2:=V2.c 2 rfl
 have r4:=V2.c 4 rfl
 obtain⟨bb',lb,n,hxx,_,x10,hM2,hE2⟩:=hcell w2 hI2
 injection hxx with hxx
 injection hxx with hxx
 subst hxx
 have bd:=jaa w2
 have hz:=jeh (jbk s.vs) (jai s.vs) lb n R (.agg #[.slice ra R.rules.length rca,.slice rb R.zones.length rcb,.slice none 0 0]) w2.drew (hE2.of_below bd) (hM2.below bd) (jbf s.vs) (hR2.below bd).at hRo hRb
 rw[hall]at hz
 have HI2:=hidP (And.intro hI2 (And.intro hR2 hF2))
 have HV2:=hidP V2
 clear b2 hb12 hI2 hR2 hF2 V2 hM2 hE2 hRS hP HK hrd x7 hcell hall HC HA
 go_wp2_with fail
 go_region_held3 (fun w'=>w'.cell? ⟨bb,10,none⟩=some (.map (some lb))/\w'.cell? ⟨w1.heap.size,0,none⟩=some (.slice ra R.rules.length rca)/\w'.cell? ⟨w1.heap.size,1,none⟩=some (.slice rb R.zones.length rcb)/\w'.cell? ⟨w1.heap.size,2,none⟩=some (.slice none 0 0)) (go_keep) ((go_at_call 53;refine hz.mono ?_;rintro q w3 ⟨rfl,hb3⟩;have t10:=jab hb3 (jab bd x10);have t0:=jab hb3 (jab bd r0);have t1:=jab hb3 (jab bd r1);have t2:=jab hb3 (jab bd r2)))
 all_goals
  have hb3':=bd.trans hb3
  have hI3:=HI2.out.1.below hb3'
  have hR3:=(HI2.out.2.1.below hb3').mono (Nat.le_trans (Nat.le_of_lt (qbl r0)) hb3'.size) (Nat.le_refl _)
  have hF3:=HI2.out.2.2.below hb3'
  have hl0:(Value.slice none 0 0)=.slice none R.links.length 0:=by rw[hll]
  rw[hl0]at hR3
  have hTT:=jnz s R ra rb none rca rcb 0 w00 w3 _ K hI3 (hR3.mono (Nat.le_refl _) (Nat.le_refl _)) hRb hRo
  rw[hll]at hTT
  have HF:=hidP hF3
  clear hI3 hR3 hF3 hb3' hl0 HI2 HV2
  go_wp2_with fail
  refine hTT.mono ?_
  rintro q w4 ⟨rfl,hI4,hF4⟩
  have HP:=hidP (And.intro hI4 (HF.out.trans hF4))
  clear hTT hI4 hF4
  go_wp2
  go_ret
  exact⟨rfl,HP.out.1,HP.out.2⟩
end
end Go.Proofs.YtofdpfpdocpbpaaGreatDoor
