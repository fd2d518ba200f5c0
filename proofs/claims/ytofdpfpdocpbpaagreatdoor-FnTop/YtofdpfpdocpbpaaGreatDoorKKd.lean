/- Packed. -/
import Derived.Test.YtofdpfpdocpbpaaGreatDoorKOd
import Derived.Test.YtofdpfpdocpbpaaGreatDoorJBd
import Derived.Test.YtofdpfpdocpbpaaGreatDoorDDd
set_option maxRecDepth 20000
set_option maxHeartbeats 20000000
set_option linter.unusedSimpArgs false
namespace Go.Proofs.YtofdpfpdocpbpaaGreatDoor
section
open Go.RowKit
structure Zk(w00:World)(Bk:World->Option Addr->Prop):Prop where
 below:∀{w w' x},Bk w x->Below w.heap.size w w'->Bk w' x
 other:∀{w w' x g t},Bk w x->w.grownBy w' (some g)->w00.heap.size<=g->(∃cs,w.heap[g]? =some (Obj.cells cs t (0,0)))->t=35\/t=9->Bk w' x
 bel:∀{w x},Bk w x->Below w00.heap.size w00 w
theorem jdu{t:TypeId}(h:t=35\/t=9):t≠85/\t≠101/\t≠304/\¬relT t:=by
 rcases h with rfl|rfl
 all_goals exact⟨by decide,by decide,by decide,fun h=>by rcases h with h|h|h|h<;>exact absurd h (by decide)⟩
theorem Zk.bookI(s:Za)(w00:World)(K:Nat):Zk w00 (fun w x=>Zb s w00 w x K):=⟨fun h hb=>h.below hb,fun h hg hb ht hT=>h.other hg hb ht (jdu hT).1 (jdu hT).2.1 (jdu hT).2.2.1 (jdu hT).2.2.2,fun h=>h.belw⟩
theorem Zk.verI(s:Za)(w00:World):Zk w00 (fun w x=>Jq s w00 w x):=⟨fun h hb=>h.below hb,fun h hg hb ht hT=>h.other hg hb ht (jdu hT).1 (jdu hT).2.1,fun h=>h.bel⟩
structure Zt(w w':World):Prop where
 size:w.heap.size<=w'.heap.size
 keep:∀(b:Nat) (cs:Array Value) (t:TypeId),w.heap[b]? =some (Obj.cells cs t (0,0))->t≠85->t≠101->t≠35->w'.heap[b]? =w.heap[b]?
theorem Zt.refl(w:World):Zt w w:=⟨Nat.le_refl _,fun _ _ _ _ _ _ _=>rfl⟩
theorem Zt.of{w w':World}(h:Frm w w'):Zt w w':=⟨h.size,fun b cs t hc h1 h2 _=>h.keep b cs t hc h1 h2⟩
theorem Zt.trans{a b c:World}(h:Zt a b)(k:Zt b c):Zt a c:=⟨Nat.le_trans h.size k.size,fun x cs t hc h1 h2 h3=>(k.keep x cs t ((h.keep x cs t hc h1 h2 h3).trans hc) h1 h2 h3).trans (h.keep x cs t hc h1 h2 h3)⟩
theorem Zt.below{w w':World}(hb:Below w.heap.size w w'):Zt w w':=Zt.of (Frm.of_below hb)
theorem Zt.typed{a b:World}{g:Nat}(k:a.grownBy b (some g))(hg:∃cs,a.heap[g]? =some (Obj.cells cs 35 (0,0))):Zt a b:=⟨k.size,fun x cs t hc _ _ h3=>k.block x (Array.getElem?_eq_some_iff.mp hc).1 (fun e=>by
 injection e with e
 obtain⟨ds,hd⟩:=hg
 rw[e,hd]at hc
 injection hc with hc
 injection hc with _ hc _
 exact h3 hc.symm)⟩
structure Zo(w00:World)(Bk:World->Option Addr->Prop)(T:ByteArray)(y:Int)(d:Nat)(w:World):Prop where
 ex:∃x,Zc w d [.string T,.int .i64 y,.pointer x]/\Bk w x
 blk:∃cs,w.heap[d]? =some (Obj.cells cs 35 (0,0))
 lo:w00.heap.size<=d
theorem Zo.below{w00 w w':World}{Bk:World->Option Addr->Prop}{T:ByteArray}{y:Int}{d:Nat}(h:Zo w00 Bk T y d w)(ok:Zk w00 Bk)(hb:Below w.heap.size w w'):Zo w00 Bk T y d w':=by
 obtain⟨x,hV,hB⟩:=h.ex
 obtain⟨cs,hc⟩:=h.blk
 exact⟨⟨x,hV.below hb,ok.below hB hb⟩,⟨cs,(hb.block d (Array.getElem?_eq_some_iff.mp hc).1).trans hc⟩,h.lo⟩
theorem Zo.set2{w00 w:World}{Bk:World->Option Addr->Prop}{T:ByteArray}{y:Int}{d:Nat}(h:Zo w00 Bk T y d w)(ok:Zk w00 Bk)(T':ByteArray)(y':Int):Zo w00 Bk T' y' d ((w.setCell ⟨d,0,none⟩ (.string T')).setCell ⟨d,1,none⟩ (.int .i64 y'))/\Zt w ((w.setCell ⟨d,0,none⟩ (.string T')).setCell ⟨d,1,none⟩ (.int .i64 y')):=by
 obtain⟨x,hV,hB⟩:=h.ex
 have G:=ja2 w d (.string T') (.int .i64 y')
 exact⟨⟨⟨x,(hV.set (j:=0) (.string T')).set (j:=1) (.int .i64 y'),ok.other hB G h.lo h.blk (.inl rfl)⟩,jah (jah h.blk),h.lo⟩,Zt.typed G h.blk⟩
theorem jvm{w w':World}{b:Nat}{l:List Value}(h:Zc w b l)(he:w'.heap[b]? =w.heap[b]?):Zc w' b l:=fun i u hu=>by
 obtain⟨h1,h2⟩:=h i u hu
 exact⟨by simp only[World.cell?,he]at h1 ⊢;exact h1,by simp only[World.frozen?,he]at h2 ⊢;exact h2⟩
theorem Zo.frm{w00 w w':World}{Bk:World->Option Addr->Prop}{T:ByteArray}{y:Int}{d:Nat}{x:Option Addr}(hV:Zc w d [.string T,.int .i64 y,.pointer x])(hb:∃cs,w.heap[d]? =some (Obj.cells cs 35 (0,0)))(hl:w00.heap.size<=d)(hB:Bk w' x)(hF:Frm w w'):Zo w00 Bk T y d w':=by
 obtain⟨cs,hc⟩:=hb
 have he:=hF.keep d cs _ hc (by decide) (by decide)
 exact⟨⟨x,jvm hV he,hB⟩,⟨cs,he.trans hc⟩,hl⟩
theorem j2q {w00:World} {Bk Bk':World->Option Addr->Prop} (ok:Zk w00 Bk) (T T' line out:ByteArray) (y:Int) (d:Nat) (w:World) (hA:jgi T y line=⟨T',y,0⟩) (hl8:line.size<=1048576) (hM:MxJ w00)
  (hT:∀W x,Bk W x->Calls Tryz.prog 22 #[.pointer x,.string line] W fun q w'=>q=.returned (.string out)/\Bk' w' x/\Frm W w') (h:Zo w00 Bk T y d w):
  Calls Tryz.prog 18 #[.pointer (some ⟨d,0,none⟩),.string line] w fun q w'=>q=.returned (.string out)/\Zo w00 Bk' T' y d w'/\Zt w w':=by
 obtain⟨x0,hV0,hB0⟩:=h.ex
 have hJ:=jjq T y line w (hM.of_below (ok.bel hB0)) hl8
 rw[hA]at hJ
 simp only[AddD.val]at hJ
 have c0:=hV0.c 0 rfl
 have c1:=hV0.c 1 rfl
 have hdl:d<w.heap.size:=qbl c0
 have HD:=hidQ h
 clear hV0 hB0 hA h
 go_enter Tryz.func18,Tryz.ntmps18
 go_wp2_with fail
 refine hJ.mono ?_
 rintro q w1 ⟨rfl,hb1⟩
 have bW:=qal w1 (.cells #[.string T',.int .i64 y,.string ⟨#[]⟩,.int .i64 0] 71)
 have V2:=Zc.new w1 [.string T',.int .i64 y,.string ⟨#[]⟩,.int .i64 0] 71
 have hb2:=qtr hb1 bW
 have hD2:=HD.out.below ok hb2
 have HF2:=hidQ (Zt.below hb2)
 have hne:¬d=w1.heap.size:=by have:=hb1.size;omega
 have hne2:¬w1.heap.size=d:=fun e=>hne e.symm
 clear hb1 bW hb2 hJ c0 c1 HD hdl
 go_upto_region 2 with fail
 generalize w1.alloc (.cells #[.string T',.int .i64 y,.string ⟨#[]⟩,.int .i64 0] 71)=w2 at *
 have v0:=V2.c 0 rfl
 have v1:=V2.c 1 rfl
 have v3:=V2.c 3 rfl
 obtain⟨x,hVx,hBx⟩:=hD2.ex
 have c0:=hVx.c 0 rfl
 have c1:=hVx.c 1 rfl
 have c2:=hVx.c 2 rfl
 have f0:=hVx.f 0 (u:=.string T) rfl
 have f1:=hVx.f 1 (u:=.int .i64 y) rfl
 obtain⟨hD3,hF3⟩:=hD2.set2 ok T' y
 have HF3:=hidQ (HF2.out.trans hF3)
 obtain⟨x3,hV3,hB3⟩:=hD3.ex
 have c23:=hV3.c 2 rfl
 have HV3:=hidQ (And.intro hV3 (And.intro hD3.blk hD3.lo))
 have hTT:=hT _ _ hB3
 clear hVx hBx V2 hD2 hV3 hB3 hD3 hF3 HF2 hT
 go_wp2_with fail
 refine hTT.mono ?_
 rintro q w4 ⟨rfl,hB4,hF4⟩
 have HP:=hidQ (And.intro (Zo.frm HV3.out.1 HV3.out.2.1 HV3.out.2.2 hB4 hF4) (HF3.out.trans (Zt.of hF4)))
 clear hTT hB4 hF4 HV3 HF3 c0 c1 c2 f0 f1 c23 v0 v1 v3
 go_wp2
 go_ret
 exact⟨rfl,HP.out.1,HP.out.2⟩
theorem jyx{w00:World}{Bk:World->Option Addr->Prop}(ok:Zk w00 Bk)(T:ByteArray)(y:Int)(d:Nat)(w:World)(hM:MxJ w00)(h:Zo w00 Bk T y d w):
  Calls Tryz.prog 15 #[.pointer (some ⟨d,0,none⟩)] w fun q w'=>q=.returned (.string ⟨#[115,121,110,99,101,100]⟩)/\Zo w00 Bk T (jj8 T y) d w'/\Zt w w':=by
 obtain⟨x0,hV0,hB0⟩:=h.ex
 have hJ:=jh4 T y w (hM.of_below (ok.bel hB0))
 generalize jj8 T y=y' at *
 have c0:=hV0.c 0 rfl
 have c1:=hV0.c 1 rfl
 have HD:=hidQ h
 clear hV0 hB0 h
 go_enter Tryz.func15,Tryz.ntmps15
 go_wp2_with fail
 refine hJ.mono ?_
 rintro q w1 ⟨rfl,hb1⟩
 have hD1:=HD.out.below ok hb1
 obtain⟨x,hVx,hBx⟩:=hD1.ex
 have e0:=hVx.c 0 rfl
 have e1:=hVx.c 1 rfl
 have f0:=hVx.f 0 (u:=.string T) rfl
 have f1:=hVx.f 1 (u:=.int .i64 y) rfl
 obtain⟨hD3,hF3⟩:=hD1.set2 ok T y'
 have HP:=hidQ (And.intro hD3 ((Zt.below hb1).trans hF3))
 clear hVx hBx hD1 hD3 hF3 hb1 hJ c0 c1 HD
 go_wp2
 go_ret
 exact⟨rfl,HP.out.1,HP.out.2⟩
end
section
open Go.RowKit
theorem jjf(s:ByteArray)(w:World)(hM:MxJ w)(hs:s.size<=8000):
  Calls Tryz.prog 21 #[.string s] w fun e w'=>∃cap,e=.returned (.slice (some ⟨w.heap.size,0,none⟩) ((lfs s s.size).1.length:Nat) cap)/\w'=w.alloc (.cells ((lns s).map Value.string).toArray 9):=by
 obtain⟨m,hm⟩:=hM
 have hSp:=Tryz.strings_Split s ⟨#[10]⟩ m w (by omega) hm (by decide)
 rw[jil,jlc]at hSp
 have hb:=(je2 s s.size).1
 generalize w.alloc (.cells ((lns s).map Value.string).toArray 9)=W1 at *
 generalize (lfs s s.size).1.length=n at *
 clear hm
 go_enter Tryz.func21,Tryz.ntmps21
 go_wp2_with (go_at_call 23;refine hSp.mono ?_;rintro e w1 ⟨rfl,rfl⟩)
 go_ret
 exact⟨_,rfl,rfl⟩
theorem Zb.row{s:Za}{w00 w w':World}{x:Option Addr}{K n base:Nat}{v:Value}{xs:List Value}(h:Zb s w00 w x K)(ho:w.ownsRow base 9 1 v n xs)(hb:w00.heap.size<=base)(hg:w.grownBy w' v.ownBlock):Zb s w00 w' x K:=by
 cases hv:v.ownBlock with
 |none=>
  rw[hv]at hg
  exact h.below ⟨hg.os,hg.tape,hg.output,hg.size,fun j hj=>hg.block j hj (by simp)⟩
 |some g=>
  rw[hv]at hg
  have ht:=jcj ho hv
  have:=(World.ownsRow.lt ho g hv).1
  exact(Zk.bookI s w00 K).other h hg (by omega) ht (.inr rfl)
theorem jsc (T:ByteArray) (y:Int) (L:List ByteArray) (st:Nat->Za) (K:Nat->Nat) (out:Nat->ByteArray) (w:World) (hE:Zm w) (hs:T.size<=8000) (hL:(lfs T T.size).1=L) (h0:st 0=zeroS) (hK0:K 0=30)
  (hstep:∀i l,L[i]? =some l->∀W x,Zb (st i) w W x (K i)->Calls Tryz.prog 22 #[.pointer x,.string l] W fun q w'=>q=.returned (.string (out i))/\Zb (st (i+1)) w w' x (K (i+1))/\Frm W w'):
  Calls Tryz.prog 12 #[.agg #[.string T,.int .i64 y]] w fun q w'=>∃x v,q=.returned (.tuple #[.pointer x,v])/\Zb (st L.length) w w' x (K L.length):=by
 obtain⟨i0,hi,hz0,hz1,hz2⟩:=jnx
 have b1:=qal w (.cells #[.string T,.int .i64 y] 32)
 have V1:=Zc.new w [.string T,.int .i64 y] 32
 have hO:=joc (w.alloc (.cells #[.string T,.int .i64 y] 32)) (hE.of_below b1)
 have HS:=hidQ hstep
 have HE:=hidQ (And.intro hE b1)
 have HL:=hidQ hL
 have hLi:=fun W h=>jjf T W h hs
 have hbd:=(je2 T T.size).1
 rw[hL]at hLi hbd
 clear hstep hE hL
 go_enter Tryz.func12,Tryz.ntmps12
 go_wp2_with fail
 refine hO.mono ?_
 rintro q w2 ⟨⟨x,rfl,hI2⟩,hb2⟩
 have hI2:=hI2.base HE.out.2 HE.out.1
 have V2:=V1.below hb2
 have j0:=V2.c 0 rfl
 have hLL:=hLi w2 hI2.envw.2
 have HI2:=hidQ hI2
 clear hO V1 V2 hI2 hb2 b1 hLi
 go_wp2_with fail
 refine hLL.mono ?_
 rintro q w3 ⟨cap,rfl,hw3⟩
 have b3:=qal w2 (.cells ((lns T).map Value.string).toArray 9)
 have hblk:=heap_alloc_new w2 (.cells ((lns T).map Value.string).toArray 9)
 rw[<- hw3]at b3 hblk
 have hs3:w3.heap.size=w2.heap.size+1:=by rw[hw3];simp
 have hI3:=HI2.out.below b3
 have hsw:=HI2.out.belw.size
 have hcells:Hid (∀i l,L[i]? =some l->((lns T).map Value.string)[i]? =some (Value.string l)):=fun i l hl=>by
  rw[List.getElem?_map]
  unfold lns
  rw[HL.out,List.getElem?_append_left (List.getElem?_eq_some_iff.mp hl).1,hl]
  rfl
 obtain⟨n,hn⟩:∃n,L.length=n:=⟨_,rfl⟩
 have HN:=hidQ hn
 rw[hn]at hbd ⊢
 have hI0:Hid (Zb (st 0) w w3 x (K 0)):=by rw[h0,hK0];exact hI3
 have HB:=hidQ hblk
 clear hn hI3 hw3 hLL j0 HI2 hblk HL
 go_wp2_with fail
 go_loopw [6,8,18] (fun v _ t wr=>∃i:Nat,t=.int .i64 i/\i<=n/\Hid (Zb (st i) w wr x (K i))/\Hid (wr.heap[w2.heap.size]? =some (Obj.cells ((lns T).map Value.string).toArray 9 (0,0)))/\∃xs,wr.ownsRow w3.heap.size 9 1 v i xs) (fun _ _ t _=>n-(intOf t).toNat)
 case atStart=>exact⟨0,rfl,by omega,hI0,HB,[],World.ownsRow_nil _ _ _ _⟩
 case round=>
  obtain⟨wa,hwa⟩:∃x:World,x=wr:=⟨_,rfl⟩
  subst hwa
  obtain⟨i,rfl,hin,HI,HBk,xs,hown⟩:=hrel
  obtain⟨a3,c3,e3⟩:=jdq hown
  subst e3
  by_cases hlt:i<n
  ·obtain⟨l,hl⟩:∃l,L[i]? =some l:=⟨_,List.getElem?_eq_getElem (by rw[HN.out];exact hlt)⟩
   have hc:wa.cell? ⟨w2.heap.size,i,none⟩=some (.string l):=by
    simp only[World.cell?,HBk.out]
    rw[List.getElem?_toArray]
    exact hcells.out i l hl
   have hT:=HS.out i l hl wa x HI.out
   clear hl HI
   go_wp2_with fail
   refine hT.mono ?_
   rintro q w4 ⟨rfl,hI4,hF4⟩
   have hown4:=jrn hown hF4 (by decide) (by decide)
   have hB4:=(hF4.keep _ _ _ HBk.out (by decide) (by decide)).trans HBk.out
   have hsz4:=hF4.size
   have hsz3:w2.heap.size<wa.heap.size:=(Array.getElem?_eq_some_iff.mp HBk.out).1
   have hI4b:=hI4.below (qal w4 (.cells #[.string (out i)] 9))
   clear hT hF4 hown HBk hc HS
   obtain⟨o,ho⟩:∃o,out i=o:=⟨_,rfl⟩
   rw[ho]at hI4b ⊢
   clear ho hI4
   go_wp2_with (first
    |(at_builtin;refine wpList_append_own _ rfl _ _ 29 rfl w3.heap.size 9 i0 (.string ⟨#[]⟩) 1 16 Tryz.underlying29 hi hz0 hz1 hz2 rfl (by decide) _ _ _ rfl (hown4.alloc _) ⟨w4.heap.size,0,none⟩ 1 1 [.string o] rfl rfl ?c1 ?c2 ?c3 ?c4 ?c5 ?_)
    |fail)
   case c1=>exact cell_one_new _ _ _
   case c2=>intro u hu;simp at hu;subst hu;rfl
   case c3=>unfold maxLen;omega
   case c4=>omega
   case c5=>simp;omega
   ·intro v' w5 hown' hgrow _
    have hI5:=hidQ (hI4b.row (hown4.alloc _) (by omega) hgrow)
    have hne:some w2.heap.size≠(Value.slice a3 i c3).ownBlock:=fun e=>by
     have:=(World.ownsRow.lt hown4 _ e.symm).1
     omega
    have HB5:Hid (w5.heap[w2.heap.size]? =some (Obj.cells ((lns T).map Value.string).toArray 9 (0,0))):=(hgrow.block _ (by simp;omega) hne).trans ((heap_alloc_old w4 _ (by omega)).trans hB4)
    have HO5:=hidQ hown'
    clear hown' hgrow hown4 hI4b hB4 hne
    go_wp2
    go_roundw
    case rel=>exact⟨i+1,by go_num,by omega,hI5,HB5,_,by have h:=HO5.out;rw[<- hs3]at h;exact h⟩
    case measure=>simp[intOf];omega
  ·obtain rfl:i=n:=by omega
   clear hown HBk HS
   go_wp2
   go_ret2
   exact⟨_,_,rfl,by rw[HN.out];exact HI.out⟩
theorem jjl (T:ByteArray) (y:Int) (s:Za) (K:Nat) (w:World) (hE:Zm w)
  (hR:∀W,Below w.heap.size w W->Calls Tryz.prog 12 #[.agg #[.string T,.int .i64 y]] W fun q w'=>∃x v,q=.returned (.tuple #[.pointer x,v])/\Zb s W w' x K):
  Calls Tryz.prog 8 #[.agg #[.string T,.int .i64 y]] w fun q w'=>∃x,q=.returned (.agg #[.string T,.int .i64 y,.pointer x])/\Zb s w w' x K:=by
 have b1:=qal w (.cells #[.string T,.int .i64 y] 32)
 have b2:=b1.alloc b1.size (.cells #[.string ⟨#[]⟩,.int .i64 0,.pointer none] 35)
 have V1:=(Zc.new w [.string T,.int .i64 y] 32).below (qal _ (.cells #[.string ⟨#[]⟩,.int .i64 0,.pointer none] 35))
 have V2:=Zc.new (w.alloc (.cells #[.string T,.int .i64 y] 32)) [.string ⟨#[]⟩,.int .i64 0,.pointer none] 35
 have hT2:=heap_alloc_new (w.alloc (.cells #[.string T,.int .i64 y] 32)) (.cells #[.string ⟨#[]⟩,.int .i64 0,.pointer none] 35)
 have hs1:(w.alloc (.cells #[.string T,.int .i64 y] 32)).heap.size=w.heap.size+1:=by simp
 rw[hs1]at V2 hT2
 have hRR:=hR _ b2
 have j0:=V1.c 0 rfl
 have j1:=V1.c 1 rfl
 have HV:=hidQ (And.intro V1 (And.intro V2 hT2))
 have HE:=hidQ (And.intro hE b2)
 clear V1 V2 hT2 b1 b2 hR hE hs1
 go_enter Tryz.func8,Tryz.ntmps8
 go_wp2_with fail
 refine hRR.mono ?_
 rintro q w3 ⟨x,v,rfl,hI⟩
 have hb3:=hI.belw
 have V13:=HV.out.1.below hb3
 have V23:=HV.out.2.1.below hb3
 have hT3:=(hb3.block _ (Array.getElem?_eq_some_iff.mp HV.out.2.2).1).trans HV.out.2.2
 have hI3:=hI.base HE.out.2 HE.out.1
 have k0:=V13.c 0 rfl
 have k1:=V13.c 1 rfl
 have e0:=V23.c 0 rfl
 have e1:=V23.c 1 rfl
 have e2:=V23.c 2 rfl
 have f0:=V23.f 0 (u:=.string ⟨#[]⟩) rfl
 have f1:=V23.f 1 (u:=.int .i64 0) rfl
 have f2:=V23.f 2 (u:=.pointer none) rfl
 have VF:=((V23.set (j:=0) (.string T)).set (j:=1) (.int .i64 y)).set (j:=2) (.pointer x)
 have G:=jaj (jaj (ja1 w3 (w.heap.size+1) 0 (.string T)) 1 (.int .i64 y)) 2 (.pointer x)
 have HP:=hidQ ((Zk.bookI s w K).other hI3 G (by omega) ⟨_,hT3⟩ (.inl rfl))
 clear hRR hI hb3 V13 V23 hT3 hI3 G HV HE j0 j1
 go_wp2
 generalize ((w3.setCell ⟨w.heap.size+1,0,none⟩ (.string T)).setCell ⟨w.heap.size+1,1,none⟩ (.int .i64 y)).setCell ⟨w.heap.size+1,2,none⟩ (.pointer x)=W at *
 have u0:W.cell? ⟨w.heap.size+1,0,none⟩=some (.string T):=VF.c 0 rfl
 have u1:W.cell? ⟨w.heap.size+1,1,none⟩=some (.int .i64 y):=VF.c 1 rfl
 have u2:W.cell? ⟨w.heap.size+1,2,none⟩=some (.pointer x):=VF.c 2 rfl
 exact bodyPost_ret (v:=.agg #[.string T,.int .i64 y,.pointer x]) (by simp[results,Tryz.results8,go_sem,u0,u1,u2]) rfl ⟨x,rfl,HP.out⟩
end
section
open Go.RowKit
def jr3(n:Nat):ByteArray:=⟨#[108,105,110,101,115,32]⟩++⟨(Lib.decDigits n).toArray⟩
theorem juj {w00:World} {Bk:World->Option Addr->Prop} (ok:Zk w00 Bk) (T T':ByteArray) (y y' keep:Int) (d:Nat) (w:World) (s:Za) (K n:Nat) (hC1:jgd T y keep=T') (hC2:jgc T y keep=y') (hM:MxJ w00) (hE:Zm w00) (hn:(lfs T' T'.size).1.length=n) (hn1:n<100) (hdl:(Lib.decDigits n).length<=20) (hT':T'.size<=8000)
  (hR:∀W,Below w00.heap.size w00 W->Calls Tryz.prog 12 #[.agg #[.string T',.int .i64 y']] W fun q w'=>∃x v,q=.returned (.tuple #[.pointer x,v])/\Zb s W w' x K) (h:Zo w00 Bk T y d w):
  Calls Tryz.prog 17 #[.pointer (some ⟨d,0,none⟩),.int .i64 keep] w fun q w'=>q=.returned (.string (jr3 n))/\Zo w00 (fun w x=>Zb s w00 w x K) T' y' d w'/\Zt w w':=by
 obtain⟨x0,hV0,hB0⟩:=h.ex
 have hb0:=ok.bel hB0
 have hJ:=jg1 T y keep w (hM.of_below hb0)
 rw[hC1,hC2]at hJ
 have hLi:=fun W h=>jjf T' W h hT'
 rw[hn]at hLi
 have hIt:=fun W=>Tryz.strconv_Itoa_small n hn1 W
 have c0:=hV0.c 0 rfl
 have c1:=hV0.c 1 rfl
 have HD:=hidQ (And.intro h hb0)
 have HX:=hidQ (And.intro hE (And.intro hM hR))
 have HTX:Hid (⟨#[108,105,110,101,115,32]⟩++⟨(Lib.decDigits n).toArray⟩=jr3 n):=rfl
 have hz:(⟨(Lib.decDigits n).toArray⟩:ByteArray).size<=20:=by show(Lib.decDigits n).toArray.size<=20;simpa using hdl
 generalize (⟨(Lib.decDigits n).toArray⟩:ByteArray)=TD at *
 clear hV0 hB0 h hb0 hE hM hR hC1 hC2 hdl
 go_enter Tryz.func17,Tryz.ntmps17
 go_wp2_with fail
 refine hJ.mono ?_
 rintro q w1 ⟨rfl,hb1⟩
 have hB1:=HD.out.2.trans (hb1.mono HD.out.2.size)
 have hDO:=jjl T' y' s K w1 (HX.out.1.of_below hB1) (fun W hb=>HX.out.2.2 W (qtr hB1 hb))
 have HB1:=hidQ (And.intro hB1 (And.intro hb1 (HD.out.1.below ok hb1)))
 clear hJ c0 c1 HD hb1 hB1
 go_wp2_with fail
 refine hDO.mono ?_
 rintro q w2 ⟨x,rfl,hI⟩
 have hb2:=hI.belw
 have hI2:=hI.base HB1.out.1 HX.out.1
 have hD2:=HB1.out.2.2.below ok hb2
 obtain⟨x2,hV2,_⟩:=hD2.ex
 have e0:=hV2.c 0 rfl
 have e1:=hV2.c 1 rfl
 have e2:=hV2.c 2 rfl
 have f0:=hV2.f 0 (u:=.string T) rfl
 have f1:=hV2.f 1 (u:=.int .i64 y) rfl
 have f2:=hV2.f 2 (u:=.pointer x2) rfl
 have VF:=((hV2.set (j:=0) (.string T')).set (j:=1) (.int .i64 y')).set (j:=2) (.pointer x)
 have G:=jaj (jaj (ja1 w2 d 0 (.string T')) 1 (.int .i64 y')) 2 (.pointer x)
 have hI3:=(Zk.bookI s w00 K).other hI2 G hD2.lo hD2.blk (.inl rfl)
 have hT3:=jah (b:=d) (j:=2) (v:=.pointer x) (jah (b:=d) (j:=1) (v:=.int .i64 y') (jah (b:=d) (j:=0) (v:=.string T') hD2.blk))
 have HF3:=hidQ ((Zt.below (HB1.out.2.1.trans (hb2.mono HB1.out.2.1.size))).trans (Zt.typed G hD2.blk))
 have hlo:=hD2.lo
 clear hDO hI hb2 hI2 hD2 hV2 G HB1
 go_upto_region 2 with fail
 generalize ((w2.setCell ⟨d,0,none⟩ (.string T')).setCell ⟨d,1,none⟩ (.int .i64 y')).setCell ⟨d,2,none⟩ (.pointer x)=W at *
 have u0:W.cell? ⟨d,0,none⟩=some (.string T'):=VF.c 0 rfl
 have hLL:=hLi W hI3.envw.2
 have HDW:Hid (Zo w00 (fun w x=>Zb s w00 w x K) T' y' d W):=⟨⟨x,VF,hI3⟩,hT3,hlo⟩
 clear e0 e1 e2 f0 f1 f2 VF hI3 hT3 hLi
 go_wp2_with fail
 refine hLL.mono ?_
 rintro q w4 ⟨cap,rfl,hw4⟩
 have b4:=qal W (.cells ((lns T').map Value.string).toArray 9)
 rw[<- hw4]at b4
 have HP:=hidQ (And.intro (HDW.out.below (Zk.bookI s w00 K) b4) (HF3.out.trans (Zt.below b4)))
 clear hLL hw4 b4 HDW HF3 u0
 go_wp2_with fail
 refine(hIt _).mono ?_
 rintro q w5 ⟨rfl,hw5⟩
 subst hw5
 clear hIt
 go_wp2
 go_ret
 rw[HTX.out]
 exact⟨rfl,HP.out.1,HP.out.2⟩
def fs_sync:List FormD:=[.the ⟨#[115,121,110,99]⟩]
def fs_crash:List FormD:=[.the ⟨#[99,114,97,115,104]⟩,.num 0]
theorem jvq{w00:World}{Bk:World->Option Addr->Prop}(ok:Zk w00 Bk)(T line:ByteArray)(ws:List ByteArray)(y:Int)(d:Nat)(w:World)(hM:MxJ w00)(hL:Jt line ws)(hs:okF fs_sync ws=true)(h:Zo w00 Bk T y d w):
  Calls Tryz.prog 9 #[.pointer (some ⟨d,0,none⟩),.string line] w fun q w'=>q=.returned (.string ⟨#[115,121,110,99,101,100]⟩)/\Zo w00 Bk T (jj8 T y) d w'/\Zt w w':=by
 obtain⟨x0,hV0,hB0⟩:=h.ex
 have b1:=qal w (.cells #[.int .i64 0] 2)
 have V1:=Zc.new w [.int .i64 0] 2
 have hb0:=ok.bel hB0
 have hMt:=jam fs_sync line ws [.int .i64 0] w.heap.size (w.alloc (.cells #[.int .i64 0] 2)) 1 hL ((hM.of_below hb0).of_below b1) V1 (by simp) (by intro f hf;simp[fs_sync]at hf;subst hf;trivial) (by simp[fs_sync])
 rw[show fs_sync.length=1 from rfl,show(w.alloc (.cells #[.int .i64 0] 2)).heap.size=w.heap.size+1 by simp]at hMt
 have k1:=fun s W=>jaw s W
 have HD:=hidQ (And.intro h b1)
 have hSy:=fun W h=>jyx ok T y d W hM h
 clear V1 hV0 hB0 h hL hb0 b1
 go_enter Tryz.func9,Tryz.ntmps9
 go_wp2_with (first|(go_at_call 14;refine(k1 _ _).mono ?_;rintro q w' ⟨rfl,rfl⟩)|fail)
 refine Calls.mono (w:=jak (w.alloc (.cells #[.int .i64 0] 2)) (asF w.heap.size (w.heap.size+1) fs_sync)) hMt ?_
 rintro q w2 hP
 have hq:=hP.end_
 rw[hs]at hq
 subst hq
 have hb2:=HD.out.2.grown hP.grown HD.out.2.size (fun j hj=>by injection hj with hj;omega)
 have hDD:=hSy w2 (HD.out.1.below ok hb2)
 have HF:=hidQ (Zt.below hb2)
 clear hMt hP hb2 HD hSy k1
 go_wp2_with fail
 refine hDD.mono ?_
 rintro q w3 ⟨rfl,hD3,hF3⟩
 have HP:=hidQ (And.intro hD3 (HF.out.trans hF3))
 clear hDD hD3 hF3 HF
 go_wp2
 go_ret
 exact⟨rfl,HP.out.1,HP.out.2⟩
theorem jm3 {w00:World} {Bk Bk':World->Option Addr->Prop} (ok:Zk w00 Bk) (T T' line out:ByteArray) (ws:List ByteArray) (y y':Int) (d:Nat) (w:World) (hM:MxJ w00) (hL:Jt line ws) (hs:okF fs_sync ws=false)
  (hX:(okF fs_crash ws=true/\∃keep,(∀l:List Value,l.length=1->runF fs_crash ws l=[.int .i64 keep])/\∀W,Zo w00 Bk T y d W->Calls Tryz.prog 17 #[.pointer (some ⟨d,0,none⟩),.int .i64 keep] W fun q w'=>q=.returned (.string out)/\Zo w00 Bk' T' y' d w'/\Zt W w')\/
   (okF fs_crash ws=false/\∀W,Zo w00 Bk T y d W->Calls Tryz.prog 18 #[.pointer (some ⟨d,0,none⟩),.string line] W fun q w'=>q=.returned (.string out)/\Zo w00 Bk' T' y' d w'/\Zt W w')) (h:Zo w00 Bk T y d w):
  Calls Tryz.prog 9 #[.pointer (some ⟨d,0,none⟩),.string line] w fun q w'=>q=.returned (.string out)/\Zo w00 Bk' T' y' d w'/\Zt w w':=by
 obtain⟨x0,hV0,hB0⟩:=h.ex
 have b1:=qal w (.cells #[.int .i64 0] 2)
 have V1:=Zc.new w [.int .i64 0] 2
 have hb0:=ok.bel hB0
 have hMt:=jam fs_sync line ws [.int .i64 0] w.heap.size (w.alloc (.cells #[.int .i64 0] 2)) 1 hL ((hM.of_below hb0).of_below b1) V1 (by simp) (by intro f hf;simp[fs_sync]at hf;subst hf;trivial) (by simp[fs_sync])
 rw[show fs_sync.length=1 from rfl,show(w.alloc (.cells #[.int .i64 0] 2)).heap.size=w.heap.size+1 by simp]at hMt
 have k1:=fun s W=>jaw s W
 have k2:=fun p W=>ja7 p W
 have HD:=hidQ (And.intro h b1)
 have HL:=hidQ (And.intro hL hM)
 have HX:=hidQ hX
 clear V1 hV0 hB0 h hL hb0 b1 hM hX
 go_enter Tryz.func9,Tryz.ntmps9
 go_wp2_with (first|(go_at_call 14;refine(k1 _ _).mono ?_;rintro q w' ⟨rfl,rfl⟩)|fail)
 refine Calls.mono (w:=jak (w.alloc (.cells #[.int .i64 0] 2)) (asF w.heap.size (w.heap.size+1) fs_sync)) hMt ?_
 rintro q w2 hP
 have hq:=hP.end_
 rw[hs]at hq
 subst hq
 have hb2:=HD.out.2.grown hP.grown HD.out.2.size (fun j hj=>by injection hj with hj;omega)
 have hD2:=HD.out.1.below ok hb2
 obtain⟨l,hVl,hll⟩:=hP.vex
 have hlt2:w.heap.size<w2.heap.size:=by have:=hP.grown.size;simp at this;omega
 obtain⟨x2,_,hB2⟩:=hD2.ex
 have hMc:=jam fs_crash line ws l w.heap.size w2 2 HL.out.1 (HL.out.2.of_below (ok.bel hB2)) hVl hlt2 (by intro f hf;simp[fs_crash]at hf;rcases hf with rfl|rfl<;>simp[FormD.inN,hll]) (by simp[fs_crash])
 rw[show fs_crash.length=2 from rfl]at hMc
 have HD2:=hidQ (And.intro hD2 hb2)
 have HLL:=hidQ hll
 clear hMt hP hb2 hD2 hVl hB2 hll hlt2 HL
 go_wp2_with (first|(go_at_call 14;refine(k1 _ _).mono ?_;rintro q w' ⟨rfl,rfl⟩)|(go_at_call 16;refine(k2 _ _).mono ?_;rintro q w' ⟨rfl,rfl⟩)|fail)
 refine Calls.mono (w:=jak w2 (asF w.heap.size w2.heap.size fs_crash)) hMc ?_
 rintro q w3 hP
 have hq:=hP.end_
 have hb3:=HD2.out.2.grown hP.grown HD2.out.2.size (fun j hj=>by injection hj with hj;omega)
 have hD3:=HD.out.1.below ok hb3
 have HF:=hidQ (Zt.below hb3)
 rcases HX.out with⟨hc,keep,hkl,hCr⟩|⟨hc,hAd⟩
 ·rw[hc]at hq
  subst hq
  have hv:=hP.var hc
  rw[hkl l HLL.out]at hv
  have e0:=hv.c 0 rfl
  have hDD:=hCr w3 hD3
  clear hMc hP hb3 hD3 HD HD2 HX hCr hkl hv HLL hc k1 k2
  go_wp2_with fail
  refine hDD.mono ?_
  rintro q w4 ⟨rfl,hD4,hF4⟩
  have HP:=hidQ (And.intro hD4 (HF.out.trans hF4))
  clear hDD hD4 hF4 HF e0
  go_wp2
  go_ret
  exact⟨rfl,HP.out.1,HP.out.2⟩
 ·rw[hc]at hq
  subst hq
  have hDD:=hAd w3 hD3
  clear hMc hP hb3 hD3 HD HD2 HX hAd HLL hc k1 k2
  go_wp2_with fail
  refine hDD.mono ?_
  rintro q w4 ⟨rfl,hD4,hF4⟩
  have HP:=hidQ (And.intro hD4 (HF.out.trans hF4))
  clear hDD hD4 hF4 HF
  go_wp2
  go_ret
  exact⟨rfl,HP.out.1,HP.out.2⟩
end
section
open Go.RowKit
def outT(out:Nat->ByteArray):Nat->ByteArray
 |0=>⟨#[]⟩
 |i+1=>outT out i++(out i++⟨#[10]⟩)
theorem Zt.owns{w w':World}{base:Nat}{e:TypeId}{q n:Nat}{v:Value}{xs:List Value}(hF:Zt w w')(h:w.ownsRow base e q v n xs)(h1:e≠85)(h2:e≠101)(h3:e≠35):w'.ownsRow base e q v n xs:=jh8 h fun b cs hc=>hF.keep b cs e hc h1 h2 h3
theorem j0s(w:World)(hE:Zm w):Calls Tryz.prog 12 #[.agg #[.string ⟨#[]⟩,.int .i64 0]] w fun q w'=>∃x v,q=.returned (.tuple #[.pointer x,v])/\Zb zeroS w w' x 30:=
 jsc ⟨#[]⟩ 0 [] (fun _=>zeroS) (fun _=>30) (fun _=>⟨#[]⟩) w hE (by decide) rfl rfl rfl (fun i l h=>by simp at h)
theorem jop (t:ByteArray) (L:List ByteArray) (Bk:Nat->World->Option Addr->Prop) (Tj:Nat->ByteArray) (yj:Nat->Int) (out:Nat->ByteArray) (p:Addr) (w:World) (hE:Zm w) (hp:jmv w p) (hs:t.size<=8000) (hL:jh5 t=L) (hne:1<=L.length) (hl:L.length<=40)
  (hB0:∀W x,Zb zeroS w W x 30->Bk 0 W x) (hok:∀i,Zk w (Bk i)) (hT0:Tj 0=⟨#[]⟩) (hy0:yj 0=0) (hos:∀i,i<=L.length->(outT out i).size<=100000/\(out i).size<=1000)
  (hstep:∀i l,L[i]? =some l->∀W d,Zo w (Bk i) (Tj i) (yj i) d W->Calls Tryz.prog 9 #[.pointer (some ⟨d,0,none⟩),.string l] W fun q w'=>q=.returned (.string (out i))/\Zo w (Bk (i+1)) (Tj (i+1)) (yj (i+1)) d w'/\Zt W w'):
  Calls Tryz.prog 6 #[.string t] w fun q w'=>q=.returned (.agg #[.string (outT out L.length),.int .i64 0])/\Below w.heap.size w w':=by
 have b1:=qal w (.cells #[.string ⟨#[]⟩,.int .i64 0] 26)
 have hT1:=heap_alloc_new w (.cells #[.string ⟨#[]⟩,.int .i64 0] 26)
 have V1:=Zc.new w [.string ⟨#[]⟩,.int .i64 0] 26
 have hp1:jmv (w.alloc (.cells #[.string ⟨#[]⟩,.int .i64 0] 26)) p:=jab b1 hp
 have hDL:=jkt t p (w.alloc (.cells #[.string ⟨#[]⟩,.int .i64 0] 26)) (by omega) hp1
 rw[hL]at hDL
 obtain⟨n,hn⟩:∃n,L.length=n:=⟨_,rfl⟩
 have HN:=hidQ hn
 have HS:=hidQ hstep
 have HO:=hidQ hos
 have HX:=hidQ (And.intro hE (And.intro hB0 (And.intro hok (And.intro hT0 hy0))))
 have HV:=hidQ (And.intro b1 (And.intro V1 hT1))
 have h8:¬8000<(t.size:Int):=by omega
 have hn0:((n:Int)==0)=false:=by simp;omega
 rw[hn]at hl hne ⊢
 clear hn hstep hos hB0 hok hT0 hy0 hL hp1 hp V1 hT1 b1 hE
 go_enter Tryz.func6,Tryz.ntmps6
 go_wp2_with fail
 refine hDL.mono ?_
 rintro q w2 hP
 obtain⟨v2,rfl,hO2,hb2⟩:=hP.ex
 rw[HN.out]at hO2
 obtain⟨a2,c2,e2⟩:=jdq hO2
 subst e2
 have hB2:=HV.out.1.trans (hb2.mono HV.out.1.size)
 have V2:=HV.out.2.1.below hb2
 have hT2:=(hb2.block _ (Array.getElem?_eq_some_iff.mp HV.out.2.2).1).trans HV.out.2.2
 have hDO:=jjl ⟨#[]⟩ 0 zeroS 30 w2 (HX.out.1.of_below hB2) (fun W hb=>j0s W (HX.out.1.of_below (qtr hB2 hb)))
 have H2:=hidQ (And.intro hB2 (And.intro V2 (And.intro hT2 hO2)))
 clear hDL hP hO2 hb2 hB2 V2 hT2 HV
 go_wp2_with fail
 refine hDO.mono ?_
 rintro q w3 ⟨x,rfl,hI⟩
 have hb3:=hI.belw
 have hI3:=hI.base H2.out.1 HX.out.1
 have b4:=qal w3 (.cells #[.string ⟨#[]⟩,.int .i64 0,.pointer x] 35)
 have V4:=Zc.new w3 [.string ⟨#[]⟩,.int .i64 0,.pointer x] 35
 have hT4:=heap_alloc_new w3 (.cells #[.string ⟨#[]⟩,.int .i64 0,.pointer x] 35)
 have hb24:=qtr hb3 b4
 have hD4:Zo w (Bk 0) (Tj 0) (yj 0) w3.heap.size (w3.alloc (.cells #[.string ⟨#[]⟩,.int .i64 0,.pointer x] 35)):=by
  rw[HX.out.2.2.2.1,HX.out.2.2.2.2]
  exact⟨⟨x,V4,(HX.out.2.2.1 0).below (HX.out.2.1 _ _ hI3) b4⟩,⟨_,hT4⟩,by have:=H2.out.1.size;have:=hb3.size;omega⟩
 have hlo:w.heap.size<w3.heap.size:=by have:=(Array.getElem?_eq_some_iff.mp H2.out.2.2.1).1;have:=hb3.size;omega
 have hOut:(w3.alloc (.cells #[.string ⟨#[]⟩,.int .i64 0,.pointer x] 35)).heap[w.heap.size]? =some (.cells #[.string ⟨#[]⟩,.int .i64 0] 26 (0,0)):=(hb24.block _ (Array.getElem?_eq_some_iff.mp H2.out.2.2.1).1).trans H2.out.2.2.1
 have hRow:=jad H2.out.2.2.2 hb24
 have hB4:=H2.out.1.trans (hb24.mono H2.out.1.size)
 have HD4:=hidQ (And.intro hD4 (And.intro hOut (And.intro hRow hB4)))
 clear hDO hI hb3 hI3 b4 V4 hT4 hb24 hD4 hOut hRow hB4 H2
 go_upto_region 7 with fail
 obtain⟨w4,hw4⟩:∃x4,w3.alloc (.cells #[.string ⟨#[]⟩,.int .i64 0,.pointer x] 35)=x4:=⟨_,rfl⟩
 rw[hw4]at HD4 ⊢
 clear hw4
 go_wp2_with fail
 go_loopw [5,7,26] (fun v _ tt wr=>∃i:Nat,tt=.int .i64 i/\i<=n/\v=.string (outT out i)/\Hid (Zo w (Bk i) (Tj i) (yj i) w3.heap.size wr)/\Hid (Zt w4 wr)) (fun _ _ tt _=>n-(intOf tt).toNat)
 case atStart=>exact⟨0,rfl,by omega,rfl,HD4.out.1,Zt.refl _⟩
 case round=>
  obtain⟨wa,hwa⟩:∃x:World,x=wr:=⟨_,rfl⟩
  subst hwa
  obtain⟨i,rfl,hin,rfl,HD,HF⟩:=hrel
  by_cases hlt:i<n
  ·obtain⟨l,hl⟩:∃l,L[i]? =some l:=⟨_,List.getElem?_eq_getElem (by rw[HN.out];exact hlt)⟩
   have hown:=HF.out.owns HD4.out.2.2.1 (by decide) (by decide) (by decide)
   obtain⟨g,rfl,hcap,_,hcells⟩:=jij hown hne
   have hc:=hcells i l hl
   rw[Nat.zero_add]at hc
   have hT:=HS.out i l hl wa _ HD.out
   have hsz:=(HO.out i (by rw[HN.out];omega))
   have hOT:Hid (outT out (i+1)=outT out i++(out i++⟨#[10]⟩)):=rfl
   have hz1:=hsz.1
   have hz2:=hsz.2
   clear hown hcells hl HD hsz
   obtain⟨A,hA⟩:∃A,outT out i=A:=⟨_,rfl⟩
   obtain⟨o,ho⟩:∃o,out i=o:=⟨_,rfl⟩
   rw[hA,ho]at hOT
   rw[hA]at hz1
   rw[ho]at hz2 hT
   rw[hA]
   clear hA ho
   go_wp2_with fail
   refine hT.mono ?_
   rintro q w5 ⟨rfl,hD5,hF5⟩
   have HD5:=hidQ hD5
   have HF5:=hidQ (HF.out.trans hF5)
   have hlf:(⟨#[10]⟩:ByteArray).size=1:=rfl
   have hz3:(o++⟨#[10]⟩).size<=1001:=by rw[ByteArray.size_append,hlf];omega
   clear hT hD5 hF5 HF hc
   go_wp2
   go_roundw
   case rel=>exact⟨i+1,by go_num,by omega,by rw[hOT.out],HD5,HF5⟩
   case measure=>simp[intOf];omega
  ·obtain rfl:i=n:=by omega
   have hOut:=(HF.out.keep _ _ _ HD4.out.2.1 (by decide) (by decide) (by decide)).trans HD4.out.2.1
   obtain⟨x,_,hBx⟩:=HD.out.ex
   have hbel:=(HX.out.2.2.1 i).bel hBx
   have V:Zc wa w.heap.size [.string ⟨#[]⟩,.int .i64 0]:=fun j u hu=>⟨by simp[World.cell?,hOut,hu],by simp[World.frozen?,hOut]⟩
   have e0:=V.c 0 rfl
   have e1:=V.c 1 rfl
   have f0:=V.f 0 (u:=.string ⟨#[]⟩) rfl
   have f1:=V.f 1 (u:=.int .i64 0) rfl
   obtain⟨A,hA⟩:∃A,outT out i=A:=⟨_,rfl⟩
   have HA:=hidQ hA
   rw[hA]
   clear hA hOut hBx HD HF HD4 HS HO
   have VF:=(V.set (j:=0) (.string A)).set (j:=1) (.int .i64 0)
   have hBF:=(hbel.setCell (p:=⟨w.heap.size,0,none⟩) (Nat.le_refl _) (.string A)).setCell (p:=⟨w.heap.size,1,none⟩) (Nat.le_refl _) (.int .i64 0)
   clear V hbel
   go_wp2
   generalize (wa.setCell ⟨w.heap.size,0,none⟩ (.string A)).setCell ⟨w.heap.size,1,none⟩ (.int .i64 0)=W at *
   have u0:W.cell? ⟨w.heap.size,0,none⟩=some (.string A):=VF.c 0 rfl
   have u1:W.cell? ⟨w.heap.size,1,none⟩=some (.int .i64 0):=VF.c 1 rfl
   exact bodyPost_ret (v:=.agg #[.string A,.int .i64 0]) (by simp[results,Tryz.results6,go_sem,u0,u1]) rfl ⟨by rw[HA.out],hBF⟩
end
end Go.Proofs.YtofdpfpdocpbpaaGreatDoor
