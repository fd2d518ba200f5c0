/- Packed. -/
import Derived.Test.YtofdpfpdocpbpaaGreatDoorBasePd
import Derived.Test.YtofdpfpdocpbpaaGreatDoorSLd
import Derived.Test.YtofdpfpdocpbpaaGreatDoorOffPd
import Derived.Test.YtofdpfpdocpbpaaGreatDoorOnPd
import Derived.BigRegion
set_option maxHeartbeats 20000000
set_option linter.unusedSimpArgs false
namespace Go.Proofs.YtofdpfpdocpbpaaGreatDoor
section
open Go.RowKit
theorem hidQ{p:Prop}(h:p):Hid p:=h
def VAt(w:World)(a:Option Addr)(vs:List Value):Prop:=
 vs=[]\/∃b o,a=some ⟨b,o,none⟩/\∀i v,vs[i]? =some v->w.cell? ⟨b,o+i,none⟩=some v
theorem VAt.at{w:World}{a:Option Addr}{vs:List Value}(h:VAt w a vs){i:Nat}{v:Value}(hi:vs[i]? =some v):∃b o,a=some ⟨b,o,none⟩/\w.cell? ⟨b,o+i,none⟩=some v:=by
 rcases h with rfl|⟨b,o,ha,hc⟩
 ·simp at hi
 ·exact⟨b,o,ha,hc i v hi⟩
theorem VAt.below{w w':World}{a:Option Addr}{vs:List Value}(h:VAt w a vs)(hb:Below w.heap.size w w'):VAt w' a vs:=by
 rcases h with h|⟨b,o,ha,hc⟩
 ·exact .inl h
 ·exact .inr ⟨b,o,ha,fun i s hi=>by
   have:=hc i s hi
   rw[(jal hb).1 _ _ (qbl this)];exact this⟩
theorem VAt.grown{w w':World}{a:Option Addr}{vs:List Value}{g:Nat}(h:VAt w a vs)(hg:w.grownBy w' (some g))(hn:∀b o,a=some ⟨b,o,none⟩->b≠g):VAt w' a vs:=by
 rcases h with h|⟨b,o,ha,hc⟩
 ·exact .inl h
 ·exact .inr ⟨b,o,ha,fun i s hi=>hg.cell (hc i s hi) (by simpa using hn b o ha)⟩
def WAt(w:World)(a:Option Addr)(ws:List ByteArray):Prop:=VAt w a (ws.map Value.string)
theorem WAt.at{w:World}{a:Option Addr}{ws:List ByteArray}(h:WAt w a ws){i:Nat}{s:ByteArray}(hi:ws[i]? =some s):∃b o,a=some ⟨b,o,none⟩/\w.cell? ⟨b,o+i,none⟩=some (.string s):=VAt.at h (by rw[List.getElem?_map,hi];rfl)
structure MatK(fs:List Value)(ws:List ByteArray)(ok:Nat->Bool)(I:Nat->World->Prop)(fp wp:Option Addr):Prop where
 call:∀k fv s,fs[k]? =some fv->ws[k]? =some s->∃F caps,fv=.func (.func F) #[] caps/\(∀args W,(callFunc F args).run Tryz.prog W=.ok (.enter F args) W)/\∀W,I k W->Calls Tryz.prog F (#[.string s]++caps) W fun q W'=>q=.returned (.bool (ok k))/\I (k+1) W'
 fat:∀k W,I k W->VAt W fp fs
 wat:∀k W,I k W->WAt W wp ws
structure MatP(n:Nat)(ok:Nat->Bool)(I:Nat->World->Prop)(q:Ending)(W':World):Prop where
 end_:(q=.returned (.bool true)/\(∀k,k<n->ok k=true)/\I n W')\/(q=.returned (.bool false)/\∃k,k<n/\ok k=false/\I (k+1) W')
theorem jdf(fs:List Value)(ws:List ByteArray)(ok:Nat->Bool)(I:Nat->World->Prop)(fp wp:Option Addr)(fc wc:Nat)(hK:MatK fs ws ok I fp wp)(hl:ws.length=fs.length)(hn:fs.length<=1000)(w:World)(hI:I 0 w):
  Calls Tryz.prog 25 #[.slice wp ws.length wc,.slice fp fs.length fc] w (MatP fs.length ok I):=by
 have hK:=hidQ hK
 have HL:=hidQ hl
 rw[hl]
 clear hl
 obtain⟨n,hnn⟩:∃x,fs.length=x:=⟨_,rfl⟩
 have HN:=hidQ hnn
 rw[hnn]at hn ⊢
 clear hnn
 go_enter Tryz.func25,Tryz.ntmps25
 go_wp2
 go_loopw [14] (fun i wr=>∃k:Nat,k<=n/\i=.int .i64 k/\Hid (∀j,j<k->ok j=true)/\I k wr) (fun i _=>n-(intOf i).toNat)
 case atStart=>exact⟨0,by omega,rfl,fun j hj=>by omega,hI⟩
 case round=>
  obtain⟨k,hk,rfl,hall,hB⟩:=hrel
  clear hI
  by_cases hlt:k<n
  ·obtain⟨fv,hfv⟩:∃x,fs[k]? =some x:=⟨_,List.getElem?_eq_getElem (by rw[HN.out];exact hlt)⟩
   obtain⟨s,hs⟩:∃x,ws[k]? =some x:=⟨_,List.getElem?_eq_getElem (by rw[HL.out,HN.out];exact hlt)⟩
   obtain⟨F,caps,rfl,hen,hC⟩:=hK.out.call k fv s hfv hs
   have hC:=hC wr hB
   obtain⟨b1,o1,rfl,c1⟩:=(hK.out.fat k wr hB).at hfv
   obtain⟨b2,o2,rfl,c2⟩:=(hK.out.wat k wr hB).at hs
   clear hB hfv hs
   go_wp2_with fail
   refine hC.mono ?_
   rintro q w2 ⟨rfl,hI2⟩
   cases hok:ok k
   ·have HO:=hidQ hok
    clear hok
    go_wp2
    go_ret
    exact⟨.inr ⟨rfl,k,hlt,HO.out,hI2⟩⟩
   ·have HO:Hid (∀j,j<k+1->ok j=true):=fun j hj=>by
     by_cases e:j=k
     ·subst e;exact hok
     ·exact hall.out j (by omega)
    clear hok
    go_wp2
    go_roundw
    case rel=>exact⟨k+1,by omega,by go_num,HO,hI2⟩
    case measure=>simp[intOf];omega
  ·have e:k=n:=by omega
   subst e
   go_wp2
   go_ret
   exact⟨.inl ⟨rfl,hall.out,hB⟩⟩
theorem jjd(n m:Nat)(fp wp:Option Addr)(fc wc:Nat)(w:World)(hl:m≠n):
  Calls Tryz.prog 25 #[.slice wp m wc,.slice fp n fc] w fun q W'=>q=.returned (.bool false)/\W'=w:=by
 have h1:((m:Int)==(n:Int))=false:=by simp;omega
 go_enter Tryz.func25,Tryz.ntmps25
 go_wp2
 go_ret
 exact⟨rfl,rfl⟩
end
section
open Go.RowKit
theorem jae(w:World)(b j:Nat)(u:Value):w.grownBy (w.setCell ⟨b,j,none⟩ u) (some b):=⟨rfl,rfl,rfl,by simp,fun k _ hk=>Below.heap_setCell _ _ _ k (fun e=>hk (by rw[e]))⟩
structure Ju(w:World)(b:Nat)(l:List Value)(ok:Bool)(q:Ending)(w':World):Prop where
 end_:q=.returned (.bool ok)
 grown:w.grownBy w' (some b)
 var:Zc w' b l
theorem jfa{w:World}{b j:Nat}{l:List Value}{v:Value}{ok:Bool}(h:Zc w b l):Ju w b (l.set j v) ok (.returned (.bool ok)) (w.setCell ⟨b,j,none⟩ v):=⟨rfl,jae w b j v,h.set v⟩
theorem jrb{w:World}{b:Nat}{l:List Value}{ok:Bool}(h:Zc w b l):Ju w b l ok (.returned (.bool ok)) w:=⟨rfl,⟨rfl,rfl,rfl,Nat.le_refl _,fun _ _ _=>rfl⟩,h⟩
def jcz(w:World)(p b j:Nat):Prop:=w.cell? ⟨p,0,none⟩=some (.pointer (some ⟨b,j,none⟩))
theorem jaw(t:ByteArray)(w:World):
  Calls Tryz.prog 14 #[.string t] w fun q w'=>q=.returned (.func (.func 26) #[] #[.pointer (some ⟨w.heap.size,0,none⟩)])/\w'=w.alloc (.cells #[.string t] 9):=by
 go_enter Tryz.func14,Tryz.ntmps14
 go_wp2
 go_ret
 exact⟨rfl,rfl⟩
theorem jcw(s t:ByteArray)(p:Nat)(w:World)(hp:w.cell? ⟨p,0,none⟩=some (.string t)):
  Calls Tryz.prog 26 #[.string s,.pointer (some ⟨p,0,none⟩)] w fun q w'=>q=.returned (.bool (s.toList==t.toList))/\w'=w:=by
 go_enter Tryz.func26,Tryz.ntmps26
 go_wp2
 go_ret
 exact⟨rfl,rfl⟩
theorem jco(p:Option Addr)(w:World):
  Calls Tryz.prog 326 #[.pointer p] w fun q w'=>q=.returned (.func (.func 340) #[] #[.pointer (some ⟨w.heap.size,0,none⟩)])/\w'=w.alloc (.cells #[.pointer p] 426):=by
 go_enter Tryz.func326,Tryz.ntmps326
 go_wp2
 go_ret
 exact⟨rfl,rfl⟩
theorem jca(s:ByteArray)(p b j:Nat)(l:List Value)(u:Value)(w:World)(hp:jcz w p b j)(hV:Zc w b l)(hu:l[j]? =some u):
  Calls Tryz.prog 340 #[.string s,.pointer (some ⟨p,0,none⟩)] w (Ju w b (l.set j (.string s)) true):=by
 have c:=hV.c j hu
 have f:=hV.f j hu
 have HW:=hidQ (jfa (j:=j) (v:=.string s) (ok:=true) hV)
 unfold jcz at hp
 clear hV hu
 go_enter Tryz.func340,Tryz.ntmps340
 go_wp2
 go_ret
 exact HW.out
theorem jd2(p:Option Addr)(w:World):
  Calls Tryz.prog 327 #[.pointer p] w fun q w'=>q=.returned (.func (.func 341) #[] #[.pointer (some ⟨w.heap.size,0,none⟩)])/\w'=w.alloc (.cells #[.pointer p] 47):=by
 go_enter Tryz.func327,Tryz.ntmps327
 go_wp2
 go_ret
 exact⟨rfl,rfl⟩
theorem je3(s:ByteArray)(p b j:Nat)(l:List Value)(u:Value)(w:World)(hp:jcz w p b j)(hV:Zc w b l)(hu:l[j]? =some u)(hs:s.size<=4):
  Calls Tryz.prog 341 #[.string s,.pointer (some ⟨p,0,none⟩)] w (Ju w b (l.set j (.int .i64 (drN s))) (digs s)):=by
 have c:=hV.c j hu
 have f:=hV.f j hu
 have HW:=hidQ (jfa (j:=j) (v:=.int .i64 (drN s)) (ok:=digs s) hV)
 unfold jcz at hp
 have hD:=fun w=>jap s w (by omega)
 clear hV hu
 go_enter Tryz.func341,Tryz.ntmps341
 go_wp2_with fail
 refine(hD _).mono ?_
 rintro q w1 ⟨rfl,rfl⟩
 go_wp2
 go_ret
 exact HW.out
def ja6:ByteArray:=⟨#[74,97,110,70,101,98,77,97,114,65,112,114,77,97,121,74,117,110,74,117,108,65,117,103,83,101,112,79,99,116,78,111,118,68,101,99]⟩
theorem jtp:(⟨#[74,97,110,70,101,98,77,97,114,65,112,114,77,97,121,74,117,110,74,117,108,65,117,103,83,101,112,79,99,116,78,111,118,68,101,99]⟩:ByteArray)=ja6:=rfl
theorem sp_bd(t:ByteArray):0<=spN ja6 t 12/\spN ja6 t 12<=11:=by
 have h:∀n k,k+n=12->spG ja6 t k n<=11:=fun n=>by
  induction n with
  |zero=>intro k _;simp[spG]
  |succ n ih=>
   intro k hk
   cases hb:spB ja6 t k
   ·rw[jlv hb (by omega)];exact ih _ (by omega)
   ·rw[jwe hb (by omega)];omega
 have:=h 12 0 rfl
 unfold spN
 split<;>omega
theorem je8(p:Option Addr)(w:World):
  Calls Tryz.prog 329 #[.pointer p] w fun q w'=>q=.returned (.func (.func 343) #[] #[.pointer (some ⟨w.heap.size,0,none⟩)])/\w'=w.alloc (.cells #[.pointer p] 47):=by
 go_enter Tryz.func329,Tryz.ntmps329
 go_wp2
 go_ret
 exact⟨rfl,rfl⟩
theorem jjc(s:ByteArray)(p b j:Nat)(l:List Value)(u:Value)(w:World)(hp:jcz w p b j)(hV:Zc w b l)(hu:l[j]? =some u):
  Calls Tryz.prog 343 #[.string s,.pointer (some ⟨p,0,none⟩)] w (Ju w b (l.set j (.int .i64 (1+spN ja6 s 12))) (spO ja6 s 12)):=by
 have c:=hV.c j hu
 have f:=hV.f j hu
 have HW:=hidQ (jfa (j:=j) (v:=.int .i64 (1+spN ja6 s 12)) (ok:=spO ja6 s 12) hV)
 unfold jcz at hp
 have hD:=fun w=>jei ja6 s 12 w rfl (by omega)
 have ⟨h1,h2⟩:=sp_bd s
 have hw:IntKind.i64.wrap (1+spN ja6 s 12)=1+spN ja6 s 12:=by rw[IntKind.wrap_i64];omega
 generalize spN ja6 s 12=n at *
 clear hV hu h1 h2
 go_enter Tryz.func343,Tryz.ntmps343
 go_wp2_with fail
 rw[jtp]
 refine(hD _).mono ?_
 rintro q w1 ⟨rfl,rfl⟩
 go_wp2
 go_ret
 exact HW.out
theorem jc5(p:Option Addr)(w:World):
  Calls Tryz.prog 331 #[.pointer p] w fun q w'=>q=.returned (.func (.func 347) #[] #[.pointer (some ⟨w.heap.size,0,none⟩)])/\w'=w.alloc (.cells #[.pointer p] 47):=by
 go_enter Tryz.func331,Tryz.ntmps331
 go_wp2
 go_ret
 exact⟨rfl,rfl⟩
theorem ju5{w w1:World}{b j:Nat}{l:List Value}{v:Value}{ok:Bool}(h:Zc w b l)(hb:Below w.heap.size w w1):Ju w b (l.set j v) ok (.returned (.bool ok)) (w1.setCell ⟨b,j,none⟩ v):=
 ⟨rfl,⟨hb.os,hb.tape,hb.output,by simpa using hb.size,fun k hk hn=>(Below.heap_setCell _ _ _ k (fun e=>hn (by rw[e]))).trans (hb.block k hk)⟩,(h.below hb).set v⟩
theorem jct(s:ByteArray)(p b j:Nat)(l:List Value)(u:Value)(w:World)(hp:jcz w p b j)(hV:Zc w b l)(hu:l[j]? =some u)(hs:s.size<=maxLen):
  Calls Tryz.prog 347 #[.string s,.pointer (some ⟨p,0,none⟩)] w (Ju w b (l.set j (.int .i64 (orNN s))) (decide (orCC s=0))):=by
 have hlt:=qbl (hV.c j hu)
 have HW:=hidQ (fun w1 (h:Below w.heap.size w w1)=>ju5 (j:=j) (v:=.int .i64 (orNN s)) (ok:=decide (orCC s=0)) hV h)
 unfold jcz at hp
 have hD:=fun w=>jfi s w hs
 generalize orNN s=N at *
 generalize orCC s=C at *
 go_enter Tryz.func347,Tryz.ntmps347
 go_wp2_with fail
 refine(hD _).mono ?_
 rintro q w1 ⟨rfl,hb1⟩
 have b2:=hb1.trans ((qal w1 (.cells #[.int .i64 N,.int .i64 C] 219)).mono hb1.size)
 have HX:=hidQ (HW.out _ b2)
 have c:=jab b2 (hV.c j hu)
 have f:=((jal b2).2 _ _ hlt).trans (hV.f j hu)
 have z:=jab b2 hp
 have hne:¬b=w1.heap.size:=by have:=hb1.size;omega
 have hne2:¬w1.heap.size=b:=by omega
 have hpl:=qbl hp
 have hnp:¬p=w1.heap.size:=by have:=hb1.size;simp at hpl;omega
 have hcc:(C==0)=decide (C=0):=rfl
 clear hV hu HW hp hb1 b2 hpl hlt
 go_wp2
 go_ret
 exact HX.out
theorem jjg(p:Option Addr)(w:World):
  Calls Tryz.prog 332 #[.pointer p] w fun q w'=>q=.returned (.func (.func 349) #[] #[.pointer (some ⟨w.heap.size,0,none⟩)])/\w'=w.alloc (.cells #[.pointer p] 426):=by
 go_enter Tryz.func332,Tryz.ntmps332
 go_wp2
 go_ret
 exact⟨rfl,rfl⟩
def letW(s:ByteArray)(l:List Value)(j:Nat):List Value:=if (s.toList==[45])=true then l else l.set j (.string s)
theorem jhs(s:ByteArray)(p b j:Nat)(l:List Value)(u:Value)(w:World)(hp:jcz w p b j)(hV:Zc w b l)(hu:l[j]? =some u):
  Calls Tryz.prog 349 #[.string s,.pointer (some ⟨p,0,none⟩)] w (Ju w b (letW s l j) true):=by
 have c:=hV.c j hu
 have f:=hV.f j hu
 unfold jcz at hp
 unfold letW
 cases h:(s.toList==[45])
 ·have HW:=hidQ (jfa (j:=j) (v:=.string s) (ok:=true) hV)
  rw[if_neg (by simp)]
  clear hV hu
  go_enter Tryz.func349,Tryz.ntmps349
  go_wp2
  go_ret
  exact HW.out
 ·have HW:=hidQ (jrb (ok:=true) hV)
  rw[if_pos rfl]
  clear hV hu
  go_enter Tryz.func349,Tryz.ntmps349
  go_wp2
  go_ret
  exact HW.out
end
section
open Go.RowKit
theorem jp6(p:Option Addr)(w:World):
  Calls Tryz.prog 328 #[.pointer p] w fun q w'=>q=.returned (.func (.func 342) #[] #[.pointer (some ⟨w.heap.size,0,none⟩)])/\w'=w.alloc (.cells #[.pointer p] 428):=by
 go_enter Tryz.func328,Tryz.ntmps328
 go_wp2
 go_ret
 exact⟨rfl,rfl⟩
def toW(s:ByteArray):Int:=if (s.toList==[109,97,120])=true then 9999 else drN s
def toB(s:ByteArray):Bool:=(s.toList==[109,97,120]) || digs s
theorem jn3(s:ByteArray)(p b:Nat)(l:List Value)(u:Value)(w:World)(hp:jcz w p b 0)(hV:Zc w b l)(hu:l[2]? =some u)(h1:(s.toList==[111,110,108,121])=false)(hs:s.size<=4):
  Calls Tryz.prog 342 #[.string s,.pointer (some ⟨p,0,none⟩)] w (Ju w b (l.set 2 (.int .i64 (toW s))) (toB s)):=by
 have c:=hV.c 2 hu
 have f:=hV.f 2 hu
 have hbl:=qbl c
 unfold jcz at hp
 unfold toW toB
 cases h2:(s.toList==[109,97,120])
 ·rw[if_neg (by simp)]
  have hy:=jd2 (some ⟨b,2,none⟩) w
  have b1:=qal w (.cells #[.pointer (some ⟨b,2,none⟩)] 47)
  have hB:jcz (w.alloc (.cells #[.pointer (some ⟨b,2,none⟩)] 47)) w.heap.size b 2:=by simp[jcz]
  have hC:=hidQ (je3 s w.heap.size b 2 l u _ hB (hV.below b1) hu hs)
  have HG:=hidQ (fun w' (h:(w.alloc (.cells #[.pointer (some ⟨b,2,none⟩)] 47)).grownBy w' (some b))=>(World.grownBy_alloc w (.cells #[.pointer (some ⟨b,2,none⟩)] 47) (some b)).trans h)
  clear hV hu b1 hB
  go_enter Tryz.func342,Tryz.ntmps342
  go_wp2_with fail
  refine hy.mono ?_
  rintro q w1 ⟨rfl,rfl⟩
  go_wp2_with fail
  refine hC.out.mono ?_
  rintro q w2 hP
  obtain rfl:=hP.end_
  have hg:=HG.out _ hP.grown
  have hv:=hP.var
  clear hP hC HG
  go_wp2
  go_ret
  exact⟨by simp,hg,hv⟩
 ·rw[if_pos rfl]
  have HW:=hidQ (jfa (j:=2) (v:=.int .i64 9999) (ok:=true) hV)
  clear hV hu
  go_enter Tryz.func342,Tryz.ntmps342
  go_wp2
  go_ret
  exact HW.out
theorem jb4{w w':World}(h:Below w.heap.size w w')(b:Nat):w.grownBy w' (some b):=⟨h.os,h.tape,h.output,h.size,fun k hk _=>h.block k hk⟩
theorem jf0(pa pb:Option Addr)(w:World):
  Calls Tryz.prog 330 #[.pointer pa,.pointer pb] w fun q w'=>q=.returned (.func (.func 344) #[] #[.pointer (some ⟨w.heap.size+1,0,none⟩),.pointer (some ⟨w.heap.size,0,none⟩)])/\w'=(w.alloc (.cells #[.pointer pa] 47)).alloc (.cells #[.pointer pb] 426):=by
 go_enter Tryz.func330,Tryz.ntmps330
 go_wp2
 go_ret
 exact⟨rfl,rfl⟩
structure UtcW(s r:ByteArray):Prop where
 fw:Lib.hasSuffix s.data.toList [119]=false
 fs:Lib.hasSuffix s.data.toList [115]=false
 fu:Lib.hasSuffix s.data.toList [117]=true
 fr:(⟨(Lib.trimSuffix s.data.toList [117]).toArray⟩:ByteArray)=r
 fp:Lib.hasPrefix r.data.toList [45]=false
set_option maxRecDepth 20000 in
theorem jkf(s r:ByteArray)(p1 p2 b jo ja:Nat)(l:List Value)(u v:Value)(w:World)(h1:jcz w p1 b jo)(h2:jcz w p2 b ja)(hV:Zc w b l)(hu:l[jo]? =some u)(hv:l[ja]? =some v)(hne:jo≠ja)(hn1:p1≠b)(hn2:p2≠b)(hs:s.size<=maxLen)(hr:r.size<=maxLen)(hU:UtcW s r):
  Calls Tryz.prog 344 #[.string s,.pointer (some ⟨p1,0,none⟩),.pointer (some ⟨p2,0,none⟩)] w (Ju w b ((l.set jo (.string ⟨#[117]⟩)).set ja (.int .i64 (orNN r))) (decide (orCC r=0))):=by
 have hm:maxLen<=9223372036854775807:=by decide
 have k1:=fun W=>Tryz.strings_CutSuffix s ⟨#[119]⟩ W (by omega)
 have k2:=fun W=>Tryz.strings_CutSuffix s ⟨#[115]⟩ W (by omega)
 have k3:=fun W=>Tryz.strings_CutSuffix s ⟨#[117]⟩ W (by omega)
 have k4:=fun W=>Tryz.strings_HasPrefix r ⟨#[45]⟩ W
 rw[show(⟨#[119]⟩:ByteArray).data.toList=[119]from rfl,hU.fw]at k1
 rw[show(⟨#[115]⟩:ByteArray).data.toList=[115]from rfl,hU.fs]at k2
 rw[show(⟨#[117]⟩:ByteArray).data.toList=[117]from rfl,hU.fu,hU.fr]at k3
 rw[show(⟨#[45]⟩:ByteArray).data.toList=[45]from rfl,hU.fp]at k4
 have i0:∀(w:World) (x0 x1 x2:Value),(Instr.index 437 (.agg #[x0,x1,x2]) (.int .i64 0)).run Tryz.prog w=.ok x0 w:=fun _ _ _ _=>by kernel_rfl
 have i1:∀(w:World) (x0 x1 x2:Value),(Instr.index 437 (.agg #[x0,x1,x2]) (.int .i64 1)).run Tryz.prog w=.ok x1 w:=fun _ _ _ _=>by kernel_rfl
 have i2:∀(w:World) (x0 x1 x2:Value),(Instr.index 437 (.agg #[x0,x1,x2]) (.int .i64 2)).run Tryz.prog w=.ok x2 w:=fun _ _ _ _=>by kernel_rfl
 have c:=hV.c jo hu
 have f:=hV.f jo hu
 unfold jcz at h1 h2
 have hp1:=qbl h1
 have hp2:=qbl h2
 have hbl:=qbl c
 have V1:=hV.set (j:=jo) (.string ⟨#[119]⟩)
 have V2:=V1.set (j:=jo) (.string ⟨#[117]⟩)
 rw[List.set_set]at V2
 have hl2:(l.set jo (.string ⟨#[117]⟩))[ja]? =some v:=by rw[List.getElem?_set_ne hne];exact hv
 have hof:=fun W=>jc5 (some ⟨b,ja,none⟩) W
 have g1:=(jae w b jo (.string ⟨#[119]⟩)).trans (jae _ b jo (.string ⟨#[117]⟩))
 have y1:(w.setCell ⟨b,jo,none⟩ (.string ⟨#[119]⟩)).cell? ⟨p1,0,none⟩=some (.pointer (some ⟨b,jo,none⟩)):=(jae w b jo _).cell h1 (by simpa using hn1)
 have y2:=g1.cell h2 (by simpa using hn2)
 have cW:=V1.c jo (u:=.string ⟨#[119]⟩) (by rw[List.getElem?_set_self (List.getElem?_eq_some_iff.mp hu).1])
 have fW:=V1.f jo (u:=.string ⟨#[119]⟩) (by rw[List.getElem?_set_self (List.getElem?_eq_some_iff.mp hu).1])
 have HV2:=hidQ V2
 have HY:=hidQ h2
 have HG1:=hidQ g1
 clear hV hu hv V1 V2 g1 h2
 go_enter Tryz.func344,Tryz.ntmps344
 go_wp2
 generalize w.setCell ⟨b,jo,none⟩ (.string ⟨#[119]⟩)=W1 at *
 go_loopw [0,12] (fun v0 i wr=>∃k:Nat,k<=2/\v0=.string s/\i=.int .i64 k/\wr=W1) (fun _ i _=>3-(intOf i).toNat)
 case atStart=>exact⟨0,by omega,rfl,rfl,rfl⟩
 case round=>
  obtain⟨k,hk,rfl,rfl,rfl⟩:=hrel
  have hk3:k=0\/k=1\/k=2:=by omega
  clear hk
  rcases hk3 with rfl|rfl|rfl
  ·go_wp2_with fail
   refine(k1 _).mono ?_
   rintro q w2 ⟨rfl,rfl⟩
   go_wp2
   go_roundw
   case rel=>exact⟨1,by omega,by simp⟩
   case measure=>simp[intOf]
  ·go_wp2_with fail
   refine(k2 _).mono ?_
   rintro q w2 ⟨rfl,rfl⟩
   go_wp2
   go_roundw
   case rel=>exact⟨2,by omega,by simp⟩
   case measure=>simp[intOf]
  ·go_wp2_with fail
   refine(k3 _).mono ?_
   rintro q w2 ⟨rfl,rfl⟩
   go_wp2_with fail
   have HG2:=hidQ (HG1.out.trans (jb4 (jaa _) b))
   have V3:=HV2.out.below (jaa _)
   clear HG1 HV2
   go_region
   generalize (w2.setCell ⟨b,jo,none⟩ (.string ⟨#[117]⟩)).drew=W3 at *
   have z2:=HG2.out.cell HY.out (by simpa using hn2)
   have b4:=qal W3 (.cells #[.pointer (some ⟨b,ja,none⟩)] 47)
   have hB:jcz (W3.alloc (.cells #[.pointer (some ⟨b,ja,none⟩)] 47)) W3.heap.size b ja:=by simp[jcz]
   have hC:=hidQ (jct r W3.heap.size b ja _ v _ hB (V3.below b4) hl2 hr)
   have HG:=hidQ (fun w' (h:(W3.alloc (.cells #[.pointer (some ⟨b,ja,none⟩)] 47)).grownBy w' (some b))=>HG2.out.trans ((World.grownBy_alloc W3 (.cells #[.pointer (some ⟨b,ja,none⟩)] 47) (some b)).trans h))
   clear HG2 V3 b4 hB
   go_wp2_with fail
   refine(k4 _).mono ?_
   rintro q w4 ⟨rfl,rfl⟩
   go_wp2_with fail
   refine(hof _).mono ?_
   rintro q w5 ⟨rfl,rfl⟩
   go_wp2_with fail
   refine hC.out.mono ?_
   rintro q w6 hP
   obtain rfl:=hP.end_
   have hg:=HG.out _ hP.grown
   have hv:=hP.var
   clear hP hC HG
   go_wp2
   go_ret
   exact⟨by simp,hg,hv⟩
theorem jkj(p:Option Addr)(w:World):
  Calls Tryz.prog 339 #[.pointer p] w fun q w'=>q=.returned (.func (.func 352) #[] #[.pointer (some ⟨w.heap.size,0,none⟩)])/\w'=w.alloc (.cells #[.pointer p] 435):=by
 go_enter Tryz.func339,Tryz.ntmps339
 go_wp2
 go_ret
 exact⟨rfl,rfl⟩
theorem ji7(s:ByteArray)(p b:Nat)(l:List Value)(u:Value)(w:World)(hp:jcz w p b 0)(hV:Zc w b l)(hu:l[1]? =some u)(hs:s.size<=maxLen)(hn:jbs s=true):
  Calls Tryz.prog 352 #[.string s,.pointer (some ⟨p,0,none⟩)] w (Ju w b (l.set 1 (.string s)) true):=by
 have c:=hV.c 1 hu
 have f:=hV.f 1 hu
 have HW:=hidQ (jfa (j:=1) (v:=.string s) (ok:=true) hV)
 have hN:=fun W=>jau s W hs
 rw[hn]at hN
 unfold jcz at hp
 clear hV hu hn
 go_enter Tryz.func352,Tryz.ntmps352
 go_wp2_with fail
 refine(hN _).mono ?_
 rintro q w1 ⟨rfl,rfl⟩
 go_wp2
 go_ret
 exact HW.out
theorem ja7(p:Option Addr)(w:World):
  Calls Tryz.prog 16 #[.pointer p] w fun q w'=>q=.returned (.func (.func 28) #[] #[.pointer (some ⟨w.heap.size,0,none⟩)])/\w'=w.alloc (.cells #[.pointer p] 47):=by
 go_enter Tryz.func16,Tryz.ntmps16
 go_wp2
 go_ret
 exact⟨rfl,rfl⟩
def nrB(s:ByteArray):Bool:=digs s&&((s.toList==[48]) || (jac s 0 != 48))
theorem jhq(s:ByteArray)(p b j:Nat)(l:List Value)(u:Value)(w:World)(hp:jcz w p b j)(hV:Zc w b l)(hu:l[j]? =some u)(hs:s.size<=9)(h1:1<=s.size):
  Calls Tryz.prog 28 #[.string s,.pointer (some ⟨p,0,none⟩)] w (Ju w b (l.set j (.int .i64 (drN s))) (nrB s)):=by
 have c:=hV.c j hu
 have f:=hV.f j hu
 have HW:=hidQ (jfa (j:=j) (v:=.int .i64 (drN s)) (ok:=nrB s) hV)
 have hD:=fun w=>jap s w hs
 have hbe:=jaf s 0 h1
 unfold jcz at hp
 unfold nrB at HW ⊢
 generalize digs s=dg at *
 generalize drN s=nn at *
 generalize jac s 0=c0 at *
 clear hV hu
 cases dg
 ·go_enter Tryz.func28,Tryz.ntmps28
  go_wp2_with fail
  refine(hD _).mono ?_
  rintro q w1 ⟨rfl,rfl⟩
  go_wp2
  go_ret
  exact HW.out
 cases h0:(s.toList==[48])
 ·rw[h0]at HW
  go_enter Tryz.func28,Tryz.ntmps28
  go_wp2_with fail
  refine(hD _).mono ?_
  rintro q w1 ⟨rfl,rfl⟩
  go_wp2
  go_ret
  exact HW.out
 ·rw[h0]at HW
  go_enter Tryz.func28,Tryz.ntmps28
  go_wp2_with fail
  refine(hD _).mono ?_
  rintro q w1 ⟨rfl,rfl⟩
  go_wp2
  go_ret
  exact HW.out
end
section
open Go.RowKit
def jak(w:World):List (List Value × TypeId)->World
 |[]=>w
 |(c,t)::l=>jak (w.alloc (.cells c.toArray t)) l
theorem jax:∀(L:List (List Value × TypeId)) (w:World),Below w.heap.size w (jak w L)
 |[],w=>Below.refl _ _
 |(c,t)::l,w=>by
  have b1:=qal w (.cells c.toArray t)
  exact b1.trans ((jax l _).mono b1.size)
theorem jc9:∀(L:List (List Value × TypeId)) (w:World),(jak w L).heap.size=w.heap.size+L.length
 |[],w=>rfl
 |(c,t)::l,w=>by
  have:=jc9 l (w.alloc (.cells c.toArray t))
  simp only[jak,List.length_cons]
  rw[this]
  simp
  omega
theorem jpa:∀(L:List (List Value × TypeId)) (w:World) (i:Nat) (c:List Value) (t:TypeId),L[i]? =some (c,t)->(jak w L).heap[w.heap.size+i]? =some (.cells c.toArray t (0,0))
 |[],w,i,c,t,h=>by simp at h
 |(c',t')::l,w,0,c,t,h=>by
  obtain⟨rfl,rfl⟩:=Prod.mk.inj (Option.some.inj h)
  have b:=jax l (w.alloc (.cells c'.toArray t'))
  exact(b.block _ (by simp)).trans (heap_alloc_new w _)
 |(c',t')::l,w,i+1,c,t,h=>by
  have:=jpa l (w.alloc (.cells c'.toArray t')) i c t h
  simp only[jak]
  rw[show w.heap.size+(i+1)=(w.alloc (.cells c'.toArray t')).heap.size+i by simp;omega]
  exact this
theorem jch(L:List (List Value × TypeId))(w:World)(i:Nat){c:List Value}{t:TypeId}(h:L[i]? =some (c,t)):Zc (jak w L) (w.heap.size+i) c:=fun j u hu=>by
 have hh:=jpa L w i c t h
 constructor
 ·simp[World.cell?,hh,List.getElem?_toArray,hu]
 ·simp[World.frozen?,hh]
theorem jao(L:List (List Value × TypeId))(w:World)(i:Nat){v:Value}{t:TypeId}(h:L[i]? =some ([v],t)):(jak w L).cell? ⟨w.heap.size+i,0,none⟩=some v:=(jch L w i h).c 0 rfl
theorem jex(L:List (List Value × TypeId))(w:World)(i:Nat){c:List Value}{t:TypeId}(h:L[i]? =some (c,t)):VAt (jak w L) (some ⟨w.heap.size+i,0,none⟩) c:=.inr ⟨_,_,rfl,fun j v hv=>by rw[Nat.zero_add];exact(jch L w i h).c j hv⟩
theorem Zc.app{w w':World}{b:Nat}{l:List Value}{row:Option Nat}(h:Zc w b l)(hg:w.grownBy w' row)(hne:some b≠row):Zc w' b l:=fun i u hu=>by
 obtain⟨a1,a2⟩:=h i u hu
 exact⟨hg.cell a1 hne,(hg.frozen_far _ (qbl a1) hne).trans a2⟩
theorem jbh{W W' w'':World}{b:Nat}{l':List Value}{q:Ending}{ok:Bool}(hg:W.grownBy W' (some b))(hP:Ju W' b l' ok q w''):q=.returned (.bool ok)/\W.grownBy w'' (some b)/\Zc w'' b l':=⟨hP.end_,hg.trans hP.grown,hP.var⟩
end
end Go.Proofs.YtofdpfpdocpbpaaGreatDoor
