/- Packed. -/
import Derived.Test.YtofdpfpdocpbpaaGreatDoorSAd
import Derived.Test.YtofdpfpdocpbpaaGreatDoorBasePd
import Derived.Test.YtofdpfpdocpbpaaGreatDoorRightQd
import Derived.Test.YtofdpfpdocpbpaaGreatDoorStrQd
import Derived.Laws.StructEq
import Derived.Lib.QuietBelow
import Derived.BigQuiet
import Derived.Maps.OwnSet
set_option maxRecDepth 100000
set_option maxHeartbeats 20000000
set_option linter.unusedSimpArgs false
namespace Go.Proofs.YtofdpfpdocpbpaaGreatDoor
section
open Go.RowKit
def jc6(e:EventD):Bool:=isB e.id 1 1000000&&(jbs e.name&&(jbs e.zone&&(isB e.wall (-62135596800) 253402300799&&(isB e.gap 0 2&&isB e.fold 0 2))))
theorem jek(e:EventD)(w:World)(m1:e.name.size<=maxLen)(m2:e.zone.size<=maxLen):
  Calls Tryz.prog 51 #[e.v] w fun r w'=>r=.returned (.bool (jc6 e))/\Below w.heap.size w w':=by
 obtain⟨id,name,zone,wall,gap,fold⟩:=e
 simp only[EventD.v,jc6]at *
 have hB:=qal w (.cells #[.int .i64 id,.string name,.string zone,.int .i64 wall,.int .i64 gap,.int .i64 fold] 99)
 have k1:=fun w=>jau name w m1
 have k2:=fun w=>jau zone w m2
 have k3:=fun w=>jhg wall w
 have k4:=fun w=>jbx gap w
 have k5:=fun w=>jbx fold w
 cases h0:isB id 1 1000000
 case false=>
  have q:¬((1:Int)<=id/\id<=1000000):=of_decide_eq_false h0
  clear h0
  by_cases q1:(1:Int)<=id
  ·have q2:¬id<=1000000:=fun h=>q ⟨q1,h⟩
   clear q
   go_enter Tryz.func51,Tryz.ntmps51
   go_wp2
   go_ret
   exact⟨rfl,hB⟩
  ·clear q
   go_enter Tryz.func51,Tryz.ntmps51
   go_wp2
   go_ret
   exact⟨rfl,hB⟩
 obtain⟨q1,q2⟩:=jbw h0
 clear h0
 go_enter Tryz.func51,Tryz.ntmps51
 go_wp2_with fail
 refine(k1 _).mono ?_
 rintro e wx ⟨rfl,hwx⟩
 have hwy:=hwx.symm
 clear hwx
 subst hwy
 cases h1:jbs name
 case false=>
  have H1:=hid h1
  clear h1
  go_wp2
  go_ret
  exact⟨ret_bool (by rw[H1.out];rfl),hB⟩
 have H1:=hid h1
 clear h1
 go_wp2_with fail
 refine(k2 _).mono ?_
 rintro e wx ⟨rfl,hwx⟩
 have hwy:=hwx.symm
 clear hwx
 subst hwy
 cases h2:jbs zone
 case false=>
  have H2:=hid h2
  clear h2
  go_wp2
  go_ret
  exact⟨ret_bool (by rw[H1.out,H2.out];rfl),hB⟩
 have H2:=hid h2
 clear h2
 go_wp2_with fail
 refine(k3 _).mono ?_
 rintro e wx ⟨rfl,hwx⟩
 have hwy:=hwx.symm
 clear hwx
 subst hwy
 cases h3:isB wall (-62135596800) 253402300799
 case false=>
  have H3:=hid h3
  clear h3
  go_wp2
  go_ret
  exact⟨ret_bool (by rw[H1.out,H2.out,H3.out];rfl),hB⟩
 have H3:=hid h3
 clear h3
 go_wp2_with fail
 refine(k4 _).mono ?_
 rintro e wx ⟨rfl,hwx⟩
 have hwy:=hwx.symm
 clear hwx
 subst hwy
 cases h4:isB gap 0 2
 case false=>
  have H4:=hid h4
  clear h4
  go_wp2
  go_ret
  exact⟨ret_bool (by rw[H1.out,H2.out,H3.out,H4.out];rfl),hB⟩
 have H4:=hid h4
 clear h4
 go_wp2_with fail
 refine(k5 _).mono ?_
 rintro e wx ⟨rfl,hwx⟩
 have hwy:=hwx.symm
 clear hwx
 subst hwy
 cases h5:isB fold 0 2
 case false=>
  have H5:=hid h5
  clear h5
  go_wp2
  go_ret
  exact⟨ret_bool (by rw[H1.out,H2.out,H3.out,H4.out,H5.out];rfl),hB⟩
 have H5:=hid h5
 clear h5
 go_wp2
 go_ret
 exact⟨ret_bool (by rw[H1.out,H2.out,H3.out,H4.out,H5.out];rfl),hB⟩
end
section
open Go.RowKit Go.Sort
def jio(a b:EventD):Bool:=decide (a.id=b.id)&&((a.name.toList==b.name.toList)&&((a.zone.toList==b.zone.toList)&&(decide (a.wall=b.wall)&&(decide (a.gap=b.gap)&&decide (a.fold=b.fold)))))
theorem joz : ∃ a b c d e f g h i j k l m n o p q r, (Tryz.prog.fieldsOf 99).toList = [⟨ "Id", 2, 0, false, a, b, c⟩, ⟨ "Name", 9, 1, false, d, e, f⟩, ⟨ "Zone", 9, 2, false, g, h, i⟩, ⟨ "Wall", 2, 3, false, j, k, l⟩, ⟨ "Gap", 2, 4, false, m, n, o⟩, ⟨ "Fold", 2, 5, false, p, q, r⟩] := ⟨_, _, _, _, _, _, _, _, _, _, _, _, _, _, _, _, _, _, rfl⟩
theorem j2k(a b:EventD)(w:World):(Op.equalIn 10000 99 (.agg #[.int .i64 a.id,.string a.name,.string a.zone,.int .i64 a.wall,.int .i64 a.gap,.int .i64 a.fold]) (.agg #[.int .i64 b.id,.string b.name,.string b.zone,.int .i64 b.wall,.int .i64 b.gap,.int .i64 b.fold])).run Tryz.prog w=.ok (jio a b) w:=by
 have ht:Tryz.prog.underlying 99=some (.struct (Tryz.prog.fieldsOf 99)):=by kernel_rfl
 have hp:Tryz.prog.stoodInHeld 99=false:=by kernel_rfl
 obtain⟨_,_,_,_,_,_,_,_,_,_,_,_,_,_,_,_,_,_,hf⟩:=joz
 rw[run_equalIn_agg _ 9999 _ _ _ ht hp,hf]
 obtain⟨a1,a2,a3,a4,a5,a6⟩:=a
 obtain⟨b1,b2,b3,b4,b5,b6⟩:=b
 simp only[jio]
 simp[Op.eqFields,go_sem]
 by_cases h1:a1=b1
 ·by_cases h2:a2.toList=b2.toList
  ·by_cases h3:a3.toList=b3.toList
   ·by_cases h4:a4=b4
    ·by_cases h5:a5=b5
     ·by_cases h6:a6=b6
      ·simp[h1,h2,h3,h4,h5,h6]
      ·simp[h1,h2,h3,h4,h5,h6]
     ·simp[h1,h2,h3,h4,h5]
    ·simp[h1,h2,h3,h4]
   ·simp[h1,h2,h3]
  ·simp[h1,h2]
 ·simp[h1]
theorem jyu(a b:EventD)(w:World):(binOp .eql 99 (.agg #[.int .i64 a.id,.string a.name,.string a.zone,.int .i64 a.wall,.int .i64 a.gap,.int .i64 a.fold]) (.agg #[.int .i64 b.id,.string b.name,.string b.zone,.int .i64 b.wall,.int .i64 b.gap,.int .i64 b.fold])).run Tryz.prog w=.ok (.bool (jio a b)) w:=by
 rw[run_eql_struct,j2k];rfl
theorem jql(op:BinOp)(x y:Operand)(v1 v2:Array Value)(w:World):(eqGuard op 99 x y (.agg v1) (.agg v2)).run Tryz.prog w=.ok () w:=run_eqGuard_agg w _ _ _ _ _ _ (by kernel_rfl)
def jkw(l:List VersionD)(i:Nat)(v:VersionD):Bool:=match jbk (l.take i) v.id with
 |some e=>jio e v.ev
 |none=>false
def jne(l:List VersionD):Nat->Int
 |0=>0
 |k+1=>match l[k]? with
  |some v=>v.tx
  |none=>0
end
section
open Go.RowKit
def txI(l:List VersionD)(stx:Int)(i:Nat)(v:VersionD):Bool:=decide (jne l i<v.tx)&&(decide (v.tx<=stx)&&jc6 v.ev)
def txK(l:List VersionD)(stx:Int):Nat->Bool
 |0=>true
 |k+1=>txK l stx k&&(match l[k]? with
  |some v=>txI l stx k v
  |none=>true)
def txB(l:List VersionD)(stx:Int):Bool:=decide (l.length<=60)&&txK l stx l.length
theorem j3n{l:List VersionD}{stx:Int}{k:Nat}{v:VersionD}(hv:l[k]? =some v)(h:txI l stx k v=false):∀{n:Nat},k<n->txK l stx n=false:=by
 intro n
 induction n with
 |zero=>intro hn;omega
 |succ n ih=>
  intro hn
  rw[txK]
  by_cases e:k=n
  ·subst e;rw[hv];simp[h]
  ·rw[ih (by omega)];rfl
theorem j4m{l:List VersionD}{stx:Int}{k:Nat}{v:VersionD}(hv:l[k]? =some v)(h:txI l stx k v=true)(hk:txK l stx k=true):txK l stx (k+1)=true:=by rw[txK,hk,hv];simp[h]
theorem jz2{l:List VersionD}{stx:Int}(h:¬l.length<=60):txB l stx=false:=by unfold txB;rw[decide_eq_false h];rfl
theorem j7u{l:List VersionD}{stx:Int}(h:l.length<=60):txB l stx=txK l stx l.length:=by unfold txB;rw[decide_eq_true h];rfl
def jcy(l:List VersionD):Nat->Bool
 |0=>true
 |k+1=>jcy l k&&(match l[k]? with
  |some v=> !v.gone || jkw l k v
  |none=>true)
theorem jfz(l:List VersionD)(stx cur:Int)(r0 r1 r2 r3 r4 r5 va ia:Option Addr)(p0 q0 p1 q1 p2 q2 p3 q3 p4 q4 p5 q5 n cv ni ci:Nat)(w:World)(hA:Zd w va 8 (l.map VersionD.cs))(hok:∀v∈l,v.ok)(hn:l.length=n)(hl:n<=1048576):
  Calls Tryz.prog 34 #[.agg #[.int .i64 stx,.slice r0 p0 q0,.slice r1 p1 q1,.slice r2 p2 q2,.slice r3 p3 q3,.slice r4 p4 q4,.slice r5 p5 q5,.int .i64 cur,.slice va n cv,.slice ia ni ci]] w fun e w'=>e=.returned (.bool (txB l stx))/\Below w.heap.size w w':=by
 have hB0:Below w.heap.size w (w.alloc (.cells #[.int .i64 stx,.slice r0 p0 q0,.slice r1 p1 q1,.slice r2 p2 q2,.slice r3 p3 q3,.slice r4 p4 q4,.slice r5 p5 q5,.int .i64 cur,.slice va n cv,.slice ia ni ci] 60)):=qal _ _
 by_cases h60:60<n
 ·rw[jz2 (by omega)]
  have h61:(60:Int)<(n:Int):=by omega
  go_enter Tryz.func34,Tryz.ntmps34
  go_wp2
  go_ret
  exact⟨rfl,hB0⟩
 have h61:¬(60:Int)<(n:Int):=by omega
 obtain⟨VB,hVB⟩:∃x,txB l stx=x:=⟨_,rfl⟩
 have HV:Hid (VB=txK l stx n):=by simp only[Hid];rw[<- hVB,j7u (by omega),hn]
 rw[hVB]
 clear hVB
 have HN:=hid hn
 have HO:=hid hok
 have s0:(w.alloc (.cells #[.int .i64 stx,.slice r0 p0 q0,.slice r1 p1 q1,.slice r2 p2 q2,.slice r3 p3 q3,.slice r4 p4 q4,.slice r5 p5 q5,.int .i64 cur,.slice va n cv,.slice ia ni ci] 60)).cell? ⟨w.heap.size,0,none⟩=some (.int .i64 stx):=by simp[go_sem]
 have hA0:=hA.below hB0
 clear hn hok hA
 go_enter Tryz.func34,Tryz.ntmps34
 go_wp2
 generalize (w.alloc (.cells #[.int .i64 stx,.slice r0 p0 q0,.slice r1 p1 q1,.slice r2 p2 q2,.slice r3 p3 q3,.slice r4 p4 q4,.slice r5 p5 q5,.int .i64 cur,.slice va n cv,.slice ia ni ci] 60))=w0 at *
 go_loopw [3,13] (fun t s wr=>∃i:Nat,i<=n/\s=.int .i64 i/\t=.int .i64 (jne l i)/\Hid (txK l stx i=true)/\Below w0.heap.size w0 wr) (fun _ s _=>n-(intOf s).toNat)
 case atStart=>exact⟨0,by omega,rfl,rfl,rfl,Below.refl _ _⟩
 case round=>
  obtain⟨wa,hwa⟩:∃x:World,x=wr:=⟨_,rfl⟩
  subst hwa
  obtain⟨i,hin,rfl,rfl,HK,hBr⟩:=hrel
  have t0:=jab hBr s0
  have hAw:=hA0.below hBr
  have hBx:=qtr hB0 hBr
  clear s0 hA0 hB0
  by_cases hlt:i<n
  ·have a1:(i:Int)<(n:Int):=by omega
   obtain⟨v,hv⟩:∃v,l[i]? =some v:=⟨_,List.getElem?_eq_getElem (by have:=HN.out;omega)⟩
   have hrow:(l.map VersionD.cs)[i]? =some v.cs:=by rw[List.getElem?_map,hv];rfl
   obtain⟨b,ob,rfl,hc⟩:=hAw.at (i:=i) hrow
   have c0:wa.cell? ⟨b,ob+i*8,none⟩=some (.int .i64 v.tx):=hc 0 _ rfl
   have c1:wa.cell? ⟨b,ob+i*8+1,none⟩=some (.bool v.gone):=hc 1 _ rfl
   have c2:wa.cell? ⟨b,ob+i*8+2,none⟩=some (.int .i64 v.id):=hc 2 _ rfl
   have c3:wa.cell? ⟨b,ob+i*8+3,none⟩=some (.string v.name):=hc 3 _ rfl
   have c4:wa.cell? ⟨b,ob+i*8+4,none⟩=some (.string v.zone):=hc 4 _ rfl
   have c5:wa.cell? ⟨b,ob+i*8+5,none⟩=some (.int .i64 v.wall):=hc 5 _ rfl
   have c6:wa.cell? ⟨b,ob+i*8+6,none⟩=some (.int .i64 v.gap):=hc 6 _ rfl
   have c7:wa.cell? ⟨b,ob+i*8+7,none⟩=some (.int .i64 v.fold):=hc 7 _ rfl
   clear hc hrow
   have hvo:=HO.out v (List.mem_of_getElem? hv)
   have HVN:Hid (txI l stx i v=false->VB=false):=fun h1=>by rw[HV.out];exact j3n hv h1 (by omega)
   have HVY:Hid (txI l stx i v=true->txK l stx (i+1)=true):=fun h=>j4m hv h HK.out
   have HPT:Hid (jne l (i+1)=v.tx):=by simp only[Hid];rw[jne,hv]
   have HEv:=fun w=>jek v.ev w hvo.1 hvo.2
   simp only[EventD.v,VersionD.ev]at HEv
   have hbs:=qbl t0
   have hne:=Nat.ne_of_lt hbs
   clear hv hvo hAw
   obtain⟨pt,hpt⟩:∃x,jne l i=x:=⟨_,rfl⟩
   have HP0:Hid (txI l stx i v=(decide (pt<v.tx)&&(decide (v.tx<=stx)&&jc6 v.ev))):=by simp only[Hid,txI];rw[hpt]
   rw[hpt]
   clear hpt
   have hBa:∀o,Below w.heap.size w (wa.alloc o):=fun o=>hBx.alloc hBx.size _
   have hsz:=hBx.size
   by_cases e1:v.tx<=pt
   ·obtain rfl:VB=false:=HVN.out (by rw[HP0.out,decide_eq_false (by omega)];rfl)
    go_wp2
    go_ret
    exact⟨rfl,hBa _⟩
   have HP1:Hid (txI l stx i v=(decide (v.tx<=stx)&&jc6 v.ev)):=by simp only[Hid];rw[HP0.out,decide_eq_true (by omega)];rfl
   clear HP0
   by_cases e2:stx<v.tx
   ·obtain rfl:VB=false:=HVN.out (by rw[HP1.out,decide_eq_false (by omega)];rfl)
    go_wp2
    go_ret
    exact⟨rfl,hBa _⟩
   have HP2:Hid (txI l stx i v=jc6 v.ev):=by simp only[Hid];rw[HP1.out,decide_eq_true (by omega)];rfl
   clear HP1
   simp only[VersionD.ev]at HP2
   obtain⟨eb,heb⟩:∃x,jc6 ⟨v.id,v.name,v.zone,v.wall,v.gap,v.fold⟩=x:=⟨_,rfl⟩
   rw[heb]at HEv HP2
   clear heb
   cases eb
   ·obtain rfl:VB=false:=HVN.out HP2.out
    go_wp2_with fail
    refine(HEv _).mono ?_
    rintro e wx ⟨rfl,hwx⟩
    go_wp2
    go_ret
    exact⟨rfl,(hBa _).trans (hwx.mono (by simp;omega))⟩
   have HG:Hid (txK l stx (i+1)=true):=HVY.out HP2.out
   clear HP2 HVN HVY
   go_wp2_with fail
   refine(HEv _).mono ?_
   rintro e wx ⟨rfl,hwx⟩
   have xv:wx.cell? ⟨wa.heap.size,0,none⟩=some (.int .i64 v.tx):=jab hwx (by simp[go_sem])
   have hB9:=(hBr.alloc hBr.size _).trans (hwx.mono (by simp;have:=hBr.size;omega))
   clear hwx
   go_wp2
   go_roundw
   case rel=>exact⟨i+1,by omega,by go_num,by rw[HPT.out],HG,hB9⟩
   case measure=>simp[intOf];omega
  ·obtain rfl:i=n:=by omega
   have HF:Hid (VB=true):=by simp only[Hid];rw[HV.out];exact HK.out
   go_wp2
   go_ret
   exact⟨ret_bool HF.out.symm,hBx⟩
end
section
open Go.RowKit Go.ChangeMaps Go.MapKept
def jcb:Value->Option (DataW EventD × List MemPlace)
 |.agg ⟨[.int .i64 a,.string b,.string c,.int .i64 d,.int .i64 e,.int .i64 f]⟩=>some (.held ⟨a,b,c,d,e,f⟩,[])
 |_=>none
theorem jj0(e:EventD):jcb e.v=some (.held e,[]):=by cases e;rfl
theorem jb3{v:Value}{z:DataW EventD × List MemPlace}(h:jcb v=some z):∃e:EventD,v=e.v/\z=(.held e,[]):=by
 unfold jcb at h
 split at h
 ·cases h;exact⟨_,rfl,rfl⟩
 ·cases h
def MapV(D:DataW EventD)(f:Int->Option EventD):Prop:=∀id e,(f id=some e->Maps.has D (.int .i64 id)=true/\∀z,D.atKey (.int .i64 id) z=.held e)/\(f id=none->Maps.has D (.int .i64 id)=false)
structure Zg(w:World)(b n:Nat)(f:Int->Option EventD):Prop where
 own:∃D,w.ownsMap Tryz.prog 2 jcb b n D/\MapV D f
def putF(f:Int->Option EventD)(e:EventD)(id:Int):Option EventD:=if e.id=id then some e else f id
def delF(f:Int->Option EventD)(i:Int)(id:Int):Option EventD:=if i=id then none else f id
theorem Zg.made(w:World):Zg (w.alloc (.map #[] 0)) w.heap.size 0 (fun _=>none):=⟨_,World.ownsMap_made w _ _ _,fun _ _=>⟨fun h=>by(cases h),fun _=>rfl⟩⟩
theorem Zg.lt{w:World}{b n:Nat}{f:Int->Option EventD}(h:Zg w b n f):b<w.heap.size:=by
 obtain⟨D,h1,_⟩:=h.own
 exact h1.lt
theorem Zg.kept{w w':World}{b n:Nat}{f:Int->Option EventD}{row:Option Nat}(h:Zg w b n f)(hg:w.grownBy w' row)(hne:some b≠row):Zg w' b n f:=by
 obtain⟨D,h1,h2⟩:=h.own
 exact⟨D,h1.kept hg hne,h2⟩
theorem Zg.below{w w':World}{b n:Nat}{f:Int->Option EventD}(h:Zg w b n f)(hb:Below w.heap.size w w'):Zg w' b n f:=h.kept (row:=none) ⟨hb.os,hb.tape,hb.output,hb.size,fun k hk _=>hb.block k hk⟩ (by simp)
theorem Zg.alloc{w:World}{b n:Nat}{f:Int->Option EventD}(h:Zg w b n f)(o:Obj):Zg (w.alloc o) b n f:=by
 obtain⟨D,h1,h2⟩:=h.own
 exact⟨D,h1.alloc o,h2⟩
theorem jxv{id:Int}(h:1<=id/\id<=1000000):(Lit.int .i64 id).wf=true:=by
 have h1:IntKind.min .i64= -9223372036854775808:=rfl
 have h2:IntKind.max .i64=9223372036854775807:=rfl
 show(decide (IntKind.min .i64<=id)&&decide (id<=IntKind.max .i64))=true
 rw[h1,h2,decide_eq_true (by omega),decide_eq_true (by omega)]
 rfl
theorem zeroEvent(w:World):(zeroValue 99).run Tryz.prog w=.ok (EventD.v ⟨0,⟨#[]⟩,⟨#[]⟩,0,0,0⟩) w:=by kernel_rfl
theorem mapT:Tryz.prog.underlying 75=some (.map 2 99):=by kernel_rfl
theorem keyT:Tryz.prog.underlying 2=some (.int .i64):=by kernel_rfl
theorem Zg.look{w:World}{b n:Nat}{f:Int->Option EventD}(h:Zg w b n f){id:Int}(hiD:1<=id/\id<=1000000):∃e:EventD,(Instr.lookup 75 (.map (some b)) (.int .i64 id) true).run Tryz.prog w=.ok (.tuple #[e.v,.bool (f id).isSome]) w/\∀x,f id=some x->e=x:=by
 obtain⟨D,h1,h2⟩:=h.own
 obtain⟨v,ps,hr,hv⟩:=h1.look_ok (Maps.int_keyed keyT) mapT (zeroEvent w) (jj0 _) (Maps.keyOf_int_mk keyT (jxv hiD))
 obtain⟨e,rfl,he⟩:=jb3 hv
 cases hf:f id with
 |none=>exact⟨e,by rw[hr,(h2 id e).2 hf];rfl,fun x hx=>by cases hx⟩
 |some y=>
  obtain⟨a,c⟩:=(h2 id y).1 hf
  refine⟨e,by rw[hr,a];rfl,fun x hx=>?_⟩
  obtain rfl:=Option.some.inj hx
  rw[c]at he
  have h3:=congrArg Prod.fst he
  simp only[DataW.held.injEq]at h3
  exact h3.symm
theorem Zg.drop{w:World}{b n:Nat}{f:Int->Option EventD}(h:Zg w b n f){id:Int}(hiD:1<=id/\id<=1000000)(ty:TypeId):∃w',(Builtin.delete_ #[75,2] ty #[.map (some b),.int .i64 id]).run Tryz.prog w=.ok (.tuple #[]) w'/\Zg w' b n (delF f id)/\w.mapTurned w' b:=by
 obtain⟨D,h1,h2⟩:=h.own
 obtain⟨w',hr,ho,ht⟩:=h1.drop (Maps.int_keyed keyT) mapT (Maps.keyOf_int_mk keyT (jxv hiD)) ty
 refine⟨w',hr,⟨_,ho,fun i e=>?_⟩,ht⟩
 unfold delF
 by_cases hi:id=i
 ·subst hi
  rw[if_pos rfl]
  exact⟨fun h=>by(cases h),fun _=>Maps.has_del_same⟩
 ·rw[if_neg hi]
  have hne:Lit.int .i64 i≠Lit.int .i64 id:=fun h=>hi (by simp only[Lit.int.injEq,true_and]at h;exact h.symm)
  obtain⟨a,c⟩:=h2 i e
  exact⟨fun h=>⟨by rw[Maps.has_del_other hne];exact(a h).1,fun z=>by rw[Maps.atKey_del_other hne];exact(a h).2 z⟩,fun h=>by rw[Maps.has_del_other hne];exact c h⟩
theorem Zg.store{w:World}{b n:Nat}{f:Int->Option EventD}(h:Zg w b n f)(hn:n<maxLen)(e:EventD)(hiD:1<=e.id/\e.id<=1000000):∃w',(Instr.mapUpdate 75 (.map (some b)) (.int .i64 e.id) e.v).run Tryz.prog w=.ok () w'/\Zg w' b (n+1) (putF f e)/\w.mapTurned w' b:=by
 obtain⟨D,h1,h2⟩:=h.own
 have hM:=h1.isMap
 have hKL:WideAt.IsKeyLit (.int .i64 e.id):=trivial
 obtain⟨w',hr,ho,ht⟩:=h1.store (Maps.int_keyed keyT) mapT hn (Maps.keyOf_int_mk keyT (jxv hiD)) (jj0 e)
 refine⟨w',hr,⟨_,ho,fun i x=>?_⟩,ht⟩
 unfold putF
 by_cases hi:e.id=i
 ·subst hi
  rw[if_pos rfl]
  exact⟨fun h=>⟨Maps.has_put_same hM hKL _,fun z=>by(cases h;exact Maps.atKey_put_same hM hKL _ _)⟩,fun h=>by(cases h)⟩
 ·rw[if_neg hi]
  have hne:Lit.int .i64 i≠Lit.int .i64 e.id:=fun h=>hi (by simp only[Lit.int.injEq,true_and]at h;exact h.symm)
  obtain⟨a,c⟩:=h2 i x
  exact⟨fun h=>⟨by rw[Maps.has_put_other hne];exact(a h).1,fun z=>by rw[Maps.atKey_put_other hne];exact(a h).2 z⟩,fun h=>by rw[Maps.has_put_other hne];exact c h⟩
end
section
open Go.RowKit Go.ChangeMaps Go.MapKept
def jz7(f:Int->Option EventD)(v:VersionD):Bool:= !v.gone || (match f v.id with
 |some x=>jio x v.ev
 |none=>false)
def jvz(f:Int->Option EventD)(v:VersionD):Int->Option EventD:=if v.gone=true then delF f v.id else putF f v.ev
theorem jk1(l:List VersionD)(i:Nat){v:VersionD}(hv:l[i]? =some v):jvz (jbk (l.take i)) v=jbk (l.take (i+1)):=by
 funext id
 rw[List.take_add_one,hv]
 simp only[Option.toList]
 rw[jtq]
 unfold jvz
 cases v.gone
 ·simp only[Bool.false_eq_true,if_false];rfl
 ·simp only[if_true];rfl
theorem jtd(l:List VersionD)(i:Nat)(v:VersionD):jz7 (jbk (l.take i)) v=(!v.gone || jkw l i v):=rfl
theorem jwk{a b:EventD}(h1:a.id=b.id)(h2:a.name.toList=b.name.toList)(h3:a.zone.toList=b.zone.toList)(h4:a.wall=b.wall)(h5:a.gap=b.gap)(h6:a.fold=b.fold):jio a b=true:=by
 unfold jio
 rw[decide_eq_true h1,decide_eq_true h4,decide_eq_true h5,decide_eq_true h6,h2,h3]
 simp
theorem j0f{a b:EventD}(h:a.id=b.id->a.name.toList=b.name.toList->a.zone.toList=b.zone.toList->a.wall=b.wall->a.gap=b.gap->a.fold=b.fold->False):jio a b=false:=by
 cases hs:jio a b
 ·rfl
 ·unfold jio at hs
  simp only[Bool.and_eq_true]at hs
  obtain⟨h1,h2,h3,h4,h5,h6⟩:=hs
  exact(h (of_decide_eq_true h1) (eq_of_beq h2) (eq_of_beq h3) (of_decide_eq_true h4) (of_decide_eq_true h5) (of_decide_eq_true h6)).elim
theorem joq{w w1 w2:World}{b:Nat}(h1:w.grownBy w1 none)(h2:w1.mapTurned w2 b):w.grownBy w2 (some b):=(h1.but _).andThen h2.grown (fun _ h=>.inr h)
theorem jn5(v:VersionD)(b n:Nat)(f:Int->Option EventD)(w:World)(h:Zg w b n f)(hn:n<maxLen)(hiD:1<=v.id/\v.id<=1000000):
  Calls Tryz.prog 52 #[.map (some b),v.v] w fun e w'=>e=.returned (.bool (jz7 f v))/\Zg w' b (n+1) (jvz f v)/\w.grownBy w' (some b):=by
 obtain⟨tx,gone,id,name,zone,wall,gap,fold⟩:=v
 simp only[VersionD.v]at *
 have hneq:=fun a b w=>jyu a b w
 have hgo:=fun op x y v1 v2 w=>jql op x y v1 v2 w
 have hM0:=h.alloc (.cells #[.int .i64 tx,.bool gone,.int .i64 id,.string name,.string zone,.int .i64 wall,.int .i64 gap,.int .i64 fold] 101)
 obtain⟨x,hlook,hx⟩:=hM0.look hiD
 have hM1:=hM0.alloc (.cells #[.int .i64 x.id,.string x.name,.string x.zone,.int .i64 x.wall,.int .i64 x.gap,.int .i64 x.fold] 99)
 have hg1:w.grownBy ((w.alloc (.cells #[.int .i64 tx,.bool gone,.int .i64 id,.string name,.string zone,.int .i64 wall,.int .i64 gap,.int .i64 fold] 101)).alloc (.cells #[.int .i64 x.id,.string x.name,.string x.zone,.int .i64 x.wall,.int .i64 x.gap,.int .i64 x.fold] 99)) none:=(World.grownBy_alloc w _ none).andThen (World.grownBy_alloc _ _ none) (fun _ h=>.inr h)
 simp only[EventD.v]at hlook
 have hlt:=h.lt
 have HX:=hid hx
 clear hx
 have HT:Hid (jz7 f ⟨tx,true,id,name,zone,wall,gap,fold⟩=((f id).isSome&&jio x ⟨id,name,zone,wall,gap,fold⟩)):=by
  simp only[Hid,jz7]
  cases hf:f id with
  |none=>rfl
  |some y=>rw[HX.out y hf];rfl
 clear HX
 cases gone
 ·obtain⟨w2,hup,hM2,ht2⟩:=hM1.store hn ⟨id,name,zone,wall,gap,fold⟩ hiD
  simp only[EventD.v]at hup
  have HE:=hid hM2
  have HG:Hid (w.grownBy w2 (some b)):=joq hg1 ht2
  clear HT hM2 ht2 hg1 hM1 hM0
  go_enter Tryz.func52,Tryz.ntmps52
  go_wp2
  go_ret
  exact⟨rfl,HE.out,HG.out⟩
 ·obtain⟨w2,hup,hM2,ht2⟩:=hM1.drop hiD 0
  have HE:Hid (Zg w2 b (n+1) (jvz f ⟨tx,true,id,name,zone,wall,gap,fold⟩)):=by
   obtain⟨D,d1,d2⟩:=hM2.own
   exact⟨D,d1.mono (by omega),d2⟩
  have HG:Hid (w.grownBy w2 (some b)):=joq hg1 ht2
  have hb0:some w.heap.size≠some b:=by simp;omega
  have hb1:some (w.heap.size+1)≠some b:=by simp;omega
  have v2:w2.cell? ⟨w.heap.size,2,none⟩=some (.int .i64 id):=ht2.grown.cell (by simp[go_sem]) hb0
  have v3:w2.cell? ⟨w.heap.size,3,none⟩=some (.string name):=ht2.grown.cell (by simp[go_sem]) hb0
  have v4:w2.cell? ⟨w.heap.size,4,none⟩=some (.string zone):=ht2.grown.cell (by simp[go_sem]) hb0
  have v5:w2.cell? ⟨w.heap.size,5,none⟩=some (.int .i64 wall):=ht2.grown.cell (by simp[go_sem]) hb0
  have v6:w2.cell? ⟨w.heap.size,6,none⟩=some (.int .i64 gap):=ht2.grown.cell (by simp[go_sem]) hb0
  have v7:w2.cell? ⟨w.heap.size,7,none⟩=some (.int .i64 fold):=ht2.grown.cell (by simp[go_sem]) hb0
  have x0:w2.cell? ⟨w.heap.size+1,0,none⟩=some (.int .i64 x.id):=ht2.grown.cell (by simp[go_sem]) hb1
  have x1:w2.cell? ⟨w.heap.size+1,1,none⟩=some (.string x.name):=ht2.grown.cell (by simp[go_sem]) hb1
  have x2:w2.cell? ⟨w.heap.size+1,2,none⟩=some (.string x.zone):=ht2.grown.cell (by simp[go_sem]) hb1
  have x3:w2.cell? ⟨w.heap.size+1,3,none⟩=some (.int .i64 x.wall):=ht2.grown.cell (by simp[go_sem]) hb1
  have x4:w2.cell? ⟨w.heap.size+1,4,none⟩=some (.int .i64 x.gap):=ht2.grown.cell (by simp[go_sem]) hb1
  have x5:w2.cell? ⟨w.heap.size+1,5,none⟩=some (.int .i64 x.fold):=ht2.grown.cell (by simp[go_sem]) hb1
  have HR:=hid HT
  clear hM2 ht2 hg1 hM1 hM0 HT
  cases hfs:(f id).isSome
  ·rw[hfs]at HR hlook
   clear hfs
   go_enter Tryz.func52,Tryz.ntmps52
   go_wp2
   go_ret
   exact⟨ret_bool (by rw[HR.out];rfl),HE.out,HG.out⟩
  ·rw[hfs]at HR hlook
   clear hfs
   have hq:=hneq x ⟨id,name,zone,wall,gap,fold⟩ w2
   clear hneq
   dsimp only at hq
   go_enter Tryz.func52,Tryz.ntmps52
   go_wp2
   all_goals go_ret
   all_goals exact⟨ret_bool (by rw[HR.out,Bool.true_and];first|exact(jwk (by assumption) (by assumption) (by assumption) (by assumption) (by assumption) (by assumption)).symm|exact(j0f (fun _ _ _ _ _ _=>by contradiction)).symm),HE.out,HG.out⟩
end
section
open Go.RowKit Go.ChangeMaps Go.MapKept
theorem j17{l:List VersionD}{k:Nat}{v:VersionD}(hv:l[k]? =some v)(h:(!v.gone || jkw l k v)=false):∀{n:Nat},k<n->jcy l n=false:=by
 intro n
 induction n with
 |zero=>intro hn;omega
 |succ n ih=>
  intro hn
  rw[jcy]
  by_cases e:k=n
  ·subst e;rw[hv];simp only;rw[h];simp
  ·rw[ih (by omega)];rfl
theorem jyd{l:List VersionD}{k:Nat}{v:VersionD}(hv:l[k]? =some v)(h:(!v.gone || jkw l k v)=true)(hk:jcy l k=true):jcy l (k+1)=true:=by rw[jcy,hk,hv];simp only;rw[h];rfl
structure LiveP(w:World)(l:List VersionD)(e:Ending)(w':World):Prop where
 bel:Below w.heap.size w w'
 end_:(jcy l l.length=true/\e=.returned (.tuple #[.map (some w.heap.size),.bool true])/\Zg w' w.heap.size l.length (jbk l))\/(jcy l l.length=false/\e=.returned (.tuple #[.map none,.bool false]))
theorem jje(l:List VersionD)(a:Option Addr)(n cap:Nat)(w:World)(hA:Zd w a 8 (l.map VersionD.cs))(hiD:∀v∈l,1<=v.id/\v.id<=1000000)(hn:l.length=n)(hl:n<=1048576):
  Calls Tryz.prog 35 #[.slice a n cap] w (LiveP w l):=by
 have hB0:Below w.heap.size w (w.alloc (.map #[] 0)):=qal _ _
 have hM0:=Zg.made w
 have HN:=hid hn
 have HI:=hid hiD
 clear hn hiD
 have hmm:=@run_makeMap Tryz.prog
 go_enter Tryz.func35,Tryz.ntmps35
 go_wp2
 go_loopw [10] (fun s wr=>∃i:Nat,i<=n/\s=.int .i64 i/\Hid (jcy l i=true)/\Hid (Zg wr w.heap.size i (jbk (l.take i)))/\Below w.heap.size w wr) (fun s _=>n-(intOf s).toNat)
 case atStart=>exact⟨0,by omega,rfl,rfl,hM0,hB0⟩
 case round=>
  obtain⟨wa,hwa⟩:∃x:World,x=wr:=⟨_,rfl⟩
  subst hwa
  obtain⟨i,hin,rfl,HK,HM,hBr⟩:=hrel
  have hAw:Zd wa a 8 (l.map VersionD.cs):=hA.below hBr
  clear hB0 hM0
  by_cases hlt:i<n
  ·have a1:(i:Int)<(n:Int):=by omega
   obtain⟨v,hv⟩:∃v,l[i]? =some v:=⟨_,List.getElem?_eq_getElem (by have:=HN.out;omega)⟩
   have hrow:(l.map VersionD.cs)[i]? =some v.cs:=by rw[List.getElem?_map,hv];rfl
   obtain⟨b,ob,rfl,hc⟩:=hAw.at (i:=i) hrow
   have c0:wa.cell? ⟨b,ob+i*8,none⟩=some (.int .i64 v.tx):=hc 0 _ rfl
   have c1:wa.cell? ⟨b,ob+i*8+1,none⟩=some (.bool v.gone):=hc 1 _ rfl
   have c2:wa.cell? ⟨b,ob+i*8+2,none⟩=some (.int .i64 v.id):=hc 2 _ rfl
   have c3:wa.cell? ⟨b,ob+i*8+3,none⟩=some (.string v.name):=hc 3 _ rfl
   have c4:wa.cell? ⟨b,ob+i*8+4,none⟩=some (.string v.zone):=hc 4 _ rfl
   have c5:wa.cell? ⟨b,ob+i*8+5,none⟩=some (.int .i64 v.wall):=hc 5 _ rfl
   have c6:wa.cell? ⟨b,ob+i*8+6,none⟩=some (.int .i64 v.gap):=hc 6 _ rfl
   have c7:wa.cell? ⟨b,ob+i*8+7,none⟩=some (.int .i64 v.fold):=hc 7 _ rfl
   clear hc hrow
   have hMa:=HM.out.alloc (.cells #[.int .i64 v.tx,.bool v.gone,.int .i64 v.id,.string v.name,.string v.zone,.int .i64 v.wall,.int .i64 v.gap,.int .i64 v.fold] 101)
   have hT:=jn5 v w.heap.size i _ _ hMa (by unfold maxLen;omega) (HI.out v (List.mem_of_getElem? hv))
   rw[jk1 l i hv,jtd]at hT
   simp only[VersionD.v]at hT
   have HVN:Hid ((!v.gone || jkw l i v)=false->jcy l l.length=false):=fun h=>j17 hv h (by rw[HN.out];exact hlt)
   have HVY:Hid ((!v.gone || jkw l i v)=true->jcy l (i+1)=true):=fun h=>jyd hv h HK.out
   generalize (!v.gone || jkw l i v)=tb at *
   clear hMa hv
   cases tb
   ·have HF:Hid (jcy l l.length=false):=HVN.out rfl
    clear HVN HVY
    go_wp2_with fail
    refine hT.mono ?_
    rintro e w2 ⟨rfl,hM2,hg2⟩
    have hB2:=(hBr.alloc hBr.size _).grown hg2 (by have:=hBr.size;simp;omega) (fun k hk=>by cases hk;exact Nat.le_refl _)
    clear hM2 hg2
    go_wp2
    go_ret2
    exact⟨hB2,.inr ⟨HF.out,rfl⟩⟩
   ·have HF:Hid (jcy l (i+1)=true):=HVY.out rfl
    clear HVN HVY
    go_wp2_with fail
    refine hT.mono ?_
    rintro e w2 ⟨rfl,hM2,hg2⟩
    have hB2:=(hBr.alloc hBr.size _).grown hg2 (by have:=hBr.size;simp;omega) (fun k hk=>by cases hk;exact Nat.le_refl _)
    have HM2:=hid hM2
    clear hM2 hg2
    go_wp2
    go_roundw
    case rel=>exact⟨i+1,by omega,by go_num,HF,HM2,hB2⟩
    case measure=>simp[intOf];omega
  ·obtain rfl:i=n:=by omega
   have HF:Hid (jcy l l.length=true/\Zg wa w.heap.size l.length (jbk l)):=by
    have h:=HM.out
    rw[List.take_of_length_le (by rw[HN.out];exact Nat.le_refl _), <- HN.out]at h
    exact⟨by rw[HN.out];exact HK.out,h⟩
   go_wp2
   go_ret2
   exact⟨hBr,.inl ⟨HF.out.1,rfl,HF.out.2⟩⟩
end
end Go.Proofs.YtofdpfpdocpbpaaGreatDoor
