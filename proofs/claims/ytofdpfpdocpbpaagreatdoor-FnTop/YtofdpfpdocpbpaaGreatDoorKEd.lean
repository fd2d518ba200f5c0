/- Packed. -/
import Derived.Test.YtofdpfpdocpbpaaGreatDoorKDd
import Derived.Test.YtofdpfpdocpbpaaGreatDoorRightWd
import Derived.Test.YtofdpfpdocpbpaaGreatDoorTabPd
import Derived.LoopN
set_option maxRecDepth 20000
set_option maxHeartbeats 20000000
set_option linter.unusedSimpArgs false
namespace Go.Proofs.YtofdpfpdocpbpaaGreatDoor
section
open Go.RowKit
def jra(u:Nat):List Value:=[.func (.func 26) #[] #[.pointer (some ⟨u,0,none⟩)],.func (.func 340) #[] #[.pointer (some ⟨u+1,0,none⟩)]]
def jfk(u b:Nat):List (List Value × TypeId):=[([.string ⟨#[90,111,110,101]⟩],9),([.pointer (some ⟨b,0,none⟩)],426),(jra u,43)]
def j7g(zn:ByteArray):Nat->List Value
 |0=>[.string ⟨#[]⟩,.slice none 0 0]
 |1=>[.string ⟨#[]⟩,.slice none 0 0]
 |_=>[.string zn,.slice none 0 0]
theorem jzu(zn:ByteArray)(w:World)(b:Nat)(hb:b<w.heap.size)(wp:Option Addr)(hw:WAt w wp [⟨#[90,111,110,101]⟩,zn])(hwb:∀x o,wp=some ⟨x,o,none⟩->x≠b):
  MatK (jra w.heap.size) [⟨#[90,111,110,101]⟩,zn] (fun _=>true) (fun k W=>(jak w (jfk w.heap.size b)).grownBy W (some b)/\Zc W b (j7g zn k)) (some ⟨w.heap.size+2,0,none⟩) wp:=by
 have hB:=jax (jfk w.heap.size b) w
 refine⟨fun k fv s h1 h2=>?_,fun k W hI=>(jex (jfk w.heap.size b) w 2 rfl).grown hI.1 (fun x o h=>by injection h with h;injection h with h;omega),fun k W hI=>VAt.grown (VAt.below hw hB) hI.1 (fun x o h=>hwb x o h)⟩
 match k,h1,h2 with
 |0,h1,h2=>
  obtain rfl:=Option.some.inj h1
  obtain rfl:=Option.some.inj h2
  refine⟨_,_,rfl,fun _ _=>by kernel_rfl,fun W hI=>?_⟩
  refine(jcw _ ⟨#[90,111,110,101]⟩ _ W (hI.1.cell (jao (jfk w.heap.size b) w 0 rfl) (by simp;omega))).mono ?_
  rintro q w2 ⟨rfl,rfl⟩
  exact⟨by rw[beq_self_eq_true],hI⟩
 |1,h1,h2=>
  obtain rfl:=Option.some.inj h1
  obtain rfl:=Option.some.inj h2
  refine⟨_,_,rfl,fun _ _=>by kernel_rfl,fun W hI=>?_⟩
  refine(jca _ _ b 0 _ _ W (hI.1.cell (jao (jfk w.heap.size b) w 1 rfl) (by simp;omega)) hI.2 rfl).mono ?_
  intro q w2 hP
  exact jbh hI.1 hP
 |n+2,h1,_=>simp[jra]at h1
theorem WAt.take{w:World}{a:Option Addr}{ws:List ByteArray}(h:WAt w a ws)(n:Nat):WAt w a (ws.take n):=by
 rcases h with h|⟨b,o,ha,hc⟩
 ·exact .inl (by simp at h;simp[h])
 ·exact .inr ⟨b,o,ha,fun i v hi=>hc i v (by rw[List.map_take,List.getElem?_take]at hi;split at hi<;>simp_all)⟩
theorem WAt.drop{w:World}{b o:Nat}{ws:List ByteArray}(h:WAt w (some ⟨b,o,none⟩) ws)(n:Nat):WAt w (some ⟨b,o+n,none⟩) (ws.drop n):=by
 rcases h with h|⟨b',o',ha,hc⟩
 ·exact .inl (by simp at h;simp[h])
 ·injection ha with ha
  injection ha with h1 h2
  subst h1 h2
  exact .inr ⟨_,_,rfl,fun i v hi=>by
   rw[List.map_drop,List.getElem?_drop]at hi
   have:=hc _ _ hi
   rwa [show o+n+i=o+(n+i) by omega]⟩
theorem WAt.below{w w':World}{a:Option Addr}{ws:List ByteArray}(h:WAt w a ws)(hb:Below w.heap.size w w'):WAt w' a ws:=VAt.below h hb
theorem jjr{w w':World}(h:w.grownBy w' none)(b:Nat):w.grownBy w' (some b):=⟨h.os,h.tape,h.output,h.size,fun k hk _=>h.block k hk (by simp)⟩
theorem Zv.zone{w00 w0 w wF:World}{p k:Nat}{t zn:ByteArray}{n:Int}{rules:List RuleD}{g1 cap1:Nat}(h:Zv w00 w0 w p t k n rules)(hg:w.grownBy wF none)(h1:wF.ownsRow w0.heap.size 136 2 (.slice (some ⟨g1,0,none⟩) 1 cap1) 1 [.string zn,.slice none 0 0]):SrcZ w00 w0 (wF.setCell ⟨p,5,none⟩ (.slice (some ⟨g1,0,none⟩) 1 cap1)) p t k n rules zn []:=by
 obtain⟨ra,rc,hV,hO⟩:=h.ex
 have hV2:=hV.app hg (by simp)
 have hO2:=World.ownsRow.kept hO hg (by cases (Value.slice ra rules.length rc).ownBlock<;>simp)
 have hlt:=World.ownsRow.lt h1 g1 rfl
 have hpg:g1≠p:=by have:=h.hi;omega
 have hk:∀{e:TypeId} {q n:Nat} {v:Value} {xs:List Value},wF.ownsRow w0.heap.size e q v n xs->(wF.setCell ⟨p,5,none⟩ (.slice (some ⟨g1,0,none⟩) 1 cap1)).ownsRow w0.heap.size e q v n xs:=fun {e q n v xs} ho=>World.ownsRow.kept ho (jae wF p 5 _) (by
  cases hv:v.ownBlock with
  |none=>exact .inl rfl
  |some x=>exact .inr (by have:=(World.ownsRow.lt ho x hv).1;have:=h.hi;simp;omega))
 refine⟨ra,rc,g1,cap1,none,0,?_,hk hO2,(jro h1).other hpg _,jah (j0x h1),World.ownsRow_nil _ _ _ _,hlt.1,(h.grown.andThen hg (fun j hj=>by cases hj)).andThen (jae wF p 5 _) (fun _ e=>.inr e),h.bel,h.lo,h.hi⟩
 have:=hV2.set (j:=5) (.slice (some ⟨g1,0,none⟩) 1 cap1)
 simpa [srcL]using this
theorem jl6{zn off rl fm:ByteArray}(hR:EraW off rl fm)(hz:zn.size<=8000)(hzn:jbs zn=true)(w00 w0 w:World)(p k g wc:Nat)(t:ByteArray)(n:Int)(rules:List RuleD)(hS:Zv w00 w0 w p t k n rules)(hw:WAt w (some ⟨g,0,none⟩) [⟨#[90,111,110,101]⟩,zn,off,rl,fm])(hc:5<=wc)(hgp:g≠p):
  Calls Tryz.prog 306 #[.pointer (some ⟨p,0,none⟩),.slice (some ⟨g,0,none⟩) 5 wc] w fun q w'=>q=.returned (.bool (eraP (je0 off rl fm)))/\SrcZ w00 w0 w' p t k n rules zn [je0 off rl fm]:=by
 obtain⟨i0,hi,hz0,hz1,hz2⟩:=jsa
 have hNm:=fun W=>jau zn W (Nat.le_trans hz (by decide))
 rw[hzn]at hNm
 have hgl:g<w.heap.size:=by
  obtain⟨b',o',h,hc⟩:=hw.at (i:=0) rfl
  injection h with h
  injection h with h _
  subst h
  exact qbl hc
 have b1:=qal w (.cells #[.string ⟨#[]⟩,.slice none 0 0] 136)
 have Z1:=Zc.new w [.string ⟨#[]⟩,.slice none 0 0] 136
 have hl1:(w.alloc (.cells #[.string ⟨#[]⟩,.slice none 0 0] 136)).heap.size=w.heap.size+1:=by simp
 have hTE:=fun w1 (hS:SrcZ w00 w0 w1 p t k n rules zn []) hw=>jn4 hR w00 w0 w1 p k (wc-2) (some ⟨g,2,none⟩) t zn n rules [] hS hw (by simp)
 have hpw:p<w.heap.size:=Nat.lt_of_lt_of_le hS.hi hS.grown.size
 have hc2:(2:Int)<=(wc:Int):=by omega
 have hc3:2<=wc:=by omega
 have HS:=hidQ hS
 have HW:=hidQ hw
 have k1:=fun s W=>jaw s W
 have k2:=fun p W=>jco p W
 clear hS hw hR hzn
 go_enter Tryz.func306,Tryz.ntmps306
 go_wp2_with fail
 generalize w.alloc (.cells #[.string ⟨#[]⟩,.slice none 0 0] 136)=wA at *
 have hA:=jax (jfk wA.heap.size w.heap.size) wA
 have hAs:=jc9 (jfk wA.heap.size w.heap.size) wA
 have hM:=jdf (jra wA.heap.size) [⟨#[90,111,110,101]⟩,zn] (fun _=>true) _ _ _ 2 wc (jzu zn wA w.heap.size (by omega) (some ⟨g,0,none⟩) ((HW.out.below b1).take 2) (fun x o h=>by injection h with h;injection h with h _;omega)) rfl (by show 2<=1000;omega) (jak wA (jfk wA.heap.size w.heap.size)).drew ⟨jb4 (jaa _) _,(Z1.below hA).below (jaa _)⟩
 rw[hl1]at hM hA hAs
 go_region_held3 (fun _=>True) (trivial) (first|(go_at_call 14;refine(k1 _ _).mono ?_;rintro q w' ⟨rfl,rfl⟩)|(go_at_call 326;refine(k2 _ _).mono ?_;rintro q w' ⟨rfl,rfl⟩)|(go_at_call 25;refine Calls.mono (w:=(jak wA (jfk (w.heap.size+1) w.heap.size)).drew) hM ?_;intro q w2 hP;rcases hP.end_ with⟨rfl,_,hg,hV⟩|⟨_,k',_,hk',_⟩;rotate_left;cases hk'))
 have hV:Zc w2 w.heap.size [.string zn,.slice none 0 0]:=hV
 have hbA:=b1.trans (hA.mono (show w.heap.size<=w.heap.size+1 by omega))
 have hB2:=hbA.grown hg hbA.size (fun j hj=>by injection hj with hj;omega)
 have hS2:=HS.out.below hB2
 have HW2:=hidQ (HW.out.below hB2)
 have hsz2:=hB2.size
 have hp2:p<w2.heap.size:=by omega
 obtain⟨ra,rc,hVs,_⟩:=hS2.ex
 have x5:=hVs.c 5 (u:=.slice none 0 0) rfl
 have f5:=hVs.f 5 (u:=.slice none 0 0) rfl
 have e0:=hV.c 0 rfl
 have e1:=hV.c 1 rfl
 have hown:w2.ownsRow w0.heap.size 136 2 (.slice none 0 0) 0 []:=World.ownsRow_nil _ _ _ _
 have x5b:(w2.alloc (.cells #[.string zn,.slice none 0 0] 136)).cell? ⟨p,5,none⟩=some (.slice none 0 0):=jab (qal w2 _) x5
 have hnn:some p≠(Value.slice none 0 0).ownBlock:=by simp[Value.ownBlock]
 have hzw:w.heap.size<w2.heap.size:=qbl e0
 have hb0:w0.heap.size<=w2.heap.size:=hS2.grown.size
 have HS2:=hidQ hS2
 have HV:=hidQ hV
 clear hM hP hg hbA hB2 hA hAs b1 Z1 HS HW k1 k2 hS2 hVs hV
 go_wp2_with fail
 go_region_law (refine step_append_lies _ (by rfl) (.tmp 24) (.tmp 26) 53 (by rfl) w0.heap.size 136 i0 (.agg #[.string ⟨#[]⟩,.slice none 0 0]) 2 40 Tryz.underlying53 hi hz0 hz1 hz2 rfl (by omega) (.slice none 0 0) 0 [] (by rfl) (World.ownsRow.alloc (w:=w2.drew) hown _) ⟨w2.heap.size,0,none⟩ 1 1 [.string zn,.slice none 0 0] (by rfl) rfl (ja3 _ _ _) (by intro u hu;simp at hu;rcases hu with rfl|rfl<;>rfl) (by omega) (by unfold maxLen;omega) (by omega) (by simp;omega) _ rfl ?_;intro g1 cap1 wF hown1 hgrow hat hlt1;have r1:=hgrow.cell (a:=⟨p,5,none⟩) (jab (qal w2.drew _) x5) hnn;have r2:=(hgrow.frozen_far ⟨p,5,none⟩ (by simp;omega) hnn).trans (((jal (qal w2.drew _)).2 _ _ (by simp;omega)).trans f5))
 all_goals
  have b2:=(jaa w2).trans ((qal w2.drew (.cells #[.string zn,.slice none 0 0] 136)).mono (Nat.le_refl _))
  have hS5:=(HS2.out.below b2).zone (zn:=zn) hgrow hown1
  have hV5:=((HV.out.below b2).app hgrow (by simp[Value.ownBlock])).other (b2:=p) (j:=5) (by omega) (.slice (some ⟨g1,0,none⟩) 1 cap1)
  have hW5:=VAt.grown (VAt.grown (VAt.below HW2.out b2) (jjr hgrow p) (fun x o h=>by injection h with h;injection h with h _;omega)) (jae wF p 5 (.slice (some ⟨g1,0,none⟩) 1 cap1)) (fun x o h=>by injection h with h;injection h with h _;omega)
  clear b2 hown1 hgrow hat hlt1 r1 r2 x5 x5b f5 hown HS2 HV e0 e1 hi hz0 hz1 hz2 hnn HW2
  generalize wF.setCell ⟨p,5,none⟩ (.slice (some ⟨g1,0,none⟩) 1 cap1)=W5 at *
  have e0:=hV5.c 0 rfl
  have hT5:=hTE W5 hS5 (WAt.drop hW5 2)
  have hc4:(2:Int)<(wc:Int):=by omega
  have hc5:((wc-2:Nat):Int)=(wc:Int)-2:=by omega
  clear hS5 hV5 hW5 hTE
  go_wp2_with fail
  refine(hNm _).mono ?_
  rintro q w6 ⟨rfl,rfl⟩
  go_wp2_with fail
  refine hT5.mono ?_
  rintro q w7 ⟨rfl,hS7⟩
  go_wp2
  go_ret
  exact⟨rfl,hS7⟩
end
section
open Go.RowKit
theorem jmz{w:World}{base:Nat}{v:Value}{ws:List ByteArray}(h:w.ownsRow base 9 1 v ws.length (ws.map Value.string))(hl:0<ws.length):∃g c,v=.slice (some ⟨g,0,none⟩) ws.length c/\WAt w (some ⟨g,0,none⟩) ws/\ws.length<=c/\base<=g/\g<w.heap.size:=by
 obtain⟨a,c,rfl⟩:=jk7 h
 rcases h.2 with⟨h1,h2⟩|⟨g,cap,cur,h1,h2,h3,h4,_⟩
 ·omega
 ·injection h1 with h1 h5 h6
  subst h1 h6
  refine⟨g,c,rfl,.inr ⟨_,_,rfl,fun i u hu=>?_⟩,h4,h2,(Array.getElem?_eq_some_iff.mp h3).1⟩
  rw[Nat.zero_add]
  exact(jro h).c i hu
theorem Zv.at_words{w00 w0 w W:World}{p k k':Nat}{t:ByteArray}{n:Int}{rules:List RuleD}{ra:Option Addr}{rc:Nat}(h:Zv w00 w0 w p t k n rules)(hO:w.ownsRow w0.heap.size 131 9 (.slice ra rules.length rc) rules.length (rules.map RuleD.cs).flatten)(hV:Zc W p (srcL t k' n false (.slice ra rules.length rc) (.slice none 0 0) (.slice none 0 0)))(hg:w.grownBy W (some p)):Zv w00 w0 W p t k' n rules:=
 ⟨⟨ra,rc,hV,World.ownsRow.kept hO hg (by
  cases hv:(Value.slice ra rules.length rc).ownBlock with
  |none=>exact .inl rfl
  |some x=>exact .inr (by have:=(World.ownsRow.lt hO x hv).1;have:=h.hi;simp;omega))⟩,h.grown.trans hg,h.bel,h.lo,h.hi⟩
theorem jkh{nm y1 y2 mo on at_ r sv le:ByteArray}(hR:RuleW nm y1 y2 mo on at_ r sv le)(w00 w0 w:World)(p k g wc:Nat)(t:ByteArray)(n:Int)(rules:List RuleD)(hS:Zv w00 w0 w p t k n rules)(hE:Zm w00)(hw:WAt w (some ⟨g,0,none⟩) (jg7 nm y1 y2 mo on at_ sv le))(hl:rules.length<=100):
  Calls Tryz.prog 288 #[.pointer (some ⟨p,0,none⟩),.slice (some ⟨g,0,none⟩) 10 wc] w fun q w'=>q=.returned (.bool (jbm (jdp nm y1 y2 mo on r sv le)))/\Zv w00 w0 w' p t k n (rules++[jdp nm y1 y2 mo on r sv le]):=by
 have hC:=jl7 hR w00 w0 w p k wc (some ⟨g,0,none⟩) t n rules hS hE hw hl
 obtain⟨b',o',h,hc⟩:=hw.at (i:=0) rfl
 injection h with h
 injection h with h1 h2
 subst h1 h2
 obtain⟨ra,rc,hV,_⟩:=hS.ex
 have c3:=hV.c 3 (u:=.bool false) rfl
 clear hV hS hw hR
 go_enter Tryz.func288,Tryz.ntmps288
 go_wp2_with fail
 refine hC.mono ?_
 rintro q w2 ⟨rfl,hS2⟩
 go_wp2
 go_ret
 exact⟨rfl,hS2⟩
theorem jkg{zn off rl fm:ByteArray}(hR:EraW off rl fm)(hz:zn.size<=8000)(hzn:jbs zn=true)(w00 w0 w:World)(p k g wc:Nat)(t:ByteArray)(n:Int)(rules:List RuleD)(hS:Zv w00 w0 w p t k n rules)(hw:WAt w (some ⟨g,0,none⟩) [⟨#[90,111,110,101]⟩,zn,off,rl,fm])(hc:5<=wc)(hgp:g≠p):
  Calls Tryz.prog 288 #[.pointer (some ⟨p,0,none⟩),.slice (some ⟨g,0,none⟩) 5 wc] w fun q w'=>q=.returned (.bool (eraP (je0 off rl fm)))/\SrcZ w00 w0 w' p t k n rules zn [je0 off rl fm]:=by
 have hC:=jl6 hR hz hzn w00 w0 w p k g wc t n rules hS hw hc hgp
 obtain⟨b',o',h,hc⟩:=hw.at (i:=0) rfl
 injection h with h
 injection h with h1 h2
 subst h1 h2
 obtain⟨ra,rc,hV,_⟩:=hS.ex
 have c3:=hV.c 3 (u:=.bool false) rfl
 clear hV hS hw hR
 go_enter Tryz.func288,Tryz.ntmps288
 go_wp2_with fail
 refine hC.mono ?_
 rintro q w2 ⟨rfl,hS2⟩
 go_wp2
 go_ret
 exact⟨rfl,hS2⟩
theorem Zv.step{w00 w0 w:World}{p k:Nat}{t:ByteArray}{n:Int}{rules:List RuleD}(h:Zv w00 w0 w p t k n rules):Zv w00 w0 (w.setCell ⟨p,1,none⟩ (.int .i64 ((k:Int)+1))) p t (k+1) n rules:=by
 obtain⟨ra,rc,hV,hO⟩:=h.ex
 refine h.at_words hO ?_ (jae w p 1 _)
 have:=hV.set (j:=1) (.int .i64 ((k:Int)+1))
 simpa [srcL]using this
theorem jde{nm y1 y2 mo on at_ r sv le:ByteArray}(hR:RuleW nm y1 y2 mo on at_ r sv le)(w00 w0 w:World)(p k k':Nat)(t:ByteArray)(n:Int)(rules:List RuleD)(hS:Zv w00 w0 w p t k n rules)(hE:Zm w00)(ht:t.size<=8000)(hk:k<=t.size)(hk':k'<t.size)(hL:Lex t k [] (jg7 nm y1 y2 mo on at_ sv le,k'))(hl:rules.length<=100):
  Calls Tryz.prog 261 #[.pointer (some ⟨p,0,none⟩)] w fun q w'=>q=.returned (.bool (jbm (jdp nm y1 y2 mo on r sv le)))/\Zv w00 w0 w' p t (k'+1) n (rules++[jdp nm y1 y2 mo on r sv le]):=by
 obtain⟨ra,rc,hV,hO⟩:=hS.ex
 have hW:=jle t k p n false (.slice ra rules.length rc) (.slice none 0 0) (.slice none 0 0) _ w ht hV hk hL
 have hT:=fun w g wc hS hw=>jkh hR w00 w0 w p (k'+1) g wc t n rules hS hE hw hl
 have HS:=hidQ hS
 have HO:=hidQ hO
 have hp1:p<w.heap.size:=Nat.lt_of_lt_of_le hS.hi hS.grown.size
 clear hS hO hV hE hR
 go_enter Tryz.func261,Tryz.ntmps261
 go_wp2_with fail
 refine hW.mono ?_
 intro q w1 hP
 obtain⟨v,rfl,hQ⟩:=hP.ex
 obtain⟨g,wc,rfl,hwt,hc,hg1,hg2⟩:=jmz hQ.own (by show 0<10;omega)
 have hS1:=HS.out.at_words HO.out hQ.var hQ.grown
 have S2:=hS1.step
 have c0:=hQ.var.c 0 (u:=.string t) rfl
 have c1:=hQ.var.c 1 (u:=.int .i64 k') rfl
 have f1:=hQ.var.f 1 (u:=.int .i64 k') rfl
 have hne:((k':Int)==(t.size:Int))=false:=by simp;omega
 have hsz:=hQ.grown.size
 have hb:=jaa w1
 have hT2:=hT _ g wc (Zv.step (hS1.below hb)) (VAt.grown (VAt.below hwt hb) (jae _ p 1 _) (fun x o h=>by injection h with h;injection h with h _;omega))
 have c0d:=jab hb c0
 have c1d:=jab hb c1
 have f1d:w1.drew.frozen? ⟨p,1,none⟩=false:=f1
 clear hW hP hQ hT hS1 S2 HS HO hwt hg1 hg2 hc
 go_wp2_with fail
 go_region
 go_wp2_with fail
 refine hT2.mono ?_
 rintro q w2 ⟨rfl,hS2⟩
 go_wp2
 go_ret
 exact⟨rfl,hS2⟩
theorem jf1{zn off rl fm:ByteArray}(hR:EraW off rl fm)(hz:zn.size<=8000)(hzn:jbs zn=true)(w00 w0 w:World)(p k k':Nat)(t:ByteArray)(n:Int)(rules:List RuleD)(hS:Zv w00 w0 w p t k n rules)(ht:t.size<=8000)(hk:k<=t.size)(hk':k'<t.size)(hL:Lex t k [] ([⟨#[90,111,110,101]⟩,zn,off,rl,fm],k')):
  Calls Tryz.prog 261 #[.pointer (some ⟨p,0,none⟩)] w fun q w'=>q=.returned (.bool (eraP (je0 off rl fm)))/\SrcZ w00 w0 w' p t (k'+1) n rules zn [je0 off rl fm]:=by
 obtain⟨ra,rc,hV,hO⟩:=hS.ex
 have hW:=jle t k p n false (.slice ra rules.length rc) (.slice none 0 0) (.slice none 0 0) _ w ht hV hk hL
 have hT:=fun w g wc hS hw h1 h2=>jkg hR hz hzn w00 w0 w p (k'+1) g wc t n rules hS hw h1 h2
 have HS:=hidQ hS
 have HO:=hidQ hO
 have hp1:p<w.heap.size:=Nat.lt_of_lt_of_le hS.hi hS.grown.size
 clear hS hO hV hR
 go_enter Tryz.func261,Tryz.ntmps261
 go_wp2_with fail
 refine hW.mono ?_
 intro q w1 hP
 obtain⟨v,rfl,hQ⟩:=hP.ex
 obtain⟨g,wc,rfl,hwt,hc,hg1,hg2⟩:=jmz hQ.own (by show 0<5;omega)
 have hS1:=HS.out.at_words HO.out hQ.var hQ.grown
 have S2:=hS1.step
 have c0:=hQ.var.c 0 (u:=.string t) rfl
 have c1:=hQ.var.c 1 (u:=.int .i64 k') rfl
 have f1:=hQ.var.f 1 (u:=.int .i64 k') rfl
 have hne:((k':Int)==(t.size:Int))=false:=by simp;omega
 have hsz:=hQ.grown.size
 have hb:=jaa w1
 have hT2:=hT _ g wc (Zv.step (hS1.below hb)) (VAt.grown (VAt.below hwt hb) (jae _ p 1 _) (fun x o h=>by injection h with h;injection h with h _;omega)) hc (by omega)
 have c0d:=jab hb c0
 have c1d:=jab hb c1
 have f1d:w1.drew.frozen? ⟨p,1,none⟩=false:=f1
 clear hW hP hQ hT hS1 S2 HS HO hwt hg1 hg2 hc
 go_wp2_with fail
 go_region
 go_wp2_with fail
 refine hT2.mono ?_
 rintro q w2 ⟨rfl,hS2⟩
 go_wp2
 go_ret
 exact⟨rfl,hS2⟩
end
section
open Go.RowKit
structure RX where
 nm:ByteArray
 y1:ByteArray
 y2:ByteArray
 mo:ByteArray
 on:ByteArray
 at_:ByteArray
 r:ByteArray
 sv:ByteArray
 le:ByteArray
def RX.ok(x:RX):Prop:=RuleW x.nm x.y1 x.y2 x.mo x.on x.at_ x.r x.sv x.le
def RX.ws(x:RX):List ByteArray:=jg7 x.nm x.y1 x.y2 x.mo x.on x.at_ x.sv x.le
def RX.d(x:RX):RuleD:=jdp x.nm x.y1 x.y2 x.mo x.on x.r x.sv x.le
structure ZX where
 zn:ByteArray
 off:ByteArray
 rl:ByteArray
 fm:ByteArray
def ZX.ws(z:ZX):List ByteArray:=[⟨#[90,111,110,101]⟩,z.zn,z.off,z.rl,z.fm]
def ZX.e(z:ZX):EraD:=je0 z.off z.rl z.fm
def relX(x1 x2:RX)(z:ZX):RelD:=⟨[x1.d,x2.d],[⟨z.zn,[z.e]⟩],[]⟩
structure TextW(t:ByteArray)(x1 x2:RX)(z:ZX)(k1 k2 k3:Nat):Prop where
 sz:t.size<=8000
 r1:x1.ok
 r2:x2.ok
 ze:EraW z.off z.rl z.fm
 zs:z.zn.size<=8000
 zn:jbs z.zn=true
 l1:Lex t 0 [] (x1.ws,k1)
 h1:k1+1<t.size
 l2:Lex t (k1+1) [] (x2.ws,k2)
 h2:k2+1<t.size
 l3:Lex t (k2+1) [] (z.ws,k3)
 h3:k3+1=t.size
 b1:jbm x1.d=true
 b2:jbm x2.d=true
 b3:eraP z.e=true
 all:relB (relX x1 x2 z)=true
theorem RX.dok{x:RX}(h:x.ok):x.d.ok:=by
 have hm:8000<=maxLen:=by decide
 refine⟨Nat.le_trans h.m1 hm,Nat.le_trans h.m5 hm,?_,?_⟩
 ·show(1:Nat)<=maxLen
  omega
 ·show(letT x.le).size<=maxLen
  unfold letT
  split
  ·exact Nat.zero_le _
  ·exact Nat.le_trans h.m9 hm
theorem jwp{t:ByteArray}{x1 x2:RX}{z:ZX}{k1 k2 k3:Nat}(h:TextW t x1 x2 z k1 k2 k3):(relX x1 x2 z).ok:=by
 have hm:8000<=maxLen:=by decide
 have h1:1<=maxLen:=by omega
 have h2:2<=maxLen:=by omega
 refine⟨⟨h2,fun x hx=>?_⟩,⟨h1,fun x hx=>?_⟩,Nat.zero_le _,fun x hx=>by simp[relX]at hx⟩
 ·simp only[relX,List.mem_cons,List.not_mem_nil,or_false]at hx
  rcases hx with rfl|rfl
  ·exact RX.dok h.r1
  ·exact RX.dok h.r2
 ·simp only[relX,List.mem_cons,List.not_mem_nil,or_false]at hx
  subst hx
  refine⟨Nat.le_trans h.zs hm,h1,fun e he=>?_⟩
  simp only[List.mem_cons,List.not_mem_nil,or_false]at he
  subst he
  exact⟨Nat.le_trans h.ze.m2 hm,Nat.le_trans h.ze.m3 hm,h1⟩
theorem relX_small{x1 x2:RX}{z:ZX}:(relX x1 x2 z).small:=⟨by simp[relX],by simp[relX],by simp[relX],fun y hy=>by simp only[relX,List.mem_cons,List.not_mem_nil,or_false]at hy;subst hy;simp⟩
theorem jwo{t:ByteArray}{x1 x2:RX}{z:ZX}{k1 k2 k3:Nat}(h:TextW t x1 x2 z k1 k2 k3):∀x∈(relX x1 x2 z).rules,x.on.size<=1048576:=fun x hx=>by
 simp only[relX,List.mem_cons,List.not_mem_nil,or_false]at hx
 rcases hx with rfl|rfl
 ·exact Nat.le_trans h.r1.m5 (by decide)
 ·exact Nat.le_trans h.r2.m5 (by decide)
theorem Zx.rel{w00 w0 w:World}{p k:Nat}{t zn:ByteArray}{n:Int}{rules:List RuleD}{es:List EraD}{ra ea:Option Addr}{rc zb zc ec:Nat}(h:Zx w00 w0 w p t k n rules zn es ra rc zb zc ea ec):Zi w (.agg #[.slice ra rules.length rc,.slice (some ⟨zb,0,none⟩) 1 zc,.slice none 0 0]) ⟨rules,[⟨zn,es⟩],[]⟩:=by
 have h1:w.ownsRow w0.heap.size 131 9 (.slice ra rules.length rc) (rules.map RuleD.cs).length (rules.map RuleD.cs).flatten:=by rw[List.length_map];exact h.rul
 have h2:w.ownsRow w0.heap.size 148 6 (.slice ea es.length ec) (es.map EraD.cs).length (es.map EraD.cs).flatten:=by rw[List.length_map];exact h.era
 obtain⟨a,c,e1,s1,_⟩:=jav h1 (fun r hr=>by obtain⟨x,_,rfl⟩:=List.mem_map.mp hr;rfl)
 obtain⟨a2,c2,e2,s2,_⟩:=jav h2 (fun r hr=>by obtain⟨x,_,rfl⟩:=List.mem_map.mp hr;rfl)
 injection e1 with e1 _ _
 injection e2 with e2 _ _
 subst e1 e2
 refine⟨_,_,_,_,_,_,rfl,s1,.inr ⟨zb,0,rfl,fun i y hy=>?_⟩,.inl rfl⟩
 cases i with
 |succ i=>simp at hy
 |zero=>
  obtain rfl:=Option.some.inj hy
  exact⟨h.zon.c 0 rfl,_,h.zon.c 1 rfl,_,_,rfl,s2⟩
theorem Zv.line{w00 w0 w:World}{p k:Nat}{t:ByteArray}{n:Int}{rules:List RuleD}(h:Zv w00 w0 w p t k n rules)(m:Int):Zv w00 w0 (w.setCell ⟨p,2,none⟩ (.int .i64 m)) p t k m rules:=by
 obtain⟨ra,rc,hV,hO⟩:=h.ex
 have hg:=jae w p 2 (.int .i64 m)
 refine⟨⟨ra,rc,?_,World.ownsRow.kept hO hg (by
  cases hv:(Value.slice ra rules.length rc).ownBlock with
  |none=>exact .inl rfl
  |some x=>exact .inr (by have:=(World.ownsRow.lt hO x hv).1;have:=h.hi;simp;omega))⟩,h.grown.trans hg,h.bel,h.lo,h.hi⟩
 have:=hV.set (j:=2) (.int .i64 m)
 simpa [srcL]using this
theorem Zx.line{w00 w0 w:World}{p k:Nat}{t zn:ByteArray}{n:Int}{rules:List RuleD}{es:List EraD}{ra ea:Option Addr}{rc zb zc ec:Nat}(h:Zx w00 w0 w p t k n rules zn es ra rc zb zc ea ec)(m:Int):Zx w00 w0 (w.setCell ⟨p,2,none⟩ (.int .i64 m)) p t k m rules zn es ra rc zb zc ea ec:=by
 have hk:∀{e:TypeId} {q n:Nat} {v:Value} {xs:List Value},w.ownsRow w0.heap.size e q v n xs->(w.setCell ⟨p,2,none⟩ (.int .i64 m)).ownsRow w0.heap.size e q v n xs:=fun {e q n v xs} ho=>World.ownsRow.kept ho (jae w p 2 _) (by
  cases hv:v.ownBlock with
  |none=>exact .inl rfl
  |some x=>exact .inr (by have:=(World.ownsRow.lt ho x hv).1;have:=h.hi;simp;omega))
 refine⟨?_,hk h.rul,h.zon.other (by have:=h.zlo;have:=h.hi;omega) _,jah h.zty,hk h.era,h.zlo,h.grown.trans (jae w p 2 _),h.bel,h.lo,h.hi⟩
 have:=h.var.set (j:=2) (.int .i64 m)
 simpa [srcL]using this
theorem jn6{t:ByteArray}{x1 x2:RX}{z:ZX}{k1 k2 k3:Nat}(hT:TextW t x1 x2 z k1 k2 k3)(w00 w0 w:World)(p:Nat)(hS:Zv w00 w0 w p t 0 0 [])(hE:Zm w00):
  Calls Tryz.prog 225 #[.pointer (some ⟨p,0,none⟩)] w fun q w'=>q=.returned .nilIface/\SrcZ w00 w0 w' p t t.size 3 [x1.d,x2.d] z.zn [z.e]:=by
 have hsz:=hT.sz
 have q1:=fun W (h:Zv w00 w0 W p t 0 0 [])=>jde hT.r1 w00 w0 W p 0 k1 t 0 [] h hE hsz (by omega) (by have:=hT.h1;omega) hT.l1 (by simp)
 have q2:=fun W (h:Zv w00 w0 W p t (k1+1) 1 [x1.d])=>jde hT.r2 w00 w0 W p (k1+1) k2 t 1 [x1.d] h hE hsz (by have:=hT.h1;omega) (by have:=hT.h2;omega) hT.l2 (by simp)
 have q3:=fun W (h:Zv w00 w0 W p t (k2+1) 2 [x1.d,x2.d])=>jf1 hT.ze hT.zs hT.zn w00 w0 W p (k2+1) k3 t 2 [x1.d,x2.d] h hsz (by have:=hT.h2;omega) (by have:=hT.h3;omega) hT.l3
 have hRR:=fun W v hE h=>ja8 (relX x1 x2 z) v W hE h (jwp hT) relX_small (jwo hT)
 rw[hT.all]at hRR
 have e1:=hT.b1
 have e2:=hT.b2
 have e3:=hT.b3
 unfold RX.d at e1 e2
 unfold ZX.e at e3
 rw[e1]at q1
 rw[e2]at q2
 rw[e3]at q3
 have h1:=hT.h1
 have h2:=hT.h2
 have h3:=hT.h3
 clear e1 e2 e3 hT
 have HS:=hidQ hS
 obtain⟨ra,rc,hV,_⟩:=hS.ex
 have c0:=hV.c 0 (u:=.string t) rfl
 have c1:=hV.c 1 (u:=.int .i64 (0:Nat)) rfl
 have j1:((0:Nat):Int)<(t.size:Int):=by omega
 have hq:=q1 w.drew (HS.out.below (jaa w))
 clear hV hS
 go_enter Tryz.func225,Tryz.ntmps225
 go_wp2
 refine wp_loop_rounds 4 ?_
 rw[rounds_succ]
 go_wp2_with fail
 go_region
 go_wp2_with fail
 refine hq.mono ?_
 rintro q w1 ⟨rfl,hS1⟩
 obtain⟨_,_,hV1,_⟩:=hS1.ex
 have a2:=hV1.c 2 (u:=.int .i64 0) rfl
 have f2:=hV1.f 2 (u:=.int .i64 0) rfl
 have hS2:=hS1.line 1
 clear hS1 hV1 q1 hq c0 c1 HS j1
 go_wp2
 generalize w1.setCell ⟨p,2,none⟩ (.int .i64 1)=w2 at *
 obtain⟨_,_,hV2,_⟩:=hS2.ex
 have c0:=hV2.c 0 (u:=.string t) rfl
 have c1:=hV2.c 1 (u:=.int .i64 (k1+1:Nat)) rfl
 have j1:((k1+1:Nat):Int)<(t.size:Int):=by omega
 have hq:=q2 w2.drew (hS2.below (jaa w2))
 have HS:=hidQ hS2
 clear hV2 hS2 a2 f2
 rw[rounds_succ]
 go_wp2_with fail
 go_region
 go_wp2_with fail
 refine hq.mono ?_
 rintro q w3 ⟨rfl,hS3⟩
 obtain⟨_,_,hV3,_⟩:=hS3.ex
 have a2:=hV3.c 2 (u:=.int .i64 1) rfl
 have f2:=hV3.f 2 (u:=.int .i64 1) rfl
 have hS4:Zv w00 w0 (w3.setCell ⟨p,2,none⟩ (.int .i64 2)) p t (k2+1) 2 [x1.d,x2.d]:=hS3.line 2
 clear hS3 hV3 q2 hq c0 c1 HS j1
 go_wp2
 generalize w3.setCell ⟨p,2,none⟩ (.int .i64 2)=w4 at *
 obtain⟨_,_,hV4,_⟩:=hS4.ex
 have c0:=hV4.c 0 (u:=.string t) rfl
 have c1:=hV4.c 1 (u:=.int .i64 (k2+1:Nat)) rfl
 have j1:((k2+1:Nat):Int)<(t.size:Int):=by omega
 have hq:=q3 w4.drew (hS4.below (jaa w4))
 clear hV4 hS4 a2 f2
 rw[rounds_succ]
 go_wp2_with fail
 go_region
 go_wp2_with fail
 refine hq.mono ?_
 rintro q w5 ⟨rfl,hS5⟩
 obtain⟨ra5,rc5,zb,zc,ea,ec,hS5⟩:=hS5
 have a2:=hS5.var.c 2 (u:=.int .i64 2) rfl
 have f2:=hS5.var.f 2 (u:=.int .i64 2) rfl
 have hS6:Zx w00 w0 (w5.setCell ⟨p,2,none⟩ (.int .i64 3)) p t t.size 3 [x1.d,x2.d] z.zn [z.e] ra5 rc5 zb zc ea ec:=by rw[<- h3];exact hS5.line 3
 clear hS5 q3 hq c0 c1 j1 h1 h2 h3
 go_wp2
 generalize w5.setCell ⟨p,2,none⟩ (.int .i64 3)=w6 at *
 have c0:=hS6.var.c 0 (u:=.string t) rfl
 have c1:=hS6.var.c 1 (u:=.int .i64 (t.size:Nat)) rfl
 have hS7:=hS6.below (jaa w6)
 clear hS6 a2 f2
 rw[rounds_succ]
 go_wp2_with fail
 go_region
 generalize w6.drew=w7 at *
 have c3:=hS7.var.c 3 (u:=.bool false) rfl
 have c4:=hS7.var.c 4 (u:=.slice ra5 2 rc5) rfl
 have c5:=hS7.var.c 5 (u:=.slice (some ⟨zb,0,none⟩) 1 zc) rfl
 have c6:=hS7.var.c 6 (u:=.slice none 0 0) rfl
 have hR7:=hRR w7 (.agg #[.slice ra5 2 rc5,.slice (some ⟨zb,0,none⟩) 1 zc,.slice none 0 0]) (hE.of_below hS7.b) hS7.rel
 have HS:=hidQ hS7
 clear hS7 hRR
 go_wp2_with fail
 refine hR7.mono ?_
 rintro q w8 ⟨rfl,hb8⟩
 have hS8:=HS.out.below hb8
 clear HS hR7 hb8
 go_wp2
 go_ret
 exact⟨rfl,_,_,_,_,_,_,hS8⟩
end
section
open Go.RowKit
def relT(t:TypeId):Prop:=t=131\/t=136\/t=148\/t=140
def Zp(B:Nat)(w w':World):Prop:=∀b,b<B->(∃cs t,w.heap[b]? =some (.cells cs t (0,0))/\relT t)->w'.heap[b]? =w.heap[b]?
structure Ja(B:Nat)(w:World)(v:Value)(r:RelD):Prop where
 le:B<=w.heap.size
 keep:∀w',Zp B w w'->Zi w' v r
theorem Zp.refl(B:Nat)(w:World):Zp B w w:=fun _ _ _=>rfl
theorem Zp.trans{B:Nat}{w w' w'':World}(h:Zp B w w')(k:Zp B w' w''):Zp B w w'':=fun b hb ht=>by
 have h1:=h b hb ht
 obtain⟨cs,t,hc,hT⟩:=ht
 exact(k b hb ⟨cs,t,h1.trans hc,hT⟩).trans h1
theorem Ja.at{B:Nat}{w:World}{v:Value}{r:RelD}(h:Ja B w v r):Zi w v r:=h.keep w (Zp.refl B w)
theorem Ja.kept{B:Nat}{w w':World}{v:Value}{r:RelD}(h:Ja B w v r)(hk:Zp B w w')(hs:w.heap.size<=w'.heap.size):Ja B w' v r:=⟨Nat.le_trans h.le hs,fun w'' hk2=>h.keep w'' (hk.trans hk2)⟩
theorem Ja.mono{B C:Nat}{w:World}{v:Value}{r:RelD}(h:Ja B w v r)(hc:B<=C)(hs:C<=w.heap.size):Ja C w v r:=⟨hs,fun w' hk=>h.keep w' fun b hb=>hk b (by omega)⟩
theorem Zp.below{B:Nat}{w w':World}(hB:B<=w.heap.size)(h:Below w.heap.size w w'):Zp B w w':=fun b hb _=>h.block b (by omega)
theorem Ja.below{B:Nat}{w w':World}{v:Value}{r:RelD}(h:Ja B w v r)(hb:Below w.heap.size w w'):Ja B w' v r:=h.kept (Zp.below h.le hb) hb.size
theorem Zp.grown{B g:Nat}{w w':World}(hB:B<=w.heap.size)(h:w.grownBy w' (some g))(hg:B<=g\/∀cs t,w.heap[g]? =some (.cells cs t (0,0))->¬relT t):Zp B w w':=fun b hb ⟨cs,t,hc,hT⟩=>h.block b (by omega) (fun e=>by
 injection e with e
 subst e
 rcases hg with hg|hg
 ·omega
 ·exact hg cs t hc hT)
theorem jh8{w w':World}{base:Nat}{e:TypeId}{q n:Nat}{v:Value}{xs:List Value}(h:w.ownsRow base e q v n xs)(hk:∀(b:Nat) (cs:Array Value),w.heap[b]? =some (Obj.cells cs e (0,0))->w'.heap[b]? =w.heap[b]?):w'.ownsRow base e q v n xs:=by
 refine⟨h.1,?_⟩
 rcases h.2 with h1|⟨g,cap,cur,h1,h2,h3,h4⟩
 ·exact .inl h1
 ·exact .inr ⟨g,cap,cur,h1,h2,(hk g cur h3).trans h3,h4⟩
theorem Zx.stays{w00 w0 w:World}{p k:Nat}{t zn:ByteArray}{n:Int}{rules:List RuleD}{es:List EraD}{ra ea:Option Addr}{rc zb zc ec:Nat}(h:Zx w00 w0 w p t k n rules zn es ra rc zb zc ea ec):Ja w.heap.size w (.agg #[.slice ra rules.length rc,.slice (some ⟨zb,0,none⟩) 1 zc,.slice none 0 0]) ⟨rules,[⟨zn,es⟩],[]⟩:=by
 refine⟨Nat.le_refl _,fun w' hk=>?_⟩
 have hK:∀t',relT t'->∀(b:Nat) (cs:Array Value),w.heap[b]? =some (Obj.cells cs t' (0,0))->w'.heap[b]? =w.heap[b]? :=fun t' ht b cs hc=>hk b (Array.getElem?_eq_some_iff.mp hc).1 ⟨cs,t',hc,ht⟩
 have hR:=jh8 h.rul (hK _ (.inl rfl))
 have hEr:=jh8 h.era (hK _ (.inr (.inr (.inl rfl))))
 obtain⟨zs,hz⟩:=h.zty
 have hz':=hK _ (.inr (.inl rfl)) zb zs hz
 have hc:∀o,w'.cell? ⟨zb,o,none⟩=w.cell? ⟨zb,o,none⟩:=fun o=>by simp only[World.cell?,hz']
 have h1:w'.ownsRow w0.heap.size 131 9 (.slice ra rules.length rc) (rules.map RuleD.cs).length (rules.map RuleD.cs).flatten:=by rw[List.length_map];exact hR
 have h2:w'.ownsRow w0.heap.size 148 6 (.slice ea es.length ec) (es.map EraD.cs).length (es.map EraD.cs).flatten:=by rw[List.length_map];exact hEr
 obtain⟨a,c,e1,s1,_⟩:=jav h1 (fun r hr=>by obtain⟨x,_,rfl⟩:=List.mem_map.mp hr;rfl)
 obtain⟨a2,c2,e2,s2,_⟩:=jav h2 (fun r hr=>by obtain⟨x,_,rfl⟩:=List.mem_map.mp hr;rfl)
 injection e1 with e1 _ _
 injection e2 with e2 _ _
 subst e1 e2
 refine⟨_,_,_,_,_,_,rfl,s1,.inr ⟨zb,0,rfl,fun i y hy=>?_⟩,.inl rfl⟩
 cases i with
 |succ i=>simp at hy
 |zero=>
  obtain rfl:=Option.some.inj hy
  exact⟨(hc _).trans (h.zon.c 0 rfl),_,(hc _).trans (h.zon.c 1 rfl),_,_,rfl,s2⟩
theorem jmn(v:Value)(w:World):Calls Tryz.prog 226 #[.nilIface,v] w fun q w'=>q=.returned (.bool false)/\w'=w:=by
 go_enter Tryz.func226,Tryz.ntmps226
 go_wp2
 go_ret
 exact⟨rfl,rfl⟩
structure ReadP(r:RelD)(w:World)(q:Ending)(w':World):Prop where
 ex:∃a ca b cb,q=.returned (.agg #[.slice a r.rules.length ca,.slice b r.zones.length cb,.slice none 0 0,.int .i64 0,.int .i64 0])/\Ja w'.heap.size w' (.agg #[.slice a r.rules.length ca,.slice b r.zones.length cb,.slice none 0 0]) r
 bel:Below w.heap.size w w'
theorem jh3{t:ByteArray}{x1 x2:RX}{z:ZX}{k1 k2 k3:Nat}(hT:TextW t x1 x2 z k1 k2 k3)(w:World)(hE:Zm w):
  Calls Tryz.prog 180 #[.string t] w (ReadP (relX x1 x2 z) w):=by
 have b1:=qal w (.cells #[.slice none 0 0,.slice none 0 0,.slice none 0 0,.int .i64 0,.int .i64 0] 268)
 have b2:=b1.alloc b1.size (.cells #[.string t,.int .i64 0,.int .i64 0,.bool false,.slice none 0 0,.slice none 0 0,.slice none 0 0] 318)
 have O1:=(Zc.new w [.slice none 0 0,.slice none 0 0,.slice none 0 0,.int .i64 0,.int .i64 0] 268).below (qal _ (.cells #[.string t,.int .i64 0,.int .i64 0,.bool false,.slice none 0 0,.slice none 0 0,.slice none 0 0] 318))
 have V2:=Zc.new (w.alloc (.cells #[.slice none 0 0,.slice none 0 0,.slice none 0 0,.int .i64 0,.int .i64 0] 268)) [.string t,.int .i64 0,.int .i64 0,.bool false,.slice none 0 0,.slice none 0 0,.slice none 0 0] 318
 have T2:∃cs,((w.alloc (.cells #[.slice none 0 0,.slice none 0 0,.slice none 0 0,.int .i64 0,.int .i64 0] 268)).alloc (.cells #[.string t,.int .i64 0,.int .i64 0,.bool false,.slice none 0 0,.slice none 0 0,.slice none 0 0] 318)).heap[w.heap.size]? =some (Obj.cells cs 268 (0,0)):=⟨_,(heap_alloc_old _ _ (by simp)).trans (heap_alloc_new w _)⟩
 have hs2:((w.alloc (.cells #[.slice none 0 0,.slice none 0 0,.slice none 0 0,.int .i64 0,.int .i64 0] 268)).alloc (.cells #[.string t,.int .i64 0,.int .i64 0,.bool false,.slice none 0 0,.slice none 0 0,.slice none 0 0] 318)).heap.size=w.heap.size+1+1:=by simp
 have hs1:(w.alloc (.cells #[.slice none 0 0,.slice none 0 0,.slice none 0 0,.int .i64 0,.int .i64 0] 268)).heap.size=w.heap.size+1:=by simp
 rw[hs1]at V2
 have hAs:=fun v W=>jmn v W
 have hsz:=hT.sz
 go_enter Tryz.func180,Tryz.ntmps180
 go_wp2_with fail
 generalize (w.alloc (.cells #[.slice none 0 0,.slice none 0 0,.slice none 0 0,.int .i64 0,.int .i64 0] 268)).alloc (.cells #[.string t,.int .i64 0,.int .i64 0,.bool false,.slice none 0 0,.slice none 0 0,.slice none 0 0] 318)=w2 at *
 have hRd:=jn6 hT w w2 w2 (w.heap.size+1) ⟨⟨none,0,V2,World.ownsRow_nil _ _ _ _⟩,World.grownBy.refl _ _,b2,by omega,by omega⟩ hE
 clear b1 V2 hs1
 refine hRd.mono ?_
 rintro q w3 ⟨rfl,ra,rc,zb,zc,ea,ec,hS⟩
 have O3:=O1.app hS.grown (by simp)
 have T3:∃cs,w3.heap[w.heap.size]? =some (Obj.cells cs 268 (0,0)):=by
  obtain⟨cs,hc⟩:=T2
  exact⟨cs,(hS.grown.block _ (by omega) (by simp)).trans hc⟩
 have hB3:=hS.b
 have c4:=hS.var.c 4 (u:=.slice ra 2 rc) rfl
 have c5:=hS.var.c 5 (u:=.slice (some ⟨zb,0,none⟩) 1 zc) rfl
 have c6:=hS.var.c 6 (u:=.slice none 0 0) rfl
 have HSt:=hidQ hS.stays
 have hz3:w.heap.size+1+1<=w3.heap.size:=by have:=hS.grown.size;omega
 clear hS hRd O1 b2 hs2 T2
 have b4:=qal w3 (.cells #[.int .i64 0,.int .i64 0] 320)
 have O4:=O3.below b4
 have d4:=jab b4 c4
 have T4:∃cs,(w3.alloc (.cells #[.int .i64 0,.int .i64 0] 320)).heap[w.heap.size]? =some (Obj.cells cs 268 (0,0)):=by
  obtain⟨cs,hc⟩:=T3
  exact⟨cs,(b4.block _ (by omega)).trans hc⟩
 have d5:=jab b4 c5
 have d6:=jab b4 c6
 have hB4:=qtr hB3 b4
 have HSt4:=hidQ (HSt.out.below b4)
 have hs4:(w3.alloc (.cells #[.int .i64 0,.int .i64 0] 320)).heap.size=w3.heap.size+1:=by simp
 go_wp2_with fail
 generalize w3.alloc (.cells #[.int .i64 0,.int .i64 0] 320)=w4 at *
 refine(hAs _ _).mono ?_
 rintro q w5 ⟨rfl,rfl⟩
 have o0:=O4.c 0 rfl
 have o1:=O4.c 1 rfl
 have o2:=O4.c 2 rfl
 have o3:=O4.c 3 rfl
 have o4:=O4.c 4 rfl
 have p0:=O4.f 0 (u:=.slice none 0 0) rfl
 have p1:=O4.f 1 (u:=.slice none 0 0) rfl
 have p2:=O4.f 2 (u:=.slice none 0 0) rfl
 have p3:=O4.f 3 (u:=.int .i64 0) rfl
 have p4:=O4.f 4 (u:=.int .i64 0) rfl
 have HT4:=hidQ T4
 clear HSt c4 c5 c6 O3 b4 hB3 T3 T4
 have HO:=hidQ O4
 have HB:=hidQ hB4
 clear O4 hB4
 go_wp2
 have HF:=((((HO.out.set (j:=0) (.slice ra 2 rc)).set (j:=1) (.slice (some ⟨zb,0,none⟩) 1 zc)).set (j:=2) (.slice none 0 0)).set (j:=3) (.int .i64 0)).set (j:=4) (.int .i64 0)
 have hG:=((((jae w5 w.heap.size 0 (.slice ra 2 rc)).trans (jae _ w.heap.size 1 (.slice (some ⟨zb,0,none⟩) 1 zc))).trans (jae _ w.heap.size 2 (.slice none 0 0))).trans (jae _ w.heap.size 3 (.int .i64 0))).trans (jae _ w.heap.size 4 (.int .i64 0))
 clear o0 o1 o2 o3 o4 p0 p1 p2 p3 p4 d4 d5 d6 HO
 generalize ((((w5.setCell ⟨w.heap.size,0,none⟩ (.slice ra 2 rc)).setCell ⟨w.heap.size,1,none⟩ (.slice (some ⟨zb,0,none⟩) 1 zc)).setCell ⟨w.heap.size,2,none⟩ (.slice none 0 0)).setCell ⟨w.heap.size,3,none⟩ (.int .i64 0)).setCell ⟨w.heap.size,4,none⟩ (.int .i64 0)=W at *
 have u0:W.cell? ⟨w.heap.size,0,none⟩=some (.slice ra 2 rc):=HF.c 0 rfl
 have u1:W.cell? ⟨w.heap.size,1,none⟩=some (.slice (some ⟨zb,0,none⟩) 1 zc):=HF.c 1 rfl
 have u2:W.cell? ⟨w.heap.size,2,none⟩=some (.slice none 0 0):=HF.c 2 rfl
 have u3:W.cell? ⟨w.heap.size,3,none⟩=some (.int .i64 0):=HF.c 3 rfl
 have u4:W.cell? ⟨w.heap.size,4,none⟩=some (.int .i64 0):=HF.c 4 rfl
 have hSz:=hG.size
 have hK:=Zp.grown (B:=w3.heap.size) (by omega) hG (.inr fun cs t hc hr=>by
  obtain⟨ds,hd⟩:=HT4.out
  rw[hd]at hc
  injection hc with hc
  injection hc with _ hc _
  subst hc
  rcases hr with h|h|h|h<;>exact absurd h (by decide))
 exact bodyPost_ret (v:=.agg #[.slice ra 2 rc,.slice (some ⟨zb,0,none⟩) 1 zc,.slice none 0 0,.int .i64 0,.int .i64 0]) (by simp[results,Tryz.results180,go_sem,u0,u1,u2,u3,u4]) rfl ⟨⟨ra,rc,some ⟨zb,0,none⟩,zc,rfl,(HSt4.out.kept hK hSz).mono (by omega) (Nat.le_refl _)⟩,HB.out.grown hG HB.out.size (fun j hj=>by injection hj with hj;omega)⟩
end
end Go.Proofs.YtofdpfpdocpbpaaGreatDoor
