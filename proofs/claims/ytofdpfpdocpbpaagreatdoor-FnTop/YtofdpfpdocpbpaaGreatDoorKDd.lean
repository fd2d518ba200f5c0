/- Packed. -/
import Derived.Test.YtofdpfpdocpbpaaGreatDoorKCd
import Derived.Deep.RegionLaw
import Derived.BigRegion
import Derived.Test.YtofdpfpdocpbpaaGreatDoorKAd
import Derived.Test.YtofdpfpdocpbpaaGreatDoorRightQd
import Derived.Test.YtofdpfpdocpbpaaGreatDoorTabPd
import Derived.Deep.RegionHeld3
import Derived.BigQuiet
set_option maxRecDepth 20000
set_option maxHeartbeats 20000000
set_option linter.unusedSimpArgs false
namespace Go.Proofs.YtofdpfpdocpbpaaGreatDoor
section
open Go.RowKit
structure Zv(w00 w0 w:World)(p:Nat)(t:ByteArray)(k:Nat)(n:Int)(rules:List RuleD):Prop where
 ex:∃ra rc,Zc w p (srcL t k n false (.slice ra rules.length rc) (.slice none 0 0) (.slice none 0 0))/\w.ownsRow w0.heap.size 131 9 (.slice ra rules.length rc) rules.length (rules.map RuleD.cs).flatten
 grown:w0.grownBy w (some p)
 bel:Below w00.heap.size w00 w0
 lo:w00.heap.size<=p
 hi:p<w0.heap.size
theorem Zv.b{w00 w0 w:World}{p k:Nat}{t:ByteArray}{n:Int}{rules:List RuleD}(h:Zv w00 w0 w p t k n rules):Below w00.heap.size w00 w:=h.bel.grown h.grown h.bel.size (fun j hj=>by injection hj with hj;have:=h.lo;omega)
theorem Zv.below{w00 w0 w w':World}{p k:Nat}{t:ByteArray}{n:Int}{rules:List RuleD}(h:Zv w00 w0 w p t k n rules)(hb:Below w.heap.size w w'):Zv w00 w0 w' p t k n rules:=by
 obtain⟨ra,rc,h1,h2⟩:=h.ex
 exact⟨⟨ra,rc,h1.below hb,jad h2 hb⟩,⟨hb.os.trans h.grown.os,hb.tape.trans h.grown.tape,hb.output.trans h.grown.output,Nat.le_trans h.grown.size hb.size,fun j hj hn=>(hb.block j (Nat.lt_of_lt_of_le hj h.grown.size)).trans (h.grown.block j hj hn)⟩,h.bel,h.lo,h.hi⟩
theorem j0j{w:World}{base:Nat}{rules:List RuleD}{g cap:Nat}{r:RuleD}(h:w.ownsRow base 131 9 (.slice (some ⟨g,0,none⟩) (rules.length+1) cap) (rules.length+1) ((rules.map RuleD.cs).flatten++r.cs)):w.ownsRow base 131 9 (.slice (some ⟨g,0,none⟩) (rules++[r]).length cap) (rules++[r]).length ((rules++[r]).map RuleD.cs).flatten:=by
 rw[List.length_append,List.map_append,List.flatten_append]
 simpa using h
theorem Zv.push{w00 w0 w wF:World}{p k:Nat}{t:ByteArray}{n:Int}{rules:List RuleD}{r:RuleD}{ra:Option Addr}{rc g1 cap1:Nat}(h:Zv w00 w0 w p t k n rules)(hV:Zc w p (srcL t k n false (.slice ra rules.length rc) (.slice none 0 0) (.slice none 0 0)))(hO:w.ownsRow w0.heap.size 131 9 (.slice ra rules.length rc) rules.length (rules.map RuleD.cs).flatten)(hg:w.grownBy wF (Value.slice ra rules.length rc).ownBlock)(h1:wF.ownsRow w0.heap.size 131 9 (.slice (some ⟨g1,0,none⟩) (rules.length+1) cap1) (rules.length+1) ((rules.map RuleD.cs).flatten++r.cs)):Zv w00 w0 (wF.setCell ⟨p,4,none⟩ (.slice (some ⟨g1,0,none⟩) (rules.length+1) cap1)) p t k n (rules++[r]):=by
 have hlo:∀g,(Value.slice ra rules.length rc).ownBlock=some g->w0.heap.size<=g:=fun g hg=>(World.ownsRow.lt hO g hg).1
 have hne:some p≠(Value.slice ra rules.length rc).ownBlock:=fun e=>by have:=hlo p e.symm;have:=h.hi;omega
 have hV2:Zc wF p (srcL t k n false (.slice ra rules.length rc) (.slice none 0 0) (.slice none 0 0)):=fun i u hu=>by
  obtain⟨a1,a2⟩:=hV i u hu
  exact⟨hg.cell a1 hne,(hg.frozen_far _ (qbl a1) hne).trans a2⟩
 have hg1:=(World.ownsRow.lt h1 g1 rfl).1
 refine⟨⟨some ⟨g1,0,none⟩,cap1,?_,j0j (World.ownsRow.kept h1 (jae wF p 4 _) (.inr (by have:=h.hi;simp[Value.ownBlock];omega)))⟩,(h.grown.andThen hg (fun j hj=>.inl (hlo j hj))).andThen (jae wF p 4 _) (fun _ e=>.inr e),h.bel,h.lo,h.hi⟩
 have:=hV2.set (j:=4) (.slice (some ⟨g1,0,none⟩) (rules.length+1) cap1)
 simpa [srcL]using this
theorem jl7{nm y1 y2 mo on at_ r sv le:ByteArray}(hR:RuleW nm y1 y2 mo on at_ r sv le)(w00 w0 w:World)(p k wc:Nat)(wp:Option Addr)(t:ByteArray)(n:Int)(rules:List RuleD)(hS:Zv w00 w0 w p t k n rules)(hE:Zm w00)(hw:WAt w wp (jg7 nm y1 y2 mo on at_ sv le))(hl:rules.length<=100):
  Calls Tryz.prog 305 #[.pointer (some ⟨p,0,none⟩),.slice wp 10 wc] w fun q w'=>q=.returned (.bool (jbm (jdp nm y1 y2 mo on r sv le)))/\Zv w00 w0 w' p t k n (rules++[jdp nm y1 y2 mo on r sv le]):=by
 obtain⟨i0,hi,hz0,hz1,hz2⟩:=jsb
 have hpw:p<w.heap.size:=Nat.lt_of_lt_of_le hS.hi hS.grown.size
 have hsz0:=hS.grown.size
 have hM:=jdf (jrl w.heap.size) (jg7 nm y1 y2 mo on at_ sv le) (fun _=>true) _ _ _ 10 wc (j0g hR w wp hw) rfl (by show 10<=1000;omega) (jak w (jb7 w.heap.size)) ⟨World.grownBy.refl _ _,jch (jb7 w.heap.size) w 0 rfl⟩
 have hbA:=jax (jb7 w.heap.size) w
 have hsA:=jc9 (jb7 w.heap.size) w
 have hok:(jdp nm y1 y2 mo on r sv le).ok:=by
  have hm:8000<=maxLen:=by decide
  refine⟨Nat.le_trans hR.m1 hm,Nat.le_trans hR.m5 hm,?_,?_⟩
  ·show(1:Nat)<=maxLen
   omega
  ·show(letT le).size<=maxLen
   unfold letT
   split
   ·exact Nat.zero_le _
   ·exact Nat.le_trans hR.m9 hm
 have hrr:=fun W hE=>je7 (jdp nm y1 y2 mo on r sv le) W hE hok (Nat.le_trans hR.m5 (by decide))
 have hEnd:=jth nm y1 y2 mo on r sv le
 have k1:=fun s W=>jaw s W
 have k2:=fun p W=>jco p W
 have k3:=fun p W=>jd2 p W
 have k4:=fun p W=>jp6 p W
 have k6:=fun p W=>je8 p W
 have k7:=fun p q W=>jf0 p q W
 have k8:=fun p W=>jc5 p W
 have k9:=fun p W=>jjg p W
 have HS:=hidQ hS
 clear hS hw hR
 go_enter Tryz.func305,Tryz.ntmps305
 go_wp2_with (first|(go_at_call 14;refine(k1 _ _).mono ?_;rintro q w' ⟨rfl,rfl⟩)|(go_at_call 326;refine(k2 _ _).mono ?_;rintro q w' ⟨rfl,rfl⟩)|(go_at_call 327;refine(k3 _ _).mono ?_;rintro q w' ⟨rfl,rfl⟩)|(go_at_call 328;refine(k4 _ _).mono ?_;rintro q w' ⟨rfl,rfl⟩)|(go_at_call 329;refine(k6 _ _).mono ?_;rintro q w' ⟨rfl,rfl⟩)|(go_at_call 330;refine(k7 _ _ _).mono ?_;rintro q w' ⟨rfl,rfl⟩)|(go_at_call 331;refine(k8 _ _).mono ?_;rintro q w' ⟨rfl,rfl⟩)|(go_at_call 332;refine(k9 _ _).mono ?_;rintro q w' ⟨rfl,rfl⟩)|fail)
 refine Calls.mono (w:=jak w (jb7 w.heap.size)) hM ?_
 intro q w2 hP
 rcases hP.end_ with⟨rfl,_,hg,hV⟩|⟨_,k',_,hk',_⟩
 rotate_left
 ·cases hk'
 have hB2:=hbA.grown hg hbA.size (fun j hj=>by injection hj with hj;omega)
 have hV:Zc w2 w.heap.size (jdp nm y1 y2 mo on r sv le).cs:=by rw[<- hEnd];exact hV
 have hS2:=HS.out.below hB2
 obtain⟨ra,rc,hV0,hown0⟩:=HS.out.ex
 have hVs:=hV0.below hB2
 have hown:=jad hown0 hB2
 have hro:∀g,(Value.slice ra rules.length rc).ownBlock=some g->g<w.heap.size:=fun g hg=>(World.ownsRow.lt hown0 g hg).2
 clear hV0 hown0
 have x4:=hVs.c 4 rfl
 have f4:=hVs.f 4 (u:=.slice ra rules.length rc) rfl
 have hVsb:=hidQ hVs
 have hS2:=hidQ hS2
 have hsz2:=hB2.size
 have hp2:p<w2.heap.size:=by omega
 obtain⟨R,hRR⟩:∃x,jdp nm y1 y2 mo on r sv le=x:=⟨_,rfl⟩
 have HRR:=hidQ hRR
 rw[hRR]at hV hok hrr
 clear hRR
 obtain⟨Rn,Rlo,Rhi,Rm,Ron,Rat,Rof,Rsv,Rle⟩:=R
 have e0:w2.cell? ⟨w.heap.size,0,none⟩=some (.string Rn):=hV.c 0 rfl
 have e1:w2.cell? ⟨w.heap.size,1,none⟩=some (.int .i64 Rlo):=hV.c 1 rfl
 have e2:w2.cell? ⟨w.heap.size,2,none⟩=some (.int .i64 Rhi):=hV.c 2 rfl
 have e3:w2.cell? ⟨w.heap.size,3,none⟩=some (.int .i64 Rm):=hV.c 3 rfl
 have e4:w2.cell? ⟨w.heap.size,4,none⟩=some (.string Ron):=hV.c 4 rfl
 have e5:w2.cell? ⟨w.heap.size,5,none⟩=some (.int .i64 Rat):=hV.c 5 rfl
 have e6:w2.cell? ⟨w.heap.size,6,none⟩=some (.string Rof):=hV.c 6 rfl
 have e7:w2.cell? ⟨w.heap.size,7,none⟩=some (.int .i64 Rsv):=hV.c 7 rfl
 have e8:w2.cell? ⟨w.heap.size,8,none⟩=some (.string Rle):=hV.c 8 rfl
 have hnb:some p≠(Value.slice ra rules.length rc).ownBlock:=fun h=>by have:=(World.ownsRow.lt hown p h.symm).1;have:=HS.out.hi;omega
 have x4b:(w2.alloc (.cells #[.string Rn,.int .i64 Rlo,.int .i64 Rhi,.int .i64 Rm,.string Ron,.int .i64 Rat,.string Rof,.int .i64 Rsv,.string Rle] 131)).cell? ⟨p,4,none⟩=some (.slice ra rules.length rc):=jab (qal w2 _) x4
 have HV:=hidQ hV
 have HB2:=hidQ hB2
 clear hM hP hg hV hB2 hVs k1 k2 k3 k4 k6 k7 k8 k9 hEnd hbA hsA
 go_wp2_with fail
 go_region_law (refine step_append_lies _ (by rfl) (.tmp 33) (.tmp 35) 52 (by rfl) w0.heap.size 131 i0 (.agg #[.string ⟨#[]⟩,.int .i64 0,.int .i64 0,.int .i64 0,.string ⟨#[]⟩,.int .i64 0,.string ⟨#[]⟩,.int .i64 0,.string ⟨#[]⟩]) 9 104 Tryz.underlying52 hi hz0 hz1 hz2 rfl (by omega) (.slice ra rules.length rc) rules.length (rules.map RuleD.cs).flatten (by rfl) (World.ownsRow.alloc (w:=w2.drew) hown _) ⟨w2.heap.size,0,none⟩ 1 1 [.string Rn,.int .i64 Rlo,.int .i64 Rhi,.int .i64 Rm,.string Ron,.int .i64 Rat,.string Rof,.int .i64 Rsv,.string Rle] (by rfl) rfl (ja3 _ _ _) (by intro u hu;simp at hu;rcases hu with rfl|rfl|rfl|rfl|rfl|rfl|rfl|rfl|rfl<;>rfl) (by omega) (by unfold maxLen;omega) (by omega) (by simp;omega) _ rfl ?_;intro g1 cap1 wF hown1 hgrow hat hlt1;have r1:=hgrow.cell (a:=⟨p,4,none⟩) (jab (qal w2.drew _) x4) hnb;have r2:=(hgrow.frozen_far ⟨p,4,none⟩ (by simp;omega) hnb).trans (((jal (qal w2.drew _)).2 _ _ (by simp;omega)).trans f4))
 all_goals
  have b2:=(jaa w2).trans ((qal w2.drew (.cells #[.string Rn,.int .i64 Rlo,.int .i64 Rhi,.int .i64 Rm,.string Ron,.int .i64 Rat,.string Rof,.int .i64 Rsv,.string Rle] 131)).mono (Nat.le_refl _))
  have hS3:=(hS2.out.below b2).push (r:=⟨Rn,Rlo,Rhi,Rm,Ron,Rat,Rof,Rsv,Rle⟩) (hVsb.out.below b2) (jad hown b2) hgrow hown1
  have hV3:=((HV.out.below b2).app hgrow (fun e=>by have:=hro _ e.symm;omega)).other (b2:=p) (j:=4) (by omega) (.slice (some ⟨g1,0,none⟩) (rules.length+1) cap1)
  have hr3:=hrr _ (hE.of_below hS3.b)
  simp only[RuleD.v]at hr3
  generalize wF.setCell ⟨p,4,none⟩ (.slice (some ⟨g1,0,none⟩) (rules.length+1) cap1)=W3 at *
  have a0:W3.cell? ⟨w.heap.size,0,none⟩=some (.string Rn):=hV3.c 0 rfl
  have a1:W3.cell? ⟨w.heap.size,1,none⟩=some (.int .i64 Rlo):=hV3.c 1 rfl
  have a2:W3.cell? ⟨w.heap.size,2,none⟩=some (.int .i64 Rhi):=hV3.c 2 rfl
  have a3:W3.cell? ⟨w.heap.size,3,none⟩=some (.int .i64 Rm):=hV3.c 3 rfl
  have a4:W3.cell? ⟨w.heap.size,4,none⟩=some (.string Ron):=hV3.c 4 rfl
  have a5:W3.cell? ⟨w.heap.size,5,none⟩=some (.int .i64 Rat):=hV3.c 5 rfl
  have a6:W3.cell? ⟨w.heap.size,6,none⟩=some (.string Rof):=hV3.c 6 rfl
  have a7:W3.cell? ⟨w.heap.size,7,none⟩=some (.int .i64 Rsv):=hV3.c 7 rfl
  have a8:W3.cell? ⟨w.heap.size,8,none⟩=some (.string Rle):=hV3.c 8 rfl
  have HS3:=hidQ hS3
  clear b2 hown1 hgrow hat hlt1 r1 r2 hS3 hV3 x4 x4b f4 hown hVsb hS2 HV HB2 e0 e1 e2 e3 e4 e5 e6 e7 e8 hrr hi hz0 hz1 hz2 hnb hro
  go_wp2_with fail
  refine hr3.mono ?_
  rintro q w5 ⟨rfl,hb5⟩
  have HS5:=hidQ (HS3.out.below hb5)
  clear hr3 HS3 hb5 a0 a1 a2 a3 a4 a5 a6 a7 a8
  go_wp2
  go_ret
  rw[HRR.out]
  exact⟨rfl,HS5.out⟩
end
section
open Go.RowKit
structure EraW(off rl fm:ByteArray):Prop where
 m1:off.size<=8000
 m2:rl.size<=8000
 m3:fm.size<=8000
 k1:orCC off=0
 k2:jbs rl=true
def je0(off rl fm:ByteArray):EraD:=⟨orNN off,rl,0,fm,253402300799,⟨#[119]⟩⟩
def eraLs(off rl fm:ByteArray):Nat->List Value
 |0=>[.int .i64 0,.string ⟨#[]⟩,.int .i64 0,.string ⟨#[]⟩,.int .i64 253402300799,.string ⟨#[119]⟩]
 |1=>[.int .i64 (orNN off),.string ⟨#[]⟩,.int .i64 0,.string ⟨#[]⟩,.int .i64 253402300799,.string ⟨#[119]⟩]
 |2=>[.int .i64 (orNN off),.string rl,.int .i64 0,.string ⟨#[]⟩,.int .i64 253402300799,.string ⟨#[119]⟩]
 |_=>[.int .i64 (orNN off),.string rl,.int .i64 0,.string fm,.int .i64 253402300799,.string ⟨#[119]⟩]
def jug(b:Nat):List Value:=[.func (.func 347) #[] #[.pointer (some ⟨b+4,0,none⟩)],.func (.func 352) #[] #[.pointer (some ⟨b+5,0,none⟩)],.func (.func 340) #[] #[.pointer (some ⟨b+6,0,none⟩)]]
def j85(b:Nat):List Value:=[.func (.func 341) #[] #[.pointer (some ⟨b+7,0,none⟩)],.func (.func 343) #[] #[.pointer (some ⟨b+8,0,none⟩)],.func (.func 340) #[] #[.pointer (some ⟨b+9,0,none⟩)],.func (.func 344) #[] #[.pointer (some ⟨b+11,0,none⟩),.pointer (some ⟨b+10,0,none⟩)]]
def jg3(b:Nat):List (List Value × TypeId):=[([.int .i64 0,.string ⟨#[]⟩,.int .i64 0,.string ⟨#[]⟩,.int .i64 0,.string ⟨#[]⟩],148),([.int .i64 0,.string ⟨#[]⟩,.int .i64 0,.string ⟨#[]⟩,.int .i64 253402300799,.string ⟨#[119]⟩],148),([.int .i64 0,.int .i64 1,.string ⟨#[49]⟩],243),([.int .i64 0],2),([.pointer (some ⟨b+1,0,none⟩)],47),([.pointer (some ⟨b+1,0,none⟩)],435),([.pointer (some ⟨b+1,3,none⟩)],426),([.pointer (some ⟨b+2,0,none⟩)],47),([.pointer (some ⟨b+2,1,none⟩)],47),([.pointer (some ⟨b+2,2,none⟩)],426),([.pointer (some ⟨b+3,0,none⟩)],47),([.pointer (some ⟨b+1,5,none⟩)],426),(jug b++j85 b,436)]
theorem j6q{off rl fm:ByteArray}(hR:EraW off rl fm)(w:World)(wp:Option Addr)(hw:WAt w wp [off,rl,fm]):
  MatK (jug w.heap.size) [off,rl,fm] (fun _=>true) (fun k W=>(jak w (jg3 w.heap.size)).grownBy W (some (w.heap.size+1))/\Zc W (w.heap.size+1) (eraLs off rl fm k)) (some ⟨w.heap.size+12,0,none⟩) wp:=by
 have hm:8000<=maxLen:=by decide
 have hB:=jax (jg3 w.heap.size) w
 refine⟨fun k fv s h1 h2=>?_,fun k W hI=>?_,fun k W hI=>VAt.grown (VAt.below hw hB) hI.1 (fun b o h=>?_)⟩
 ·match k,h1,h2 with
  |0,h1,h2=>
   obtain rfl:=Option.some.inj h1
   obtain rfl:=Option.some.inj h2
   refine⟨_,_,rfl,fun _ _=>by kernel_rfl,fun W hI=>?_⟩
   refine(jct _ _ (w.heap.size+1) 0 _ _ W (hI.1.cell (jao (jg3 w.heap.size) w 4 rfl) (by simp)) hI.2 rfl (Nat.le_trans hR.m1 hm)).mono ?_
   intro q w2 hP
   rw[decide_eq_true hR.k1]at hP
   exact jbh hI.1 hP
  |1,h1,h2=>
   obtain rfl:=Option.some.inj h1
   obtain rfl:=Option.some.inj h2
   refine⟨_,_,rfl,fun _ _=>by kernel_rfl,fun W hI=>?_⟩
   refine(ji7 _ _ (w.heap.size+1) _ _ W (hI.1.cell (jao (jg3 w.heap.size) w 5 rfl) (by simp)) hI.2 rfl (Nat.le_trans hR.m2 hm) hR.k2).mono ?_
   intro q w2 hP
   exact jbh hI.1 hP
  |2,h1,h2=>
   obtain rfl:=Option.some.inj h1
   obtain rfl:=Option.some.inj h2
   refine⟨_,_,rfl,fun _ _=>by kernel_rfl,fun W hI=>?_⟩
   refine(jca _ _ (w.heap.size+1) 3 _ _ W (hI.1.cell (jao (jg3 w.heap.size) w 6 rfl) (by simp)) hI.2 rfl).mono ?_
   intro q w2 hP
   exact jbh hI.1 hP
  |n+3,h1,_=>simp[jug]at h1
 ·have h:=(jex (jg3 w.heap.size) w 12 (c:=jug w.heap.size++j85 w.heap.size) rfl).grown hI.1 (fun b o h=>by injection h with h;injection h with h;omega)
  rcases h with h|⟨b,o,ha,hc⟩
  ·simp[jug]at h
  ·exact .inr ⟨b,o,ha,fun i v hv=>hc i v (by rw[List.getElem?_append_left (List.getElem?_eq_some_iff.mp hv).1];exact hv)⟩
 ·subst h
  rcases hw with h|⟨b',o',h,hc⟩
  ·simp at h
  ·injection h with h
   injection h with h _
   subst h
   have:=qbl (hc 0 _ rfl)
   simp at this
   omega
theorem jog{off rl fm:ByteArray}(hR:EraW off rl fm)(w:World)(wp:Option Addr)(wc:Nat)(hw:WAt w wp [off,rl,fm]):
  Calls Tryz.prog 325 #[.slice wp 3 wc] w fun q w'=>q=.returned (.tuple #[(je0 off rl fm).v,.bool (eraP (je0 off rl fm))])/\Below w.heap.size w w':=by
 have hM:=jdf (jug w.heap.size) [off,rl,fm] (fun _=>true) _ _ _ 7 wc (j6q hR w wp hw) rfl (by show 3<=1000;omega) (jak w (jg3 w.heap.size)) ⟨World.grownBy.refl _ _,jch (jg3 w.heap.size) w 1 rfl⟩
 have hbA:=jax (jg3 w.heap.size) w
 have hsA:=jc9 (jg3 w.heap.size) w
 have hR0:=jch (jg3 w.heap.size) w 0 rfl
 have hok:(je0 off rl fm).ok:=by
  have hm:8000<=maxLen:=by decide
  exact⟨Nat.le_trans hR.m2 hm,Nat.le_trans hR.m3 hm,show(1:Nat)<=maxLen by omega⟩
 have hrr:=fun W=>jf4 (je0 off rl fm) W hok
 have k2:=fun p W=>jco p W
 have k3:=fun p W=>jd2 p W
 have k4:=fun p W=>jkj p W
 have k6:=fun p W=>je8 p W
 have k7:=fun p q W=>jf0 p q W
 have k8:=fun p W=>jc5 p W
 clear hw hR
 go_enter Tryz.func325,Tryz.ntmps325
 go_wp2_with (first|(go_at_call 326;refine(k2 _ _).mono ?_;rintro q w' ⟨rfl,rfl⟩)|(go_at_call 327;refine(k3 _ _).mono ?_;rintro q w' ⟨rfl,rfl⟩)|(go_at_call 339;refine(k4 _ _).mono ?_;rintro q w' ⟨rfl,rfl⟩)|(go_at_call 329;refine(k6 _ _).mono ?_;rintro q w' ⟨rfl,rfl⟩)|(go_at_call 330;refine(k7 _ _ _).mono ?_;rintro q w' ⟨rfl,rfl⟩)|(go_at_call 331;refine(k8 _ _).mono ?_;rintro q w' ⟨rfl,rfl⟩)|fail)
 refine Calls.mono (w:=jak w (jg3 w.heap.size)) hM ?_
 intro q w2 hP
 rcases hP.end_ with⟨rfl,_,hg,hV⟩|⟨_,k',_,hk',_⟩
 rotate_left
 ·cases hk'
 have hB2:=hbA.grown hg hbA.size (fun j hj=>by injection hj with hj;omega)
 have hV:Zc w2 (w.heap.size+1) (je0 off rl fm).cs:=hV
 have hV0:Zc w2 w.heap.size [.int .i64 0,.string ⟨#[]⟩,.int .i64 0,.string ⟨#[]⟩,.int .i64 0,.string ⟨#[]⟩]:=hR0.app hg (by simp)
 have hsz2:=hg.size
 rw[hsA]at hsz2
 have hl:(jg3 w.heap.size).length=13:=rfl
 rw[hl]at hsz2
 clear hl hsA
 obtain⟨R,hRR⟩:∃x,je0 off rl fm=x:=⟨_,rfl⟩
 have HRR:=hidQ hRR
 rw[hRR]at hV hrr
 clear hRR hok
 obtain⟨Ro,Rr,Rs,Rf,Ru,Rk⟩:=R
 have e0:w2.cell? ⟨w.heap.size+1,0,none⟩=some (.int .i64 Ro):=hV.c 0 rfl
 have e1:w2.cell? ⟨w.heap.size+1,1,none⟩=some (.string Rr):=hV.c 1 rfl
 have e2:w2.cell? ⟨w.heap.size+1,2,none⟩=some (.int .i64 Rs):=hV.c 2 rfl
 have e3:w2.cell? ⟨w.heap.size+1,3,none⟩=some (.string Rf):=hV.c 3 rfl
 have e4:w2.cell? ⟨w.heap.size+1,4,none⟩=some (.int .i64 Ru):=hV.c 4 rfl
 have e5:w2.cell? ⟨w.heap.size+1,5,none⟩=some (.string Rk):=hV.c 5 rfl
 have r0:w2.cell? ⟨w.heap.size,0,none⟩=some (.int .i64 0):=hV0.c 0 rfl
 have r1:w2.cell? ⟨w.heap.size,1,none⟩=some (.string ⟨#[]⟩):=hV0.c 1 rfl
 have r2:w2.cell? ⟨w.heap.size,2,none⟩=some (.int .i64 0):=hV0.c 2 rfl
 have r3:w2.cell? ⟨w.heap.size,3,none⟩=some (.string ⟨#[]⟩):=hV0.c 3 rfl
 have r4:w2.cell? ⟨w.heap.size,4,none⟩=some (.int .i64 0):=hV0.c 4 rfl
 have r5:w2.cell? ⟨w.heap.size,5,none⟩=some (.string ⟨#[]⟩):=hV0.c 5 rfl
 have HV0:=hidQ hV0
 have hl0:w.heap.size<w2.heap.size:=qbl r0
 have HB2:=hidQ hB2
 simp only[EraD.v]at hrr
 clear hM hP hg hV hV0 hB2 k2 k3 k4 k6 k7 k8 hbA hR0
 go_wp2_with fail
 go_region_held3 (fun w'=>w'.cell? ⟨w.heap.size+1,0,none⟩=some (.int .i64 Ro)/\w'.cell? ⟨w.heap.size+1,1,none⟩=some (.string Rr)/\w'.cell? ⟨w.heap.size+1,2,none⟩=some (.int .i64 Rs)/\w'.cell? ⟨w.heap.size+1,3,none⟩=some (.string Rf)/\w'.cell? ⟨w.heap.size+1,4,none⟩=some (.int .i64 Ru)/\w'.cell? ⟨w.heap.size+1,5,none⟩=some (.string Rk)) (go_keep) ((go_at_call 117;refine(hrr _).mono ?_;rintro q w5 ⟨rfl,hb5⟩;have s0:=jab hb5 e0;have s1:=jab hb5 e1;have s2:=jab hb5 e2;have s3:=jab hb5 e3;have s4:=jab hb5 e4;have s5:=jab hb5 e5;have q0:=jab hb5 r0;have q1:=jab hb5 r1;have q2:=jab hb5 r2;have q3:=jab hb5 r3;have q4:=jab hb5 r4;have q5:=jab hb5 r5;have HZ:=(HV0.out.below (jaa _)).below hb5;have z0:=HZ.f 0 (u:=.int .i64 0) rfl;have z1:=HZ.f 1 (u:=.string ⟨#[]⟩) rfl;have z2:=HZ.f 2 (u:=.int .i64 0) rfl;have z3:=HZ.f 3 (u:=.string ⟨#[]⟩) rfl;have z4:=HZ.f 4 (u:=.int .i64 0) rfl;have z5:=HZ.f 5 (u:=.string ⟨#[]⟩) rfl;clear HZ))
 all_goals
  have HZ:=(HV0.out.below (jaa _)).below hb5
  have HF:=(((((HZ.set (j:=0) (.int .i64 Ro)).set (j:=1) (.string Rr)).set (j:=2) (.int .i64 Rs)).set (j:=3) (.string Rf)).set (j:=4) (.int .i64 Ru)).set (j:=5) (.string Rk)
  have hb6:=HB2.out.trans (((jaa w2).trans hb5).mono HB2.out.size)
  have hb7:=hidQ ((((((hb6.setCell (p:=⟨w.heap.size,0,none⟩) (Nat.le_refl _) (.int .i64 Ro)).setCell (p:=⟨w.heap.size,1,none⟩) (Nat.le_refl _) (.string Rr)).setCell (p:=⟨w.heap.size,2,none⟩) (Nat.le_refl _) (.int .i64 Rs)).setCell (p:=⟨w.heap.size,3,none⟩) (Nat.le_refl _) (.string Rf)).setCell (p:=⟨w.heap.size,4,none⟩) (Nat.le_refl _) (.int .i64 Ru)).setCell (p:=⟨w.heap.size,5,none⟩) (Nat.le_refl _) (.string Rk))
  clear HZ hb6 hb5 s0 s1 s2 s3 s4 s5 q0 q1 q2 q3 q4 q5 z0 z1 z2 z3 z4 z5 e0 e1 e2 e3 e4 e5 r0 r1 r2 r3 r4 r5 HV0 HB2 hV hrr
  generalize (((((w5.setCell ⟨w.heap.size,0,none⟩ (.int .i64 Ro)).setCell ⟨w.heap.size,1,none⟩ (.string Rr)).setCell ⟨w.heap.size,2,none⟩ (.int .i64 Rs)).setCell ⟨w.heap.size,3,none⟩ (.string Rf)).setCell ⟨w.heap.size,4,none⟩ (.int .i64 Ru)).setCell ⟨w.heap.size,5,none⟩ (.string Rk)=W3 at *
  have u0:W3.cell? ⟨w.heap.size,0,none⟩=some (.int .i64 Ro):=HF.c 0 rfl
  have u1:W3.cell? ⟨w.heap.size,1,none⟩=some (.string Rr):=HF.c 1 rfl
  have u2:W3.cell? ⟨w.heap.size,2,none⟩=some (.int .i64 Rs):=HF.c 2 rfl
  have u3:W3.cell? ⟨w.heap.size,3,none⟩=some (.string Rf):=HF.c 3 rfl
  have u4:W3.cell? ⟨w.heap.size,4,none⟩=some (.int .i64 Ru):=HF.c 4 rfl
  have u5:W3.cell? ⟨w.heap.size,5,none⟩=some (.string Rk):=HF.c 5 rfl
  clear HF
  go_wp2
  exact bodyPost_ret (v:=.tuple #[.agg #[.int .i64 Ro,.string Rr,.int .i64 Rs,.string Rf,.int .i64 Ru,.string Rk],.bool (eraP ⟨Ro,Rr,Rs,Rf,Ru,Rk⟩)]) (by simp[results,Tryz.results325,go_sem,u0,u1,u2,u3,u4,u5]) rfl ⟨by rw[HRR.out];rfl,hb7.out⟩
end
section
open Go.RowKit
theorem jro{w:World}{base g n cap:Nat}{e:TypeId}{q:Nat}{xs:List Value}(h:w.ownsRow base e q (.slice (some ⟨g,0,none⟩) n cap) n xs):Zc w g xs:=fun i u hu=>by
 have hlt:i<n*q:=by rw[<- h.1];exact(List.getElem?_eq_some_iff.mp hu).1
 exact⟨(h.cellAt i hlt).trans hu,h.frozenAt i⟩
theorem j0x{w:World}{base g n cap:Nat}{e:TypeId}{q:Nat}{xs:List Value}(h:w.ownsRow base e q (.slice (some ⟨g,0,none⟩) n cap) n xs):∃cs,w.heap[g]? =some (.cells cs e (0,0)):=by
 rcases h.2 with⟨h1,_⟩|⟨g2,_,cur,h1,_,h2,_⟩
 ·cases h1
 ·injection h1 with h1;injection h1 with h1;injection h1 with h1;subst h1;exact⟨_,h2⟩
theorem jbj{w:World}{base n g:Nat}{e e2:TypeId}{q:Nat}{v:Value}{xs:List Value}(h:w.ownsRow base e q v n xs)(hg:∃cs,w.heap[g]? =some (.cells cs e2 (0,0)))(hne:e≠e2):some g≠v.ownBlock:=fun hx=>by
 rcases h.2 with⟨h1,_⟩|⟨g2,_,cur,h1,_,h2,_⟩
 ·rw[h1]at hx;cases hx
 ·rw[h1]at hx
  injection hx with hx
  have hx:g=g2:=hx
  subst hx
  obtain⟨cs,hc⟩:=hg
  rw[hc]at h2
  injection h2 with h2
  injection h2 with _ h2 _
  exact hne h2.symm
theorem jah{w:World}{b g j:Nat}{v:Value}{t:TypeId}(h:∃cs,w.heap[g]? =some (.cells cs t (0,0))):∃cs,(w.setCell ⟨b,j,none⟩ v).heap[g]? =some (.cells cs t (0,0)):=by
 obtain⟨cs,hc⟩:=h
 rw[Go.Sort.setCell_eq]
 by_cases e:b=g
 ·subst e
  simp[Go.Sort.mapBlock,Array.getElem?_modify,hc]
  exact⟨_,rfl⟩
 ·exact⟨cs,by simp[Go.Sort.mapBlock,Array.getElem?_modify,hc,e]⟩
structure Zx(w00 w0 w:World)(p:Nat)(t:ByteArray)(k:Nat)(n:Int)(rules:List RuleD)(zn:ByteArray)(es:List EraD)(ra:Option Addr)(rc zb zc:Nat)(ea:Option Addr)(ec:Nat):Prop where
 var:Zc w p (srcL t k n false (.slice ra rules.length rc) (.slice (some ⟨zb,0,none⟩) 1 zc) (.slice none 0 0))
 rul:w.ownsRow w0.heap.size 131 9 (.slice ra rules.length rc) rules.length (rules.map RuleD.cs).flatten
 zon:Zc w zb [.string zn,.slice ea es.length ec]
 zty:∃cs,w.heap[zb]? =some (.cells cs 136 (0,0))
 era:w.ownsRow w0.heap.size 148 6 (.slice ea es.length ec) es.length (es.map EraD.cs).flatten
 zlo:w0.heap.size<=zb
 grown:w0.grownBy w (some p)
 bel:Below w00.heap.size w00 w0
 lo:w00.heap.size<=p
 hi:p<w0.heap.size
def SrcZ(w00 w0 w:World)(p:Nat)(t:ByteArray)(k:Nat)(n:Int)(rules:List RuleD)(zn:ByteArray)(es:List EraD):Prop:=∃ra rc zb zc ea ec,Zx w00 w0 w p t k n rules zn es ra rc zb zc ea ec
theorem jqn{w0 w w':World}{row:Option Nat}(h:w0.grownBy w row)(hb:Below w.heap.size w w'):w0.grownBy w' row:=⟨hb.os.trans h.os,hb.tape.trans h.tape,hb.output.trans h.output,Nat.le_trans h.size hb.size,fun j hj hn=>(hb.block j (Nat.lt_of_lt_of_le hj h.size)).trans (h.block j hj hn)⟩
theorem Zx.below{w00 w0 w w':World}{p k:Nat}{t zn:ByteArray}{n:Int}{rules:List RuleD}{es:List EraD}{ra ea:Option Addr}{rc zb zc ec:Nat}(h:Zx w00 w0 w p t k n rules zn es ra rc zb zc ea ec)(hb:Below w.heap.size w w'):Zx w00 w0 w' p t k n rules zn es ra rc zb zc ea ec:=by
 refine⟨h.var.below hb,jad h.rul hb,h.zon.below hb,?_,jad h.era hb,h.zlo,jqn h.grown hb,h.bel,h.lo,h.hi⟩
 obtain⟨cs,hc⟩:=h.zty
 exact⟨cs,(hb.block _ (Array.getElem?_eq_some_iff.mp hc).1).trans hc⟩
theorem Zx.b{w00 w0 w:World}{p k:Nat}{t zn:ByteArray}{n:Int}{rules:List RuleD}{es:List EraD}{ra ea:Option Addr}{rc zb zc ec:Nat}(h:Zx w00 w0 w p t k n rules zn es ra rc zb zc ea ec):Below w00.heap.size w00 w:=h.bel.grown h.grown h.bel.size (fun j hj=>by injection hj with hj;have:=h.lo;omega)
theorem j5c{w:World}{base:Nat}{es:List EraD}{g cap:Nat}{r:EraD}(h:w.ownsRow base 148 6 (.slice (some ⟨g,0,none⟩) (es.length+1) cap) (es.length+1) ((es.map EraD.cs).flatten++r.cs)):w.ownsRow base 148 6 (.slice (some ⟨g,0,none⟩) (es++[r]).length cap) (es++[r]).length ((es++[r]).map EraD.cs).flatten:=by
 rw[List.length_append,List.map_append,List.flatten_append]
 simpa using h
theorem Zx.push{w00 w0 w wF:World}{p k:Nat}{t zn:ByteArray}{n:Int}{rules:List RuleD}{es:List EraD}{r:EraD}{ra ea:Option Addr}{rc zb zc ec g1 cap1:Nat}(h:Zx w00 w0 w p t k n rules zn es ra rc zb zc ea ec)(hg:w.grownBy wF (Value.slice ea es.length ec).ownBlock)(h1:wF.ownsRow w0.heap.size 148 6 (.slice (some ⟨g1,0,none⟩) (es.length+1) cap1) (es.length+1) ((es.map EraD.cs).flatten++r.cs)):Zx w00 w0 (wF.setCell ⟨zb,1,none⟩ (.slice (some ⟨g1,0,none⟩) (es.length+1) cap1)) p t k n rules zn (es++[r]) ra rc zb zc (some ⟨g1,0,none⟩) cap1:=by
 have hlo:∀g,(Value.slice ea es.length ec).ownBlock=some g->w0.heap.size<=g:=fun g hg=>(World.ownsRow.lt h.era g hg).1
 have hnp:some p≠(Value.slice ea es.length ec).ownBlock:=fun e=>by have:=hlo p e.symm;have:=h.hi;omega
 have hnz:=jbj h.era h.zty (by decide)
 have hV:=h.var.app hg hnp
 have hZ:=h.zon.app hg hnz
 have hzl:zb<w.heap.size:=by obtain⟨cs,hc⟩:=h.zty;exact(Array.getElem?_eq_some_iff.mp hc).1
 have hty:∃cs,wF.heap[zb]? =some (.cells cs 136 (0,0)):=by
  obtain⟨cs,hc⟩:=h.zty
  exact⟨cs,(hg.block _ hzl hnz).trans hc⟩
 have hpz:p≠zb:=by have:=h.zlo;have:=h.hi;omega
 have hR:wF.ownsRow w0.heap.size 131 9 (.slice ra rules.length rc) rules.length (rules.map RuleD.cs).flatten:=by
  refine World.ownsRow.kept h.rul hg ?_
  cases hv:(Value.slice ra rules.length rc).ownBlock with
  |none=>exact .inl rfl
  | some x=>
   refine .inr fun e=>?_
   refine jbj h.era (g:=x) ?_ (e2:=131) (by decide) e
   rcases h.rul.2 with⟨e2,_⟩|⟨g2,cap,cur,e2,_,hh,_⟩
   ·rw[e2]at hv;cases hv
   ·rw[e2]at hv
    injection hv with hv
    have hv:g2=x:=hv
    subst hv
    exact⟨_,hh⟩
 refine⟨hV.other hpz _,World.ownsRow.kept hR (jae wF zb 1 _) ?_,?_,jah hty,j5c (World.ownsRow.kept h1 (jae wF zb 1 _) (.inr (Ne.symm (jbj h1 hty (by decide))))),h.zlo,(h.grown.andThen hg (fun j hj=>.inl (hlo j hj))).andThen (jae wF zb 1 _) (fun j hj=>by injection hj with hj;have:=h.zlo;omega),h.bel,h.lo,h.hi⟩
 ·exact .inr (Ne.symm (jbj hR hty (by decide)))
 ·have:=hZ.set (j:=1) (.slice (some ⟨g1,0,none⟩) (es.length+1) cap1)
  simpa using this
theorem Zx.shut{w00 w0 w:World}{p k:Nat}{t zn:ByteArray}{n:Int}{rules:List RuleD}{es:List EraD}{ra ea:Option Addr}{rc zb zc ec:Nat}(h:Zx w00 w0 w p t k n rules zn es ra rc zb zc ea ec):Zx w00 w0 (w.setCell ⟨p,3,none⟩ (.bool false)) p t k n rules zn es ra rc zb zc ea ec:=by
 have hk:∀{e:TypeId} {q n:Nat} {v:Value} {xs:List Value},w.ownsRow w0.heap.size e q v n xs->(w.setCell ⟨p,3,none⟩ (.bool false)).ownsRow w0.heap.size e q v n xs:=fun {e q n v xs} ho=>World.ownsRow.kept ho (jae w p 3 _) (by
  cases hv:v.ownBlock with
  |none=>exact .inl rfl
  |some x=>exact .inr (by have:=(World.ownsRow.lt ho x hv).1;have:=h.hi;simp;omega))
 refine⟨?_,hk h.rul,h.zon.other (by have:=h.zlo;have:=h.hi;omega) _,jah h.zty,hk h.era,h.zlo,h.grown.trans (jae w p 3 _),h.bel,h.lo,h.hi⟩
 have:=h.var.set (j:=3) (.bool false)
 simpa [srcL]using this
theorem jn4{off rl fm:ByteArray}(hR:EraW off rl fm)(w00 w0 w:World)(p k wc:Nat)(wp:Option Addr)(t zn:ByteArray)(n:Int)(rules:List RuleD)(es:List EraD)(hS:SrcZ w00 w0 w p t k n rules zn es)(hw:WAt w wp [off,rl,fm])(hl:es.length<=100):
  Calls Tryz.prog 304 #[.pointer (some ⟨p,0,none⟩),.slice wp 3 wc] w fun q w'=>q=.returned (.bool (eraP (je0 off rl fm)))/\SrcZ w00 w0 w' p t k n rules zn (es++[je0 off rl fm]):=by
 obtain⟨ra,rc,zb,zc,ea,ec,hS⟩:=hS
 obtain⟨i0,hi,hz0,hz1,hz2⟩:=jp4
 have hE:=jog hR w wp wc hw
 obtain⟨R,hRR⟩:∃x,je0 off rl fm=x:=⟨_,rfl⟩
 rw[hRR]at hE ⊢
 clear hRR hR hw
 obtain⟨Ro,Rr,Rs,Rf,Ru,Rk⟩:=R
 generalize eraP ⟨Ro,Rr,Rs,Rf,Ru,Rk⟩=pb at *
 simp only[EraD.v]at hE
 have HS:=hidQ hS
 clear hS
 go_enter Tryz.func304,Tryz.ntmps304
 go_wp2_with fail
 refine hE.mono ?_
 rintro q w1 ⟨rfl,hb1⟩
 have b2:=qal w1 (.cells #[.int .i64 Ro,.string Rr,.int .i64 Rs,.string Rf,.int .i64 Ru,.string Rk] 148)
 have E2:=Zc.new w1 [.int .i64 Ro,.string Rr,.int .i64 Rs,.string Rf,.int .i64 Ru,.string Rk] 148
 have hS2:=(HS.out.below hb1).below b2
 have x5:=hS2.var.c 5 rfl
 have hEr:=hidQ (HS.out.below hb1).era
 have hpl:p<w1.heap.size:=qbl ((HS.out.below hb1).var.c 0 rfl)
 have hzl:zb<w1.heap.size:=qbl ((HS.out.below hb1).zon.c 0 rfl)
 clear hE hb1 HS
 have hlA:w1.heap.size<(w1.alloc (.cells #[.int .i64 Ro,.string Rr,.int .i64 Rs,.string Rf,.int .i64 Ru,.string Rk] 148)).heap.size:=by simp
 have hea:∀g,(Value.slice ea es.length ec).ownBlock=some g->g<w1.heap.size:=fun g hg=>(World.ownsRow.lt hEr.out g hg).2
 have hpz:p<w1.heap.size:=hpl
 have hzz:zb<w1.heap.size:=hzl
 go_wp2_with fail
 generalize w1.alloc (.cells #[.int .i64 Ro,.string Rr,.int .i64 Rs,.string Rf,.int .i64 Ru,.string Rk] 148)=wA at *
 go_region
 all_goals
  have E3:=E2.below (jaa wA)
  have hS3:=hS2.below (jaa wA)
  have hlD:w1.heap.size<wA.drew.heap.size:=hlA
  clear hS2 E2 x5 b2
  generalize wA.drew=w3 at *
  have y1:=hS3.zon.c 1 (u:=.slice ea es.length ec) rfl
  have f1:=hS3.zon.f 1 (u:=.slice ea es.length ec) rfl
  have e0:=E3.c 0 rfl
  have e1:=E3.c 1 rfl
  have e2:=E3.c 2 rfl
  have e3:=E3.c 3 rfl
  have e4:=E3.c 4 rfl
  have e5:=E3.c 5 rfl
  have hown:=hS3.era
  have hnz:=jbj hown hS3.zty (by decide)
  have hzl3:zb<w3.heap.size:=by omega
  have y1b:(w3.alloc (.cells #[.int .i64 Ro,.string Rr,.int .i64 Rs,.string Rf,.int .i64 Ru,.string Rk] 148)).cell? ⟨zb,1,none⟩=some (.slice ea es.length ec):=jab (qal w3 _) y1
  have hb0:w0.heap.size<=w3.heap.size:=hS3.grown.size
  have HS3:=hidQ hS3
  have HE3:=hidQ E3
  clear hS3 E3 hlA
  go_wp2_with fail
  go_region_law (refine step_append_lies _ (by rfl) (.tmp 30) (.tmp 32) 134 (by rfl) w0.heap.size 148 i0 (.agg #[.int .i64 0,.string ⟨#[]⟩,.int .i64 0,.string ⟨#[]⟩,.int .i64 0,.string ⟨#[]⟩]) 6 72 Tryz.underlying134 hi hz0 hz1 hz2 rfl (by omega) (.slice ea es.length ec) es.length (es.map EraD.cs).flatten (by rfl) (World.ownsRow.alloc (w:=w3.drew) hown _) ⟨w3.heap.size,0,none⟩ 1 1 [.int .i64 Ro,.string Rr,.int .i64 Rs,.string Rf,.int .i64 Ru,.string Rk] (by rfl) rfl (ja3 _ _ _) (by intro u hu;simp at hu;rcases hu with rfl|rfl|rfl|rfl|rfl|rfl<;>rfl) (by omega) (by unfold maxLen;omega) (by omega) (by simp;omega) _ rfl ?_;intro g1 cap1 wF hown1 hgrow hat hlt1;have r1:=hgrow.cell (a:=⟨zb,1,none⟩) (jab (qal w3.drew _) y1) hnz;have r2:=(hgrow.frozen_far ⟨zb,1,none⟩ (by simp;omega) hnz).trans (((jal (qal w3.drew _)).2 _ _ (by simp;omega)).trans f1))
  all_goals
   have b2:=(jaa w3).trans ((qal w3.drew (.cells #[.int .i64 Ro,.string Rr,.int .i64 Rs,.string Rf,.int .i64 Ru,.string Rk] 148)).mono (Nat.le_refl _))
   have hS5:=(HS3.out.below b2).push (r:=⟨Ro,Rr,Rs,Rf,Ru,Rk⟩) hgrow hown1
   clear b2 hown1 hgrow hat hlt1 r1 r2 y1 y1b f1 hown HS3 HE3 e0 e1 e2 e3 e4 e5 hi hz0 hz1 hz2 hnz
   generalize wF.setCell ⟨zb,1,none⟩ (.slice (some ⟨g1,0,none⟩) (es.length+1) cap1)=W5 at *
   have c3:=hS5.var.c 3 (u:=.bool false) rfl
   have f3:=hS5.var.f 3 (u:=.bool false) rfl
   have HS6:=hidQ hS5.shut
   clear hS5
   go_wp2
   go_ret
   exact⟨rfl,_,_,_,_,_,_,HS6.out⟩
end
end Go.Proofs.YtofdpfpdocpbpaaGreatDoor
