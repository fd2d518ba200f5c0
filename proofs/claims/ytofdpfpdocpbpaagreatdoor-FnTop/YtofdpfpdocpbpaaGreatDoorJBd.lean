/- Packed. -/
import Derived.Test.YtofdpfpdocpbpaaGreatDoorJAd
import Derived.Deep.Cut
import Derived.Lib.MinMax
set_option maxRecDepth 200000
set_option maxHeartbeats 20000000
set_option linter.unusedSimpArgs false
namespace Go.Proofs.YtofdpfpdocpbpaaGreatDoor
section
open Go.RowKit
structure AddD where
 t:ByteArray
 y:Int
 c:Int
def AddD.val(d:AddD):Value:=.agg #[.string d.t,.int .i64 d.y,.string ⟨#[]⟩,.int .i64 d.c]
def jgi(s:ByteArray)(y:Int)(l:ByteArray):AddD:=
 if 8000<l.size then⟨⟨#[]⟩,0,2⟩else if jB s y=false then⟨⟨#[]⟩,0,1⟩else if jas l=false then⟨⟨#[]⟩,0,1⟩else if 8000<s.size+l.size+1 then⟨⟨#[]⟩,0,7⟩else⟨s++l++⟨#[10]⟩,y,0⟩
def jj8(s:ByteArray)(y:Int):Int:=if jB s y=true then s.size else y
def jiz(s:ByteArray)(y keep:Int):Nat:=(if 0<keep then(if keep<s.size-y then y+keep else s.size)else y).toNat
def jgd(s:ByteArray)(y keep:Int):ByteArray:=if jB s y=true then s.extract 0 (lfs s (jiz s y keep)).2 else s
def jgc(s:ByteArray)(y keep:Int):Int:=if jB s y=true then(lfs s (jiz s y keep)).2 else y
theorem jtw{w w1:World}{s:ByteArray}{y:Int}(hb1:Below ((w.alloc (.cells #[.string s,.int .i64 y] 32)).alloc (.cells #[.string ⟨#[]⟩,.int .i64 0] 32)).heap.size ((w.alloc (.cells #[.string s,.int .i64 y] 32)).alloc (.cells #[.string ⟨#[]⟩,.int .i64 0] 32)) w1):
  (w1.cell? ⟨w.heap.size,0,none⟩=some (.string s)/\w1.cell? ⟨w.heap.size,1,none⟩=some (.int .i64 y))/\(∀i,w1.frozen? ⟨w.heap.size,i,none⟩=false)/\
  (w1.cell? ⟨w.heap.size+1,0,none⟩=some (.string ⟨#[]⟩)/\w1.cell? ⟨w.heap.size+1,1,none⟩=some (.int .i64 0))/\(∀i,w1.frozen? ⟨w.heap.size+1,i,none⟩=false)/\Below w.heap.size w w1:=by
 obtain⟨hc1,hf1⟩:=jal hb1
 have hB0:=(qal w (.cells #[.string s,.int .i64 y] 32)).alloc (by simp) (.cells #[.string ⟨#[]⟩,.int .i64 0] 32)
 exact⟨⟨(hc1 _ _ (by simp;omega)).trans (by simp[go_sem]),(hc1 _ _ (by simp;omega)).trans (by simp[go_sem])⟩,fun i=>(hf1 _ _ (by simp;omega)).trans (by simp[go_sem]),⟨(hc1 _ _ (by simp)).trans (by simp[go_sem]),(hc1 _ _ (by simp)).trans (by simp[go_sem])⟩,fun i=>(hf1 _ _ (by simp)).trans (by simp[go_sem]),hB0.trans (hb1.mono (by simp;omega))⟩
theorem jfo{w:World}{g:Nat}{a0 a1 v0 v1:Value}(h0:w.cell? ⟨g,0,none⟩=some a0)(h1:w.cell? ⟨g,1,none⟩=some a1):
  ((w.setCell ⟨g,0,none⟩ v0).setCell ⟨g,1,none⟩ v1).cell? ⟨g,0,none⟩=some v0/\((w.setCell ⟨g,0,none⟩ v0).setCell ⟨g,1,none⟩ v1).cell? ⟨g,1,none⟩=some v1:=by
 refine⟨?_,?_⟩
 ·rw[World.cell?_setCell_other _ _ _ _ (by simp),World.cell?_setCell_same _ _ _ h0]
 ·refine World.cell?_setCell_same _ _ _ (u:=a1) ?_
  rw[World.cell?_setCell_other _ _ _ _ (by simp)];exact h1
theorem jfp{w:World}{g:Nat}{a0 a1 a2 a3 v0 v1 v2 v3:Value}(h0:w.cell? ⟨g,0,none⟩=some a0)(h1:w.cell? ⟨g,1,none⟩=some a1)(h2:w.cell? ⟨g,2,none⟩=some a2)(h3:w.cell? ⟨g,3,none⟩=some a3):
  ((((w.setCell ⟨g,0,none⟩ v0).setCell ⟨g,1,none⟩ v1).setCell ⟨g,2,none⟩ v2).setCell ⟨g,3,none⟩ v3).cell? ⟨g,0,none⟩=some v0/\((((w.setCell ⟨g,0,none⟩ v0).setCell ⟨g,1,none⟩ v1).setCell ⟨g,2,none⟩ v2).setCell ⟨g,3,none⟩ v3).cell? ⟨g,1,none⟩=some v1/\
  ((((w.setCell ⟨g,0,none⟩ v0).setCell ⟨g,1,none⟩ v1).setCell ⟨g,2,none⟩ v2).setCell ⟨g,3,none⟩ v3).cell? ⟨g,2,none⟩=some v2/\((((w.setCell ⟨g,0,none⟩ v0).setCell ⟨g,1,none⟩ v1).setCell ⟨g,2,none⟩ v2).setCell ⟨g,3,none⟩ v3).cell? ⟨g,3,none⟩=some v3:=by
 obtain⟨t0,t1⟩:=jfo (v0:=v0) (v1:=v1) h0 h1
 have t2:((w.setCell ⟨g,0,none⟩ v0).setCell ⟨g,1,none⟩ v1).cell? ⟨g,2,none⟩=some a2:=by
  rw[World.cell?_setCell_other _ _ _ _ (by simp),World.cell?_setCell_other _ _ _ _ (by simp)];exact h2
 have t3:((w.setCell ⟨g,0,none⟩ v0).setCell ⟨g,1,none⟩ v1).cell? ⟨g,3,none⟩=some a3:=by
  rw[World.cell?_setCell_other _ _ _ _ (by simp),World.cell?_setCell_other _ _ _ _ (by simp)];exact h3
 generalize (w.setCell ⟨g,0,none⟩ v0).setCell ⟨g,1,none⟩ v1=u at *
 refine⟨?_,?_,?_,?_⟩
 ·rw[World.cell?_setCell_other _ _ _ _ (by simp),World.cell?_setCell_other _ _ _ _ (by simp)];exact t0
 ·rw[World.cell?_setCell_other _ _ _ _ (by simp),World.cell?_setCell_other _ _ _ _ (by simp)];exact t1
 ·rw[World.cell?_setCell_other _ _ _ _ (by simp),World.cell?_setCell_same _ _ _ t2]
 ·refine World.cell?_setCell_same _ _ _ (u:=a3) ?_
  rw[World.cell?_setCell_other _ _ _ _ (by simp)];exact t3
theorem jsv{n:Nat}{w w1:World}{g:Nat}{v0 v1 v2 v3:Value}(h:Below n w w1)(hg:n<=g):Below n w ((((w1.setCell ⟨g,0,none⟩ v0).setCell ⟨g,1,none⟩ v1).setCell ⟨g,2,none⟩ v2).setCell ⟨g,3,none⟩ v3):=
 (((h.setCell hg _).setCell hg _).setCell hg _).setCell hg _
theorem j53{w w1:World}{s:ByteArray}{y:Int}(hb1:Below ((w.alloc (.cells #[.string s,.int .i64 y] 32)).alloc (.cells #[.string ⟨#[]⟩,.int .i64 0,.string ⟨#[]⟩,.int .i64 0] 71)).heap.size ((w.alloc (.cells #[.string s,.int .i64 y] 32)).alloc (.cells #[.string ⟨#[]⟩,.int .i64 0,.string ⟨#[]⟩,.int .i64 0] 71)) w1):
  (w1.cell? ⟨w.heap.size,0,none⟩=some (.string s)/\w1.cell? ⟨w.heap.size,1,none⟩=some (.int .i64 y))/\(∀i,w1.frozen? ⟨w.heap.size,i,none⟩=false)/\
  (w1.cell? ⟨w.heap.size+1,0,none⟩=some (.string ⟨#[]⟩)/\w1.cell? ⟨w.heap.size+1,1,none⟩=some (.int .i64 0)/\w1.cell? ⟨w.heap.size+1,2,none⟩=some (.string ⟨#[]⟩)/\w1.cell? ⟨w.heap.size+1,3,none⟩=some (.int .i64 0))/\(∀i,w1.frozen? ⟨w.heap.size+1,i,none⟩=false)/\Below w.heap.size w w1:=by
 obtain⟨hc1,hf1⟩:=jal hb1
 have hB0:=(qal w (.cells #[.string s,.int .i64 y] 32)).alloc (by simp) (.cells #[.string ⟨#[]⟩,.int .i64 0,.string ⟨#[]⟩,.int .i64 0] 71)
 exact⟨⟨(hc1 _ _ (by simp;omega)).trans (by simp[go_sem]),(hc1 _ _ (by simp;omega)).trans (by simp[go_sem])⟩,fun i=>(hf1 _ _ (by simp;omega)).trans (by simp[go_sem]),⟨(hc1 _ _ (by simp)).trans (by simp[go_sem]),(hc1 _ _ (by simp)).trans (by simp[go_sem]),(hc1 _ _ (by simp)).trans (by simp[go_sem]),(hc1 _ _ (by simp)).trans (by simp[go_sem])⟩,fun i=>(hf1 _ _ (by simp)).trans (by simp[go_sem]),hB0.trans (hb1.mono (by simp;omega))⟩
theorem jzm{s l:ByteArray}{y:Int}(h:8000<l.size):jgi s y l=⟨⟨#[]⟩,0,2⟩:=by unfold jgi;rw[if_pos h]
theorem j9h{s l:ByteArray}{y:Int}(h:¬8000<l.size)(hj:jB s y=false):jgi s y l=⟨⟨#[]⟩,0,1⟩:=by unfold jgi;rw[if_neg h,if_pos hj]
theorem j9g{s l:ByteArray}{y:Int}(h:¬8000<l.size)(hj:jB s y=true)(hl:jas l=false):jgi s y l=⟨⟨#[]⟩,0,1⟩:=by unfold jgi;rw[if_neg h,if_neg (by rw[hj];decide),if_pos hl]
theorem jzo{s l:ByteArray}{y:Int}(h:¬8000<l.size)(hj:jB s y=true)(hl:jas l=true)(hf:8000<s.size+l.size+1):jgi s y l=⟨⟨#[]⟩,0,7⟩:=by unfold jgi;rw[if_neg h,if_neg (by rw[hj];decide),if_neg (by rw[hl];decide),if_pos hf]
theorem jzn{s l:ByteArray}{y:Int}(h:¬8000<l.size)(hj:jB s y=true)(hl:jas l=true)(hf:¬8000<s.size+l.size+1):jgi s y l=⟨s++l++⟨#[10]⟩,y,0⟩:=by unfold jgi;rw[if_neg h,if_neg (by rw[hj];decide),if_neg (by rw[hl];decide),if_neg hf]
end
section
open Go.RowKit
theorem j1j{s:ByteArray}{y keep:Int}(h:jB s y=true):jiz s y keep<=s.size:=by
 have:=j54 h
 unfold jiz;split
 ·split<;>omega
 ·omega
end
section
open Go.RowKit
theorem j8t{s:ByteArray}{y:Int}(hi:inJ s y=true)(h:(lfs s s.size).2=s.size):jB s y=(lfs s s.size).1.all jas:=by
 unfold jB;rw[hi,decide_eq_true h];rfl
theorem j1k{s:ByteArray}{y:Int}(h:(lfs s s.size).2≠s.size):jB s y=false:=by
 unfold jB;rw[decide_eq_false h];simp
theorem jcf(s:ByteArray)(y:Int)(w:World)(hM:MxJ w):
  Calls Tryz.prog 45 #[.agg #[.string s,.int .i64 y]] w fun e w'=>e=.returned (.bool (jB s y))/\Below w.heap.size w w':=by
 have hB0:=qal w (.cells #[.string s,.int .i64 y] 32)
 by_cases h8:s.size<=8000
 ·by_cases hi:inJ s y=true
  ·have hin:=of_decide_eq_true hi
   have hSu:=fun w=>Tryz.strings_HasSuffix s ⟨#[10]⟩ w (by omega)
   by_cases he:(lfs s s.size).2=s.size
   ·have hJ:=j8t hi he
    have hLi:=fun w (h:MxJ w)=>jt2 s w h h8
    have hb:=(je2 s s.size).1
    have hA:=fun cap w g h=>jme g (lfs s s.size).1.length cap (fun k=>(lfs s s.size).1.getD k ⟨#[]⟩) w (by omega) h (fun k hk=>by
      show((lfs s s.size).1.getD k ⟨#[]⟩).size<=8000
      rw[List.getD_eq_getElem?_getD,List.getElem?_eq_getElem hk]
      refine Nat.le_trans (j8q s _ ?_) h8
      unfold lns;simp) (jB s y) (fun k hk h=>by rw[hJ];exact j68 hk h) (fun h=>by rw[hJ];exact j3f h)
    clear hJ
    generalize jB s y=J at *
    have hLi':∀w,MxJ w->Calls Tryz.prog 21 #[.string s] w fun e w'=>∃g n cap,e=.returned (.slice (some ⟨g,0,none⟩) n cap)/\(∀w,w=w'->Calls Tryz.prog 67 #[.slice (some ⟨g,0,none⟩) n cap,.func (.func 19) #[] #[]] w fun e w'=>e=.returned (.bool J)/\w'=w)/\Below w.heap.size w w':=fun w h=>
     (hLi w h).mono fun e w' ⟨cap,h1,h2,h3⟩=>⟨_,_,cap,h1,fun w2 e2=>by subst e2;exact hA cap _ _ h2,h3⟩
    clear hLi hA hb
    by_cases h0:s.size=0
    ·have hx:s.toList.isEmpty=true:=by rw[jib];exact decide_eq_true h0
     clear he hi hSu
     go_enter Tryz.func45,Tryz.ntmps45
     go_wp2_with (first
      |(go_at_call 21;refine(hLi' _ (hM.of_below hB0)).mono ?_;rintro e w1 ⟨g,n,cap,rfl,hA,hb1⟩)
      |(go_at_call 67;refine(hA _ rfl).mono ?_;rintro e w2 ⟨rfl,rfl⟩))
     go_ret
     exact⟨rfl,(qtr hB0 hb1)⟩
    ·have hx:s.toList.isEmpty=false:=by rw[jib];exact decide_eq_false h0
     have hSu':∀w,_:=fun w=>by have:=hSu w;rw[show(⟨#[10]⟩:ByteArray).data.toList=[10]from rfl,jk2 s (by omega),decide_eq_true he]at this;exact this
     clear he hi hSu
     go_enter Tryz.func45,Tryz.ntmps45
     go_wp2_with (first
      |(go_at_call 66;refine(hSu' _).mono ?_;rintro e w2 ⟨rfl,rfl⟩)
      |(go_at_call 21;refine(hLi' _ (hM.of_below hB0)).mono ?_;rintro e w1 ⟨g,n,cap,rfl,hA,hb1⟩)
      |(go_at_call 67;refine(hA _ rfl).mono ?_;rintro e w2 ⟨rfl,rfl⟩))
     go_ret
     exact⟨rfl,(qtr hB0 hb1)⟩
   ·rw[j1k he]
    have h0:¬s.size=0:=fun h=>he (by have:=(je2 s s.size).2;omega)
    have hx:s.toList.isEmpty=false:=by rw[jib];exact decide_eq_false h0
    have hSu':∀w,_:=fun w=>by have:=hSu w;rw[show(⟨#[10]⟩:ByteArray).data.toList=[10]from rfl,jk2 s (by omega),decide_eq_false he]at this;exact this
    clear he hi hSu
    go_enter Tryz.func45,Tryz.ntmps45
    go_wp2_with (go_at_call 66;refine(hSu' _).mono ?_;rintro e w2 ⟨rfl,hw⟩;subst hw)
    go_ret
    exact⟨rfl,hB0⟩
  ·have hi':inJ s y=false:=by simpa using hi
   rw[j34 hi']
   by_cases hy:y<0
   ·clear hi hi'
    go_enter Tryz.func45,Tryz.ntmps45
    go_wp2
    go_ret
    exact⟨rfl,hB0⟩
   ·have hy2:(s.size:Int)<y:=by have:=of_decide_eq_false hi';omega
    clear hi hi'
    go_enter Tryz.func45,Tryz.ntmps45
    go_wp2
    go_ret
    exact⟨rfl,hB0⟩
 ·rw[j34 (decide_eq_false (fun h=>h8 h.1))]
  go_enter Tryz.func45,Tryz.ntmps45
  go_wp2
  go_ret
  exact⟨rfl,hB0⟩
end
section
open Go.RowKit
theorem ji4(s:ByteArray)(w:World):
  Calls Tryz.prog 46 #[.string s] w fun e w'=>e=.returned (.agg #[.string s,.int .i64 s.size])/\Below w.heap.size w w':=by
 have hB0:=fun o=>qal w o
 go_enter Tryz.func46,Tryz.ntmps46
 go_wp2
 exact bodyPost_ret (v:=.agg #[.string s,.int .i64 s.size]) (by simp[results,Tryz.results46,go_sem]) rfl ⟨rfl,hB0 _⟩
theorem jh4(s:ByteArray)(y:Int)(w:World)(hM:MxJ w):
  Calls Tryz.prog 27 #[.agg #[.string s,.int .i64 y]] w fun e w'=>e=.returned (.agg #[.string s,.int .i64 (jj8 s y)])/\Below w.heap.size w w':=by
 have hJ:=fun w h=>jcf s y w h
 have hg1:w.heap.size<=w.heap.size+1:=by omega
 have hM0:MxJ ((w.alloc (.cells #[.string s,.int .i64 y] 32)).alloc (.cells #[.string ⟨#[]⟩,.int .i64 0] 32)):=hM.of_below ((qal w _).alloc (by simp) _)
 cases hj:jB s y with
 |false=>
  have e:jj8 s y=y:=by unfold jj8;rw[hj];rfl
  rw[e]
  rw[hj]at hJ
  clear hj e
  go_enter Tryz.func27,Tryz.ntmps27
  go_wp2_with fail
  refine(hJ _ hM0).mono ?_
  rintro e w1 ⟨rfl,hb1⟩
  obtain⟨⟨c0,c1⟩,_,⟨r0,r1⟩,f,hB1⟩:=jtw hb1
  have f0:=f 0
  have f1:=f 1
  clear f hb1
  obtain⟨s0,s1⟩:=jfo (v0:=.string s) (v1:=.int .i64 y) r0 r1
  go_wp2
  exact bodyPost_ret (v:=.agg #[.string s,.int .i64 y]) (by simp[results,Tryz.results27,go_sem,s0,s1]) rfl ⟨rfl,(hB1.setCell hg1 _).setCell hg1 _⟩
 |true=>
  have e:jj8 s y=s.size:=by unfold jj8;rw[hj];rfl
  rw[e]
  rw[hj]at hJ
  clear hj e
  have hS:=fun w=>ji4 s w
  go_enter Tryz.func27,Tryz.ntmps27
  go_wp2_with fail
  refine(hJ _ hM0).mono ?_
  rintro e w1 ⟨rfl,hb1⟩
  obtain⟨⟨c0,c1⟩,fj,_,_,_⟩:=jtw hb1
  go_wp2_with fail
  refine(hS _).mono ?_
  rintro e w2 ⟨rfl,hb2⟩
  obtain⟨_,_,⟨r0,r1⟩,f,hB1⟩:=jtw (qtr hb1 hb2)
  have f0:=f 0
  have f1:=f 1
  clear f hb1 fj hb2 c0 c1
  obtain⟨s0,s1⟩:=jfo (v0:=.string s) (v1:=.int .i64 s.size) r0 r1
  go_wp2
  exact bodyPost_ret (v:=.agg #[.string s,.int .i64 s.size]) (by simp[results,Tryz.results27,go_sem,s0,s1]) rfl ⟨rfl,(hB1.setCell hg1 _).setCell hg1 _⟩
theorem jjq(s:ByteArray)(y:Int)(l:ByteArray)(w:World)(hM:MxJ w)(hl8:l.size<=1048576):
  Calls Tryz.prog 32 #[.agg #[.string s,.int .i64 y],.string l] w fun e w'=>e=.returned (jgi s y l).val/\Below w.heap.size w w':=by
 have hJ:=fun w h=>jcf s y w h
 have hB0:=fun o o2=>(qal w o).alloc (by simp) o2
 have hM0:MxJ ((w.alloc (.cells #[.string s,.int .i64 y] 32)).alloc (.cells #[.string ⟨#[]⟩,.int .i64 0,.string ⟨#[]⟩,.int .i64 0] 71)):=hM.of_below (hB0 _ _)
 have hg1:w.heap.size<=w.heap.size+1:=by omega
 by_cases h8:8000<l.size
 ·rw[jzm h8]
  clear hM0 hJ hM
  go_enter Tryz.func32,Tryz.ntmps32
  go_wp2
  exact bodyPost_ret (v:=AddD.val ⟨⟨#[]⟩,0,2⟩) (by simp[results,Tryz.results32,go_sem,AddD.val]) rfl ⟨rfl,hB0 _ _⟩
 ·have hL:=fun w=>jdj l w (by omega)
  cases hj:jB s y with
  |false=>
   rw[j9h h8 hj]
   rw[hj]at hJ
   clear hj hB0
   go_enter Tryz.func32,Tryz.ntmps32
   go_wp2_with fail
   refine(hJ _ hM0).mono ?_
   rintro e w1 ⟨rfl,hb1⟩
   obtain⟨⟨c0,c1⟩,_,⟨r0,r1,r2,r3⟩,f,hB1⟩:=j53 hb1
   have f0:=f 0
   have f1:=f 1
   have f2:=f 2
   have f3:=f 3
   obtain⟨s0,s1,s2,s3⟩:=jfp (v0:=.string ⟨#[]⟩) (v1:=.int .i64 0) (v2:=.string ⟨#[]⟩) (v3:=.int .i64 1) r0 r1 r2 r3
   clear f hb1 hM0 hM
   go_wp2
   exact bodyPost_ret (v:=AddD.val ⟨⟨#[]⟩,0,1⟩) (by simp[results,Tryz.results32,go_sem,AddD.val,s0,s1,s2,s3]) rfl ⟨rfl,jsv hB1 hg1⟩
  |true=>
   have hs8:=(j54 hj).1
   cases hl:jas l with
   |false=>
    rw[j9g h8 hj hl]
    rw[hj]at hJ
    rw[hl]at hL
    clear hj hB0 hl
    go_enter Tryz.func32,Tryz.ntmps32
    go_wp2_with fail
    refine(hJ _ hM0).mono ?_
    rintro e w1 ⟨rfl,hb1⟩
    obtain⟨⟨c0,c1⟩,_,⟨r0,r1,r2,r3⟩,f,hB1⟩:=j53 hb1
    have f0:=f 0
    have f1:=f 1
    have f2:=f 2
    have f3:=f 3
    obtain⟨s0,s1,s2,s3⟩:=jfp (v0:=.string ⟨#[]⟩) (v1:=.int .i64 0) (v2:=.string ⟨#[]⟩) (v3:=.int .i64 1) r0 r1 r2 r3
    clear f hb1 hM0 hM hJ
    go_wp2_with (go_at_call 19;refine(hL _).mono ?_;rintro e w' ⟨rfl,rfl⟩)
    exact bodyPost_ret (v:=AddD.val ⟨⟨#[]⟩,0,1⟩) (by simp[results,Tryz.results32,go_sem,AddD.val,s0,s1,s2,s3]) rfl ⟨rfl,jsv hB1 hg1⟩
   | true=>
    have hT:Hid (jgi s y l=if 8000<s.size+l.size+1 then⟨⟨#[]⟩,0,7⟩else⟨s++l++⟨#[10]⟩,y,0⟩):=by
     by_cases hf:8000<s.size+l.size+1
     ·rw[if_pos hf];exact jzo h8 hj hl hf
     ·rw[if_neg hf];exact jzn h8 hj hl hf
    have szn:(⟨#[10]⟩:ByteArray).size=1:=rfl
    have sz2:(s++l).size=s.size+l.size:=ByteArray.size_append
    have sz3:(s++l++⟨#[10]⟩).size=s.size+l.size+1:=by rw[ByteArray.size_append,ByteArray.size_append,szn]
    rw[hj]at hJ
    rw[hl]at hL
    clear hj hB0 hl
    go_enter Tryz.func32,Tryz.ntmps32
    go_wp2_with fail
    refine(hJ _ hM0).mono ?_
    rintro e w1 ⟨rfl,hb1⟩
    obtain⟨⟨c0,c1⟩,fj,⟨r0,r1,r2,r3⟩,f,hB1⟩:=j53 hb1
    have f0:=f 0
    have f1:=f 1
    have f2:=f 2
    have f3:=f 3
    clear f fj hb1 hM0 hM hJ
    go_wp2_with fail
    refine(hL _).mono ?_
    rintro e w' ⟨rfl,hw⟩
    subst hw
    clear hL
    go_upto_region 6 with fail
    generalize s++l++⟨#[10]⟩=T at *
    by_cases hf:8000<s.size+l.size+1
    ·rw[if_pos hf]at hT
     obtain⟨s0,s1,s2,s3⟩:=jfp (v0:=.string ⟨#[]⟩) (v1:=.int .i64 0) (v2:=.string ⟨#[]⟩) (v3:=.int .i64 7) r0 r1 r2 r3
     go_wp2
     exact bodyPost_ret (v:=AddD.val ⟨⟨#[]⟩,0,7⟩) (by simp[results,Tryz.results32,go_sem,AddD.val,s0,s1,s2,s3]) rfl ⟨by rw[hT.out],jsv hB1 hg1⟩
    ·rw[if_neg hf]at hT
     obtain⟨s0,s1,s2,s3⟩:=jfp (v0:=.string T) (v1:=.int .i64 y) (v2:=.string ⟨#[]⟩) (v3:=.int .i64 0) r0 r1 r2 r3
     go_wp2
     exact bodyPost_ret (v:=AddD.val ⟨T,y,0⟩) (by simp[results,Tryz.results32,go_sem,AddD.val,s0,s1,s2,s3]) rfl ⟨by rw[hT.out],jsv hB1 hg1⟩
end
section
open Go.RowKit
theorem j2g{s:ByteArray}{N m:Nat}(h:m<=N):(s.extract 0 N).extract 0 m=s.extract 0 m:=by
 apply jcp
 rw[Lib.extract_from_zero,Lib.extract_from_zero,Lib.extract_from_zero,List.take_take,Nat.min_eq_left h]
theorem jg1(s:ByteArray)(y keep:Int)(w:World)(hM:MxJ w):
  Calls Tryz.prog 30 #[.agg #[.string s,.int .i64 y],.int .i64 keep] w fun e w'=>e=.returned (.agg #[.string (jgd s y keep),.int .i64 (jgc s y keep)])/\Below w.heap.size w w':=by
 have hJ:=fun w h=>jcf s y w h
 have hg1:w.heap.size<=w.heap.size+1:=by omega
 have hM0:MxJ ((w.alloc (.cells #[.string s,.int .i64 y] 32)).alloc (.cells #[.string ⟨#[]⟩,.int .i64 0] 32)):=hM.of_below ((qal w _).alloc (by simp) _)
 cases hj:jB s y with
 |false=>
  have e1:jgd s y keep=s:=by unfold jgd;rw[hj];rfl
  have e2:jgc s y keep=y:=by unfold jgc;rw[hj];rfl
  rw[e1,e2]
  rw[hj]at hJ
  clear hj e1 e2
  go_enter Tryz.func30,Tryz.ntmps30
  go_wp2_with fail
  refine(hJ _ hM0).mono ?_
  rintro e w1 ⟨rfl,hb1⟩
  obtain⟨⟨c0,c1⟩,_,⟨r0,r1⟩,f,hB1⟩:=jtw hb1
  have f0:=f 0
  have f1:=f 1
  clear f hb1
  obtain⟨s0,s1⟩:=jfo (v0:=.string s) (v1:=.int .i64 y) r0 r1
  go_wp2
  exact bodyPost_ret (v:=.agg #[.string s,.int .i64 y]) (by simp[results,Tryz.results30,go_sem,s0,s1]) rfl ⟨rfl,(hB1.setCell hg1 _).setCell hg1 _⟩
 | true=>
  have e1:jgd s y keep=s.extract 0 (lfs s (jiz s y keep)).2:=by unfold jgd;rw[hj];rfl
  have e2:jgc s y keep=(lfs s (jiz s y keep)).2:=by unfold jgc;rw[hj];rfl
  rw[e1,e2]
  have hin:=j54 hj
  have hN:=j1j (keep:=keep) hj
  rw[hj]at hJ
  have hmm:min (max keep 0) ((s.size:Int)-y)=(jiz s y keep:Int)-y:=by
   unfold jiz
   rw[Int.min_def,Int.max_def]
   split<;>split<;>split<;>(try split)<;>omega
  clear hj e1 e2
  generalize jiz s y keep=N at *
  have hyn:y+((N:Int)-y)=N:=by omega
  have hm:=(je2 s N).2
  have hLI:=fun w=>Tryz.strings_LastIndex_one (s.extract 0 N) ⟨#[10]⟩ rfl (by rw[ByteArray.size_extract];omega) w
  have hli:Lib.lastIndexByte (s.extract 0 N) (((⟨#[10]⟩:ByteArray)[0]'(by decide)).toNat:Int)=((lfs s N).2:Int)-1:=by
   have:=j5z s N hN
   have e:(((⟨#[10]⟩:ByteArray)[0]'(by decide)).toNat:Int)=10:=rfl
   rw[e];omega
  rw[hli]at hLI
  have hS:=fun w=>ji4 ((s.extract 0 N).extract 0 (lfs s N).2) w
  have hK:(s.extract 0 N).size=N:=by rw[ByteArray.size_extract];omega
  have HE:Hid ((s.extract 0 N).extract 0 (lfs s N).2=s.extract 0 (lfs s N).2):=j2g hm
  have HZ:Hid (((s.extract 0 N).extract 0 (lfs s N).2).size=(lfs s N).2):=by show _=_;rw[ByteArray.size_extract];omega
  rw[HZ.out]at hS
  clear hli HZ
  generalize (lfs s N).2=m at *
  go_enter Tryz.func30,Tryz.ntmps30
  go_wp2_with fail
  refine(hJ _ hM0).mono ?_
  rintro e w1 ⟨rfl,hb1⟩
  obtain⟨⟨c0,c1⟩,_,_,_,_⟩:=jtw hb1
  clear hJ hM0 hM
  go_upto_region 5 with fail
  generalize s.extract 0 N=K at *
  go_wp2_with fail
  refine(hLI _).mono ?_
  rintro e w' ⟨rfl,hw⟩
  subst hw
  go_wp2_with fail
  refine(hS _).mono ?_
  rintro e w2 ⟨rfl,hb2⟩
  obtain⟨_,_,⟨r0,r1⟩,f,hB1⟩:=jtw (qtr hb1 hb2)
  have f0:=f 0
  have f1:=f 1
  clear f hb1 hb2 c0 c1
  generalize K.extract 0 m=X at *
  obtain⟨s0,s1⟩:=jfo (v0:=.string X) (v1:=.int .i64 m) r0 r1
  go_wp2
  exact bodyPost_ret (v:=.agg #[.string X,.int .i64 m]) (by simp[results,Tryz.results30,go_sem,s0,s1]) rfl ⟨by rw[HE.out],(hB1.setCell hg1 _).setCell hg1 _⟩
end
end Go.Proofs.YtofdpfpdocpbpaaGreatDoor
