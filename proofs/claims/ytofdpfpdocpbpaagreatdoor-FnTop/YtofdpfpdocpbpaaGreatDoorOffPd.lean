/- Packed. -/
import Derived.Test.YtofdpfpdocpbpaaGreatDoorBasePd
import Derived.OwnWalk
import Derived.Test.YtofdpfpdocpbpaaGreatDoorShelfK
import Derived.Laws.EntriesVeiled
import Derived.LoopN
import Derived.Laws.OwnMore
import Derived.Deep.AppendLies
set_option maxHeartbeats 20000000
set_option linter.unusedSimpArgs false
namespace Go.Proofs.YtofdpfpdocpbpaaGreatDoor
section
open Go.RowKit
def scan(s:ByteArray):Nat->List ByteArray × Nat
 |0=>([],0)
 |k+1=>if jac s k=58 then((scan s k).1++[s.extract (scan s k).2 k],k+1)else scan s k
def parts(s:ByteArray):List ByteArray:=(scan s s.size).1++[s.extract (scan s s.size).2 s.size]
end
section
open Go.RowKit
def sixH(s:ByteArray):Bool:=decide (s.size=3/\jac s 0=58)
def sixN(s:ByteArray):Int:=if sixH s=true then drN (s.extract 1 s.size)else 0
def sixB(s:ByteArray):Bool:=sixH s&&(digs (s.extract 1 s.size)&&decide (drN (s.extract 1 s.size)<60))
theorem jo1(s:ByteArray)(h:s.size<=9):0<=drN s/\drN s<=999999999:=by
 unfold drN;split
 ·rename_i hd
  exact jni h (j88 hd).2
 ·omega
theorem jef(s:ByteArray):0<=sixN s/\sixN s<=999999999:=by
 unfold sixN;split
 ·rename_i h
  have:=of_decide_eq_true h
  exact jo1 _ (by rw[ByteArray.size_extract];omega)
 ·omega
theorem jcl(s:ByteArray)(w:World)(_hs:s.size<=100):
  Calls Tryz.prog 260 #[.string s] w fun e w'=>e=.returned (.tuple #[.int .i64 (sixN s),.bool (sixB s)])/\w'=w:=by
 by_cases h3:s.size=3
 ·by_cases hc:jac s 0=58
  ·have hh:sixH s=true:=decide_eq_true ⟨h3,hc⟩
   have e1:sixN s=drN (s.extract 1 s.size):=by unfold sixN;rw[if_pos hh]
   have e2:sixB s=(digs (s.extract 1 s.size)&&decide (drN (s.extract 1 s.size)<60)):=by unfold sixB;rw[hh];rfl
   rw[e1,e2,h3]
   have hD:=fun w=>jap (s.extract 1 3) w (by rw[ByteArray.size_extract];omega)
   rw[<- jaf s 0 (by omega)]at hc
   have hc':((s[0].toNat:Int) != 58)=false:=by simp[hc]
   have h3':((s.size:Int) != 3)=false:=by simp;omega
   clear e1 e2 hh hc
   generalize drN (s.extract 1 3)=n at *
   cases hb:digs (s.extract 1 3)
   all_goals
    rw[hb]at hD
    clear hb
    go_enter Tryz.func260,Tryz.ntmps260
    go_wp2_with (go_at_call 29;refine(hD _).mono ?_;rintro e w' ⟨rfl,rfl⟩)
    go_ret2
    exact⟨by simp,rfl⟩
  ·have hh:sixH s=false:=decide_eq_false (by omega)
   have e1:sixN s=0:=by unfold sixN;rw[hh];rfl
   have e2:sixB s=false:=by unfold sixB;rw[hh];rfl
   rw[e1,e2]
   rw[<- jaf s 0 (by omega)]at hc
   have hc':((s[0].toNat:Int) != 58)=true:=by simpa using hc
   have h3':((s.size:Int) != 3)=false:=by simp;omega
   clear e1 e2 hh hc
   go_enter Tryz.func260,Tryz.ntmps260
   go_wp2
   go_ret2
   exact⟨rfl,rfl⟩
 ·have hh:sixH s=false:=decide_eq_false (by omega)
  have e1:sixN s=0:=by unfold sixN;rw[hh];rfl
  have e2:sixB s=false:=by unfold sixB;rw[hh];rfl
  rw[e1,e2]
  have h3':((s.size:Int) != 3)=true:=by simp;omega
  clear e1 e2 hh h3
  go_enter Tryz.func260,Tryz.ntmps260
  go_wp2
  go_ret2
  exact⟨rfl,rfl⟩
def hrN(s:ByteArray):Int:=if s.size<=3 then drN s*3600 else 0
def hrB(s:ByteArray):Bool:=if s.size<=3 then digs s else false
theorem jx7(s:ByteArray):0<=hrN s/\hrN s<=999999999*3600:=by
 unfold hrN;split
 ·have:=jo1 s (by omega);omega
 ·omega
theorem jlf(s:ByteArray)(w:World)(hs:s.size<=maxLen):
  Calls Tryz.prog 355 #[.string s] w fun e w'=>e=.returned (.tuple #[.int .i64 (hrN s),.bool (hrB s)])/\w'=w:=by
 unfold maxLen at hs
 by_cases h3:3<s.size
 ·have e1:hrN s=0:=by unfold hrN;rw[if_neg (by omega)]
  have e2:hrB s=false:=by unfold hrB;rw[if_neg (by omega)]
  rw[e1,e2]
  clear e1 e2
  go_enter Tryz.func355,Tryz.ntmps355
  go_wp2
  go_ret2
  exact⟨rfl,rfl⟩
 ·have e1:hrN s=drN s*3600:=by unfold hrN;rw[if_pos (by omega)]
  have e2:hrB s=digs s:=by unfold hrB;rw[if_pos (by omega)]
  rw[e1,e2]
  have hD:=fun w=>jap s w (by omega)
  have nb:=jo1 s (by omega)
  clear e1 e2
  generalize drN s=n at *
  generalize digs s=b at *
  go_enter Tryz.func355,Tryz.ntmps355
  go_wp2_with (go_at_call 29;refine(hD _).mono ?_;rintro e w' ⟨rfl,rfl⟩)
  go_ret2
  exact⟨rfl,rfl⟩
def jbu(s:ByteArray):ByteArray:=if s.size<3 then s else s.extract 0 (s.size-3)
def jdn(s:ByteArray):ByteArray:=if s.size<3 then⟨#[]⟩else s.extract (s.size-3) s.size
theorem jja(s:ByteArray)(w:World)(hs:s.size<=maxLen):
  Calls Tryz.prog 358 #[.string s] w fun e w'=>e=.returned (.tuple #[.string (jbu s),.string (jdn s)])/\∃n,w'=w.drewN n:=by
 unfold maxLen at hs
 by_cases h3:s.size<3
 ·have e1:jbu s=s:=by unfold jbu;rw[if_pos h3]
  have e2:jdn s=⟨#[]⟩:=by unfold jdn;rw[if_pos h3]
  rw[e1,e2]
  clear e1 e2
  go_enter Tryz.func358,Tryz.ntmps358
  go_wp2
  go_ret2
  exact⟨rfl,0,rfl⟩
 ·have e1:jbu s=s.extract 0 (s.size-3):=by unfold jbu;rw[if_neg h3]
  have e2:jdn s=s.extract (s.size-3) s.size:=by unfold jdn;rw[if_neg h3]
  rw[e1,e2]
  clear e1 e2
  obtain⟨k,hk⟩:∃k:Nat,s.size=k+3:=⟨s.size-3,by omega⟩
  have hk':(s.size:Int)-3=(k:Int):=by omega
  go_enter Tryz.func358,Tryz.ntmps358
  go_wp2
  go_quiet (fail)
  go_wp2
  go_ret2
  refine⟨?_,_,rfl⟩
  rw[hk]
  simp
def mnN(s:ByteArray):Int:=hrN (jbu s)+sixN (jdn s)*60
def mnB(s:ByteArray):Bool:=hrB (jbu s)&&sixB (jdn s)
theorem jsg(s:ByteArray):(jbu s).size<=s.size:=by
 unfold jbu;split
 ·omega
 ·rw[ByteArray.size_extract];omega
theorem jzi(s:ByteArray):(jdn s).size<=3:=by
 unfold jdn;split
 ·simp[ByteArray.size]
 ·rw[ByteArray.size_extract];omega
theorem jhd(s:ByteArray)(w:World)(hs:s.size<=maxLen):
  Calls Tryz.prog 356 #[.string s] w fun e w'=>e=.returned (.tuple #[.int .i64 (mnN s),.bool (mnB s)])/\∃n,w'=w.drewN n:=by
 have hF:=jsg s
 have hK:=jzi s
 have hP:=fun w=>jja s w hs
 have hH:=fun w=>jlf (jbu s) w (by unfold maxLen at hs ⊢;omega)
 have hX:=fun w=>jcl (jdn s) w (by omega)
 have b1:=jx7 (jbu s)
 have b2:=jef (jdn s)
 unfold mnN mnB
 clear hs hF hK
 generalize hrN (jbu s)=n1 at *
 generalize sixN (jdn s)=n2 at *
 generalize sixB (jdn s)=c2 at *
 generalize hrB (jbu s)=c1 at *
 cases c1
 all_goals
  go_enter Tryz.func356,Tryz.ntmps356
  go_wp2_with fail
  refine(hP _).mono ?_
  rintro e w1 ⟨rfl,n,rfl⟩
  go_wp2_with fail
  refine(hH _).mono ?_
  rintro e w1 ⟨rfl,rfl⟩
  go_wp2_with fail
  refine(hX _).mono ?_
  rintro e w1 ⟨rfl,rfl⟩
  go_wp2
  go_ret2
  exact⟨rfl,n,rfl⟩
theorem jw7(s:ByteArray):0<=mnN s/\mnN s<=999999999*3600+999999999*60:=by
 have:=jx7 (jbu s)
 have:=jef (jdn s)
 unfold mnN;omega
def scN(s:ByteArray):Int:=mnN (jbu s)+sixN (jdn s)
def scB(s:ByteArray):Bool:=mnB (jbu s)&&sixB (jdn s)
theorem jn8(s:ByteArray)(w:World)(hs:s.size<=maxLen):
  Calls Tryz.prog 357 #[.string s] w fun e w'=>e=.returned (.tuple #[.int .i64 (scN s),.bool (scB s)])/\∃n,w'=w.drewN n:=by
 have hF:=jsg s
 have hK:=jzi s
 have hP:=fun w=>jja s w hs
 have hH:=fun w=>jhd (jbu s) w (by unfold maxLen at hs ⊢;omega)
 have hX:=fun w=>jcl (jdn s) w (by omega)
 have b1:=jw7 (jbu s)
 have b2:=jef (jdn s)
 unfold scN scB
 clear hs hF hK
 generalize mnN (jbu s)=n1 at *
 generalize sixN (jdn s)=n2 at *
 generalize sixB (jdn s)=c2 at *
 generalize mnB (jbu s)=c1 at *
 cases c1
 all_goals
  go_enter Tryz.func357,Tryz.ntmps357
  go_wp2_with fail
  refine(hP _).mono ?_
  rintro e w1 ⟨rfl,n,rfl⟩
  go_wp2_with fail
  refine(hH _).mono ?_
  rintro e w1 ⟨rfl,m,rfl⟩
  go_wp2_with fail
  refine(hX _).mono ?_
  rintro e w1 ⟨rfl,rfl⟩
  go_wp2
  go_ret2
  exact⟨rfl,n+m,rfl⟩
def rdB(s:ByteArray):Bool:=hrB s || (mnB s || scB s)
def rdN(s:ByteArray):Int:=if hrB s=true then hrN s else if mnB s=true then mnN s else if scB s=true then scN s else 0
theorem jxz(s:ByteArray)(w:World)(hs:s.size<=maxLen):
  Calls Tryz.prog 354 #[.string s] w fun e w'=>e=.returned (.tuple #[.int .i64 (rdN s),.bool (rdB s)])/\Below w.heap.size w w':=by
 have hH:=fun w=>jlf s w hs
 have hM:=fun w=>jhd s w hs
 have hC:=fun w=>jn8 s w hs
 have i0:∀(w:World) (x0 x1 x2:Value),(Instr.index 443 (.agg #[x0,x1,x2]) (.int .i64 0)).run Tryz.prog w=.ok x0 w:=fun _ _ _ _=>by kernel_rfl
 have i1:∀(w:World) (x0 x1 x2:Value),(Instr.index 443 (.agg #[x0,x1,x2]) (.int .i64 1)).run Tryz.prog w=.ok x1 w:=fun _ _ _ _=>by kernel_rfl
 have i2:∀(w:World) (x0 x1 x2:Value),(Instr.index 443 (.agg #[x0,x1,x2]) (.int .i64 2)).run Tryz.prog w=.ok x2 w:=fun _ _ _ _=>by kernel_rfl
 unfold rdN rdB
 generalize hrN s=n1 at *
 generalize hrB s=b1 at *
 generalize mnN s=n2 at *
 generalize mnB s=b2 at *
 generalize scN s=n3 at *
 generalize scB s=b3 at *
 clear hs
 go_enter Tryz.func354,Tryz.ntmps354
 go_wp2_with fail
 refine wp_loop_rounds 4 ?_
 rw[rounds_succ]
 go_wp2_with fail
 refine(hH _).mono ?_
 rintro e w1 ⟨rfl,rfl⟩
 cases b1
 case true=>
  go_wp2
  go_ret2
  exact⟨by simp,qal _ _⟩
 go_wp2_with fail
 rw[rounds_succ]
 go_wp2_with fail
 refine(hM _).mono ?_
 rintro e w1 ⟨rfl,k,rfl⟩
 cases b2
 case true=>
  go_wp2
  go_ret2
  exact⟨by simp,jgf _ _ _⟩
 go_wp2_with fail
 rw[rounds_succ]
 go_wp2_with fail
 refine(hC _).mono ?_
 rintro e w1 ⟨rfl,m,rfl⟩
 cases b3
 case true=>
  go_wp2
  go_ret2
  exact⟨by simp,jgf _ _ _⟩
 go_wp2_with fail
 rw[rounds_succ]
 go_wp2
 go_ret2
 exact⟨by simp,jgf _ _ _⟩
theorem j78(s:ByteArray):0<=rdN s/\rdN s<=10000000000000:=by
 have a:=jx7 s
 have b:=jw7 s
 have c:=jw7 (jbu s)
 have d:=jef (jdn s)
 unfold rdN
 split
 ·omega
 split
 ·omega
 split
 ·unfold scN;omega
 ·omega
def jfc(s:ByteArray):ByteArray:=⟨(Lib.trimPrefix s.data.toList [45]).toArray⟩
def negB(s:ByteArray):Bool:=Lib.hasPrefix s.data.toList [45]
def jw8(s:ByteArray):Bool:=s.toList==[45]
def orC(s:ByteArray):Int:=if jw8 s=true then 0 else if rdB (jfc s)=true/\rdN (jfc s)<=604800 then 0 else 3
def orN(s:ByteArray):Int:=if jw8 s=true then 0 else if rdB (jfc s)=true/\rdN (jfc s)<=604800 then(if negB s=true then-rdN (jfc s)else rdN (jfc s))else 0
theorem j5f(s:ByteArray):(jfc s).size<=s.size:=by
 unfold jfc Lib.trimPrefix
 simp only[ByteArray.size]
 split<;>simp
theorem jjp(s:ByteArray)(w:World)(hs:s.size<=8000):
  Calls Tryz.prog 348 #[.string s] w fun e w'=>e=.returned (.agg #[.int .i64 (orN s),.int .i64 (orC s)])/\Below w.heap.size w w':=by
 have hR:=fun w=>jxz (jfc s) w (by have:=j5f s;unfold maxLen;omega)
 have hC:=fun w=>Tryz.strings_CutPrefix s ⟨#[45]⟩ w
 have ec:(⟨(Lib.trimPrefix s.data.toList (⟨#[45]⟩:ByteArray).data.toList).toArray⟩:ByteArray)=jfc s:=rfl
 have en:Lib.hasPrefix s.data.toList (⟨#[45]⟩:ByteArray).data.toList=negB s:=rfl
 rw[ec,en]at hC
 clear ec en
 have bd:0<=rdN (jfc s)/\rdN (jfc s)<=10000000000000:=j78 _
 unfold orN orC
 cases hm:jw8 s
 ·have hm':(s.toList==[45])=false:=hm
  clear hm
  generalize rdB (jfc s)=b at *
  generalize rdN (jfc s)=n at *
  generalize negB s=g at *
  generalize jfc s=r at *
  have nb:(b=true/\n<=604800)\/¬(b=true/\n<=604800):=Classical.em _
  simp only[Bool.false_eq_true,if_false]
  rcases nb with hb0|hb0
  ·rw[if_pos hb0,if_pos hb0]
   obtain⟨rfl,hn⟩:=hb0
   cases g
   ·simp only[Bool.false_eq_true,if_false]
    go_enter Tryz.func348,Tryz.ntmps348
    go_wp2_with fail
    refine(hC _).mono ?_
    rintro e w0 ⟨rfl,rfl⟩
    go_wp2_with fail
    refine(hR _).mono ?_
    rintro e w1 ⟨rfl,hb⟩
    obtain⟨hc,hf⟩:=jal hb
    have hz:w.heap.size<w1.heap.size:=by have:=hb.size;simp at this;omega
    have hB:Below w.heap.size w w1:=(qal _ _).trans (hb.mono (by simp))
    go_wp2
    exact bodyPost_ret (v:=.agg #[.int .i64 (n),.int .i64 0]) (by simp[results,Tryz.results348,go_sem,hc]) rfl ⟨rfl,(hB.setCell (Nat.le_refl _) _).setCell (Nat.le_refl _) _⟩
   ·simp only[if_true]
    go_enter Tryz.func348,Tryz.ntmps348
    go_wp2_with fail
    refine(hC _).mono ?_
    rintro e w0 ⟨rfl,rfl⟩
    go_wp2_with fail
    refine(hR _).mono ?_
    rintro e w1 ⟨rfl,hb⟩
    obtain⟨hc,hf⟩:=jal hb
    have hz:w.heap.size<w1.heap.size:=by have:=hb.size;simp at this;omega
    have hB:Below w.heap.size w w1:=(qal _ _).trans (hb.mono (by simp))
    go_wp2
    exact bodyPost_ret (v:=.agg #[.int .i64 (-n),.int .i64 0]) (by simp[results,Tryz.results348,go_sem,hc]) rfl ⟨rfl,(hB.setCell (Nat.le_refl _) _).setCell (Nat.le_refl _) _⟩
  ·rw[if_neg hb0,if_neg hb0]
   cases b
   ·clear hb0
    go_enter Tryz.func348,Tryz.ntmps348
    go_wp2_with fail
    refine(hC _).mono ?_
    rintro e w0 ⟨rfl,rfl⟩
    go_wp2_with fail
    refine(hR _).mono ?_
    rintro e w1 ⟨rfl,hb⟩
    obtain⟨hc,hf⟩:=jal hb
    have hz:w.heap.size<w1.heap.size:=by have:=hb.size;simp at this;omega
    have hB:Below w.heap.size w w1:=(qal _ _).trans (hb.mono (by simp))
    go_wp2
    exact bodyPost_ret (v:=.agg #[.int .i64 (0),.int .i64 3]) (by simp[results,Tryz.results348,go_sem,hc]) rfl ⟨rfl,(hB.setCell (Nat.le_refl _) _).setCell (Nat.le_refl _) _⟩
   ·have hn:604800<n:=by
     rcases Int.lt_or_le 604800 n with h|h
     ·exact h
     ·exact absurd ⟨rfl,h⟩ hb0
    clear hb0
    go_enter Tryz.func348,Tryz.ntmps348
    go_wp2_with fail
    refine(hC _).mono ?_
    rintro e w0 ⟨rfl,rfl⟩
    go_wp2_with fail
    refine(hR _).mono ?_
    rintro e w1 ⟨rfl,hb⟩
    obtain⟨hc,hf⟩:=jal hb
    have hz:w.heap.size<w1.heap.size:=by have:=hb.size;simp at this;omega
    have hB:Below w.heap.size w w1:=(qal _ _).trans (hb.mono (by simp))
    go_wp2
    exact bodyPost_ret (v:=.agg #[.int .i64 (0),.int .i64 3]) (by simp[results,Tryz.results348,go_sem,hc]) rfl ⟨rfl,(hB.setCell (Nat.le_refl _) _).setCell (Nat.le_refl _) _⟩
 ·rw[if_pos rfl,if_pos rfl]
  have hm':(s.toList==[45])=true:=hm
  clear hm hR hC bd
  go_enter Tryz.func348,Tryz.ntmps348
  go_wp2
  exact bodyPost_ret (v:=.agg #[.int .i64 0,.int .i64 0]) (by simp[results,Tryz.results348,go_sem]) rfl ⟨rfl,qal _ _⟩
end
section
open Go.RowKit
theorem jfh(s:ByteArray)(w:World)(hs:8000<s.size)(hm:s.size<=maxLen):
  Calls Tryz.prog 348 #[.string s] w fun e w'=>e=.returned (.agg #[.int .i64 0,.int .i64 2])/\Below w.heap.size w w':=by
 unfold maxLen at hm
 go_enter Tryz.func348,Tryz.ntmps348
 go_wp2
 exact bodyPost_ret (v:=.agg #[.int .i64 0,.int .i64 2]) (by simp[results,Tryz.results348,go_sem]) rfl ⟨rfl,qal _ _⟩
def orNN(s:ByteArray):Int:=if 8000<s.size then 0 else orN s
def orCC(s:ByteArray):Int:=if 8000<s.size then 2 else orC s
theorem jfi(s:ByteArray)(w:World)(hm:s.size<=maxLen):
  Calls Tryz.prog 348 #[.string s] w fun e w'=>e=.returned (.agg #[.int .i64 (orNN s),.int .i64 (orCC s)])/\Below w.heap.size w w':=by
 unfold orNN orCC
 by_cases h:8000<s.size
 ·rw[if_pos h,if_pos h];exact jfh s w h hm
 ·rw[if_neg h,if_neg h];exact jjp s w (by omega)
end
end Go.Proofs.YtofdpfpdocpbpaaGreatDoor
