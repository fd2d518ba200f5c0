/- Packed. -/
import Derived.Test.YtofdpfpdocpbpaaGreatDoorJBd
import Derived.Test.YtofdpfpdocpbpaaGreatDoorKKd
set_option maxHeartbeats 20000000
set_option linter.unusedSimpArgs false
namespace Go.Proofs.YtofdpfpdocpbpaaGreatDoor
section
open Go.RowKit
theorem jsx{a b:ByteArray}{k:Nat}(h:k<a.size):jac (a++b) k=jac a k:=by
 unfold jac
 rw[dif_pos h,dif_pos (by rw[ByteArray.size_append];omega),ByteArray.getElem_append_left h]
theorem jsw{a b:ByteArray}{k:Nat}(h:a.size<=k)(h2:k<a.size+b.size):jac (a++b) k=jac b (k-a.size):=by
 unfold jac
 rw[dif_pos (by rw[ByteArray.size_append];omega),dif_pos (by omega),ByteArray.getElem_append_right h]
theorem jjy{a b:ByteArray}{m k:Nat}(h:k<=a.size):(a++b).extract m k=a.extract m k:=by
 apply jcp
 have hl:a.data.toList.length=a.size:=by simp
 simp only[ByteArray.data_extract,ByteArray.data_append,Array.toList_extract,Array.toList_append,List.extract_eq_take_drop]
 by_cases hm:m<=a.size
 ·rw[List.drop_append_of_le_length (by omega),List.take_append_of_le_length (by rw[List.length_drop];omega)]
 ·rw[show k-m=0 by omega,List.take_zero,List.take_zero]
theorem j6p{a b c:ByteArray}:(a++b++c).extract a.size (a.size+b.size)=b:=by
 rw[jjy (by rw[ByteArray.size_append];omega)]
 apply jcp
 have hl:a.data.toList.length=a.size:=by simp
 have hl2:b.data.toList.length=b.size:=by simp
 simp only[ByteArray.data_extract,ByteArray.data_append,Array.toList_extract,Array.toList_append,List.extract_eq_take_drop]
 rw[List.drop_append_of_le_length (by omega),List.drop_of_length_le (by omega),List.nil_append,show a.size+b.size-a.size=b.size by omega,List.take_of_length_le (by omega)]
theorem j2h(s:ByteArray):s.extract 0 s.size=s:=by
 apply jcp
 have hl:s.data.toList.length=s.size:=by simp
 simp only[ByteArray.data_extract,Array.toList_extract,List.extract_eq_take_drop]
 rw[List.drop_zero,List.take_of_length_le (by omega)]
theorem jfu(a b:ByteArray):∀k,k<=a.size->lfs (a++b) k=lfs a k
 |0,_=>rfl
 |k+1,h=>by
  have ih:=jfu a b k (by omega)
  have hb:=(je2 a k).2
  simp only[lfs]
  rw[ih,jsx (by omega),jjy (by omega)]
theorem jnn{s:ByteArray}{a:Nat}:∀d,(∀j,a<=j->j<a+d->jac s j≠10)->lfs s (a+d)=lfs s a
 |0,_=>rfl
 |d+1,h=>by
  rw[show a+(d+1)=(a+d)+1 by omega,jdd (h (a+d) (by omega) (by omega))]
  exact jnn d fun j x y=>h j x (by omega)
theorem jxl{l:ByteArray}(h:jas l=true):∀k,k<l.size->jac l k≠10:=fun k hk=>by
 unfold jas at h
 have:=(of_decide_eq_true h).2 k hk
 omega
def jbr(T l:ByteArray):ByteArray:=T++l++⟨#[10]⟩
theorem jbb(T l:ByteArray):(jbr T l).size=T.size+l.size+1:=by
 unfold jbr
 rw[ByteArray.size_append,ByteArray.size_append]
 rfl
theorem lfs_snoc{T l:ByteArray}{L:List ByteArray}(h:lfs T T.size=(L,T.size))(hl:jas l=true):lfs (jbr T l) (jbr T l).size=(L++[l],(jbr T l).size):=by
 have hs:=jbb T l
 have h0:lfs (jbr T l) T.size=(L,T.size):=by
  unfold jbr
  rw[jfu _ _ _ (by rw[ByteArray.size_append];omega),jfu _ _ _ (Nat.le_refl _),h]
 have h1:lfs (jbr T l) (T.size+l.size)=(L,T.size):=by
  rw[jnn l.size (fun j a b=>?_),h0]
  unfold jbr
  rw[jsx (by rw[ByteArray.size_append];omega),jsw a (by omega)]
  exact jxl hl _ (by omega)
 have h2:jac (jbr T l) (T.size+l.size)=10:=by
  unfold jbr
  have hsz:(T++l).size=T.size+l.size:=ByteArray.size_append
  rw[jsw (by omega) (by show _<(T++l).size+1;omega),hsz,Nat.sub_self]
  rfl
 rw[hs,jdi h2,h1]
 unfold jbr
 rw[j6p]
structure Zw(T:ByteArray)(L:List ByteArray):Prop where
 lf:lfs T T.size=(L,T.size)
 all:L.all jas=true
theorem Zw.nil:Zw ⟨#[]⟩ []:=⟨rfl,rfl⟩
theorem Zw.snoc{T l:ByteArray}{L:List ByteArray}(h:Zw T L)(hl:jas l=true):Zw (jbr T l) (L++[l]):=⟨lfs_snoc h.lf hl,by rw[List.all_append,h.all];simp[hl]⟩
theorem Zw.right{T:ByteArray}{L:List ByteArray}(h:Zw T L){y:Int}(hs:T.size<=8000)(h0:0<=y)(h1:y<=T.size):jB T y=true:=by
 unfold jB inJ
 rw[h.lf,h.all,decide_eq_true ⟨hs,h0,h1⟩,decide_eq_true rfl]
 rfl
theorem j5w{l:ByteArray}(h:jas l=true):l.size<=2000:=by
 unfold jas at h
 exact(of_decide_eq_true h).1
theorem Zw.add{T l:ByteArray}{L:List ByteArray}(h:Zw T L)(hl:jas l=true){y:Int}(hs:T.size+l.size+1<=8000)(h0:0<=y)(h1:y<=T.size):jgi T y l=⟨jbr T l,y,0⟩:=by
 have:=j5w hl
 exact jzn (by omega) (h.right (by omega) h0 h1) hl (by omega)
theorem Zw.sync{T:ByteArray}{L:List ByteArray}(h:Zw T L){y:Int}(hs:T.size<=8000)(h0:0<=y)(h1:y<=T.size):jj8 T y=T.size:=by
 unfold jj8
 rw[h.right hs h0 h1]
 rfl
theorem Zw.crash{T U:ByteArray}{L M:List ByteArray}(h:Zw (T++U) L)(hT:Zw T M)(hs:(T++U).size<=8000):jgd (T++U) T.size 0=T/\jgc (T++U) T.size 0=T.size:=by
 have hz:(T++U).size=T.size+U.size:=ByteArray.size_append
 have hk:jiz (T++U) T.size 0=T.size:=by
  unfold jiz
  rw[if_neg (by omega)]
  rfl
 have hj:=h.right (y:=T.size) hs (by omega) (by omega)
 unfold jgd jgc
 rw[hj,hk,if_pos rfl,if_pos rfl,jfu _ _ _ (Nat.le_refl _),hT.lf,jjy (Nat.le_refl _),j2h]
 exact⟨rfl,rfl⟩
end
section
open Go.RowKit
def yrS(n:Nat):ByteArray:=⟨#[UInt8.ofNat (48+n / 1000),UInt8.ofNat (48+n / 100%10),UInt8.ofNat (48+n / 10%10),UInt8.ofNat (48+n%10)]⟩
def yS(y:Nat):ByteArray:=yrS (1990+y)
def sMax:ByteArray:=⟨#[109,97,120]⟩
def jls:ByteArray:=⟨#[82,117,108,101,32,69,32,49,57,56,48,32]⟩
def jpj:ByteArray:=⟨#[32,45,32,77,97,114,32,108,97,115,116,83,117,110,32,49,58,48,48,117,32,49,58,48,48,32,83,59,82,117,108,101,32,69,32,49,57,56,48,32,109,97,120,32,45,32,79,99,116,32,108,97,115,116,83,117,110,32,49,58,48,48,117,32,48,32,45,59,90,111,110,101,32,80,32,49,58,48,48,32,69,32,67,69,37,115,84,59]⟩
def j45:ByteArray:=⟨#[32,45,32,77,97,114,32,108,97,115,116,83,117,110,32,49,58,48,48,117,32,49,58,48,48,32,83,10,82,117,108,101,32,69,32,49,57,56,48,32,109,97,120,32,45,32,79,99,116,32,108,97,115,116,83,117,110,32,49,58,48,48,117,32,48,32,45,10,90,111,110,101,32,80,32,49,58,48,48,32,69,32,67,69,37,115,84,10]⟩
def lSync:ByteArray:=⟨#[115,121,110,99]⟩
def lAt1:ByteArray:=⟨#[97,116,32,49]⟩
def lAt2:ByteArray:=⟨#[97,116,32,50]⟩
def lBatch:ByteArray:=⟨#[98,97,116,99,104,32,49]⟩
def lCrash:ByteArray:=⟨#[99,114,97,115,104,32,48]⟩
def lAsof:ByteArray:=⟨#[97,115,111,102,32,49]⟩
def ck12:ByteArray:=⟨#[49,50,58,48,48,58,48,48]⟩
def ck00:ByteArray:=⟨#[48,48,58,48,48,58,48,48]⟩
def rtxt(x:ByteArray):ByteArray:=jls++x++j45
def jar(x:ByteArray):ByteArray:=⟨#[114,117,108,101,115,32]⟩++jls++x++jpj
def jeg(y:ByteArray):ByteArray:=⟨#[112,117,116,32,49,32,97,32,80,32]⟩++y++⟨#[45,48,55,45,48,49,32,49,50,58,48,48,58,48,48,32,48,32,48]⟩
def jez(y:ByteArray):ByteArray:=⟨#[112,117,116,32,50,32,98,32,80,32]⟩++y++⟨#[45,49,50,45,48,49,32,49,50,58,48,48,58,48,48,32,48,32,48]⟩
def jp0(y:ByteArray):ByteArray:=⟨#[102,105,110,100,32]⟩++y++⟨#[45,48,49,45,48,49,32,48,48,58,48,48,58,48,48,32]⟩++y++⟨#[45,49,50,45,51,49,32,48,48,58,48,48,58,48,48]⟩
def dt1(y:ByteArray):ByteArray:=y++⟨#[45,48,55,45,48,49]⟩
def dt2(y:ByteArray):ByteArray:=y++⟨#[45,49,50,45,48,49]⟩
def dtF(y:ByteArray):ByteArray:=y++⟨#[45,48,49,45,48,49]⟩
def dtG(y:ByteArray):ByteArray:=y++⟨#[45,49,50,45,51,49]⟩
def x1(x:ByteArray):RX:=⟨⟨#[69]⟩,⟨#[49,57,56,48]⟩,x,⟨#[77,97,114]⟩,⟨#[108,97,115,116,83,117,110]⟩,⟨#[49,58,48,48,117]⟩,⟨#[49,58,48,48]⟩,⟨#[49,58,48,48]⟩,⟨#[83]⟩⟩
def x2:RX:=⟨⟨#[69]⟩,⟨#[49,57,56,48]⟩,sMax,⟨#[79,99,116]⟩,⟨#[108,97,115,116,83,117,110]⟩,⟨#[49,58,48,48,117]⟩,⟨#[49,58,48,48]⟩,⟨#[48]⟩,⟨#[45]⟩⟩
def zx:ZX:=⟨⟨#[80]⟩,⟨#[49,58,48,48]⟩,⟨#[69]⟩,⟨#[67,69,37,115,84]⟩⟩
def relC(x:ByteArray):RelD:=relX (x1 x) x2 zx
def jrc(x:ByteArray):List ByteArray:=[⟨#[114,117,108,101,115]⟩,⟨#[82,117,108,101]⟩,⟨#[69]⟩,⟨#[49,57,56,48]⟩,x,⟨#[45]⟩,⟨#[77,97,114]⟩,⟨#[108,97,115,116,83,117,110]⟩,⟨#[49,58,48,48,117]⟩,⟨#[49,58,48,48]⟩,⟨#[83,59,82,117,108,101]⟩,⟨#[69]⟩,⟨#[49,57,56,48]⟩,⟨#[109,97,120]⟩,⟨#[45]⟩,⟨#[79,99,116]⟩,⟨#[108,97,115,116,83,117,110]⟩,⟨#[49,58,48,48,117]⟩,⟨#[48]⟩,⟨#[45,59,90,111,110,101]⟩,⟨#[80]⟩,⟨#[49,58,48,48]⟩,⟨#[69]⟩,⟨#[67,69,37,115,84,59]⟩]
def wPut1(y:ByteArray):List ByteArray:=[⟨#[112,117,116]⟩,⟨#[49]⟩,⟨#[97]⟩,⟨#[80]⟩,dt1 y,ck12,⟨#[48]⟩,⟨#[48]⟩]
def wPut2(y:ByteArray):List ByteArray:=[⟨#[112,117,116]⟩,⟨#[50]⟩,⟨#[98]⟩,⟨#[80]⟩,dt2 y,ck12,⟨#[48]⟩,⟨#[48]⟩]
def wFind(y:ByteArray):List ByteArray:=[⟨#[102,105,110,100]⟩,dtF y,ck00,dtG y,ck00]
def j4h:List ByteArray:=[⟨#[115,121,110,99]⟩]
def wAt1:List ByteArray:=[⟨#[97,116]⟩,⟨#[49]⟩]
def wAt2:List ByteArray:=[⟨#[97,116]⟩,⟨#[50]⟩]
def j3l:List ByteArray:=[⟨#[98,97,116,99,104]⟩,⟨#[49]⟩]
def jvf:List ByteArray:=[⟨#[99,114,97,115,104]⟩,⟨#[48]⟩]
def j7l:List ByteArray:=[⟨#[97,115,111,102]⟩,⟨#[49]⟩]
def jdr(line:ByteArray)(ws:List ByteArray):Bool:=decide (Lib.splitB ⟨#[32]⟩ 0 (Lib.countB line ⟨#[32]⟩) line=ws)&&(decide (Lib.countB line ⟨#[32]⟩+1=ws.length)&&(ws.all (fun s=>decide (1<=s.size))&&(decide (line.size<=2000)&&(decide (ws.length<=100)&&(!decide (0<=Lib.indexByte line.data.toList 10)&&(decide ((jip line).size<=10000)&&(decide (Lib.countB (jip line) ⟨#[59]⟩<=10000)&&jas line)))))))
theorem ja4{line:ByteArray}{ws:List ByteArray}(h:jdr line ws=true):Ji line ws/\jas line=true:=by
 unfold jdr at h
 simp only[Bool.and_eq_true,decide_eq_true_eq,List.all_eq_true,Bool.not_eq_true']at h
 obtain⟨h1,h2,h3,h4,h5,h6,h7,h8,h9⟩:=h
 exact⟨⟨⟨h1,h2,h3,h4,h5⟩,h6,h7,h8⟩,h9⟩
theorem jgg{p:Nat->Bool}(h:(List.range 30).all p=true){y:Nat}(hy:y<30):p y=true:=List.all_eq_true.mp h y (List.mem_range.mpr hy)
theorem jxg:(jdr (jar sMax) (jrc sMax)&&(jdr lSync j4h&&(jdr lAt1 wAt1&&(jdr lAt2 wAt2&&(jdr lBatch j3l&&(jdr lCrash jvf&&jdr lAsof j7l))))))=true:=by kernel_rfl
theorem jpw:(List.range 30).all (fun y=>jdr (jeg (yS y)) (wPut1 (yS y)))=true:=by kernel_rfl
theorem jpv:(List.range 30).all (fun y=>jdr (jez (yS y)) (wPut2 (yS y)))=true:=by kernel_rfl
theorem jpx:(List.range 30).all (fun y=>jdr (jp0 (yS y)) (wFind (yS y)))=true:=by kernel_rfl
def jz6(x:ByteArray)(k1 k2 k3:Nat):Bool:=decide (x.size<=4)&&(toB x&&(!(x.toList==[111,110,108,121])&&(decide ((rtxt x).size<=8000)&&(decide (lexF (rtxt x) 2000 0 []=some ((x1 x).ws,k1))&&(decide (k1+1<(rtxt x).size)&&(decide (lexF (rtxt x) 2000 (k1+1) []=some (x2.ws,k2))&&(decide (k2+1<(rtxt x).size)&&(decide (lexF (rtxt x) 2000 (k2+1) []=some (zx.ws,k3))&&(decide (k3+1=(rtxt x).size)&&(jbm (x1 x).d&&(relB (relC x)&&decide (jd8 (jar x)=rtxt x))))))))))))
theorem jvx{x:ByteArray}{k1 k2 k3:Nat}(h:jz6 x k1 k2 k3=true):TextW (rtxt x) (x1 x) x2 zx k1 k2 k3/\jd8 (jar x)=rtxt x:=by
 unfold jz6 at h
 simp only[Bool.and_eq_true,decide_eq_true_eq,Bool.not_eq_true']at h
 obtain⟨a1,a2,a3,a4,a5,a6,a7,a8,a9,a10,a11,a12,a13⟩:=h
 have hu:UtcW ⟨#[49,58,48,48,117]⟩ ⟨#[49,58,48,48]⟩:=⟨by kernel_rfl,by kernel_rfl,by kernel_rfl,by kernel_rfl,by kernel_rfl⟩
 have r1:(x1 x).ok:=⟨by show(1:Nat)<=8000;omega,by show(4:Nat)<=4;omega,a1,by show(7:Nat)<=8000;omega,by show(5:Nat)<=8000;omega,by show(4:Nat)<=8000;omega,by show(4:Nat)<=8000;omega,by show(1:Nat)<=8000;omega,by kernel_rfl,a2,a3,by kernel_rfl,hu,by kernel_rfl,by kernel_rfl⟩
 have r2:x2.ok:=⟨by show(1:Nat)<=8000;omega,by show(4:Nat)<=4;omega,by show(3:Nat)<=4;omega,by show(7:Nat)<=8000;omega,by show(5:Nat)<=8000;omega,by show(4:Nat)<=8000;omega,by show(1:Nat)<=8000;omega,by show(1:Nat)<=8000;omega,by kernel_rfl,by kernel_rfl,by kernel_rfl,by kernel_rfl,hu,by kernel_rfl,by kernel_rfl⟩
 exact⟨⟨a4,r1,r2,⟨by show(4:Nat)<=8000;omega,by show(1:Nat)<=8000;omega,by show(5:Nat)<=8000;omega,by kernel_rfl,by kernel_rfl⟩,by show(1:Nat)<=8000;omega,by kernel_rfl,⟨2000,a5⟩,a6,⟨2000,a7⟩,a8,⟨2000,a9⟩,a10,a11,by kernel_rfl,by kernel_rfl,a12⟩,a13⟩
theorem j7r:jz6 sMax 42 82 102=true:=by kernel_rfl
theorem inC(x:ByteArray):inR (relC x) ⟨#[80]⟩=true:=by kernel_rfl
def wal1(y:Nat):Int:=trN (timS (dt1 (yS y)) ck12)
def wal2(y:Nat):Int:=trN (timS (dt2 (yS y)) ck12)
def loF(y:Nat):Int:=trN (timS (dtF (yS y)) ck00)
def hiF(y:Nat):Int:=trN (timS (dtG (yS y)) ck00)
def e1(y:Nat):EventD:=⟨1,⟨#[97]⟩,⟨#[80]⟩,wal1 y,0,0⟩
def e2(y:Nat):EventD:=⟨2,⟨#[98]⟩,⟨#[80]⟩,wal2 y,0,0⟩
structure YOk(y:Nat):Prop where
 t1:trC (timS (dt1 (yS y)) ck12)=0
 t2:trC (timS (dt2 (yS y)) ck12)=0
 t3:trC (timS (dtF (yS y)) ck00)=0
 t4:trC (timS (dtG (yS y)) ck00)=0
 v1:jc6 (e1 y)=true
 v2:jc6 (e2 y)=true
 s1:jcs (wal1 y-7200)=(dt1 (yS y)).data.toList++[32,49,48,58,48,48,58,48,48]
 s2:jcs (wal1 y-3600)=(dt1 (yS y)).data.toList++[32,49,49,58,48,48,58,48,48]
 s3:jcs (wal2 y-3600)=(dt2 (yS y)).data.toList++[32,49,49,58,48,48,58,48,48]
 o1:loF y<=wal1 y-7200
 o2:wal1 y+7200<wal2 y
 o3:wal2 y<=hiF y
def chkY(y:Nat):Bool:=decide (trC (timS (dt1 (yS y)) ck12)=0)&&(decide (trC (timS (dt2 (yS y)) ck12)=0)&&(decide (trC (timS (dtF (yS y)) ck00)=0)&&(decide (trC (timS (dtG (yS y)) ck00)=0)&&(jc6 (e1 y)&&(jc6 (e2 y)&&(decide (jcs (wal1 y-7200)=(dt1 (yS y)).data.toList++[32,49,48,58,48,48,58,48,48])&&(decide (jcs (wal1 y-3600)=(dt1 (yS y)).data.toList++[32,49,49,58,48,48,58,48,48])&&(decide (jcs (wal2 y-3600)=(dt2 (yS y)).data.toList++[32,49,49,58,48,48,58,48,48])&&(decide (loF y<=wal1 y-7200)&&(decide (wal1 y+7200<wal2 y)&&decide (wal2 y<=hiF y)))))))))))
theorem j27:(List.range 30).all chkY=true:=by kernel_rfl
theorem yOk{y:Nat}(hy:y<30):YOk y:=by
 have h:=jgg j27 hy
 unfold chkY at h
 simp only[Bool.and_eq_true,decide_eq_true_eq]at h
 obtain⟨a1,a2,a3,a4,a5,a6,a7,a8,a9,a10,a11,a12⟩:=h
 exact⟨a1,a2,a3,a4,a5,a6,a7,a8,a9,a10,a11,a12⟩
end
end Go.Proofs.YtofdpfpdocpbpaaGreatDoor
