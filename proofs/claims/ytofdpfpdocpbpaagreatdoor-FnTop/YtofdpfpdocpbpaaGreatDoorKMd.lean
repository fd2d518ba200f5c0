/- Packed. -/
import Derived.Test.YtofdpfpdocpbpaaGreatDoorKLd
import Derived.Test.YtofdpfpdocpbpaaGreatDoorK46Rd
import Derived.Test.YtofdpfpdocpbpaaGreatDoorK46Md
set_option maxRecDepth 20000
set_option maxHeartbeats 20000000
set_option linter.unusedSimpArgs false
namespace Go.Proofs.YtofdpfpdocpbpaaGreatDoor
section
open Go.RowKit
theorem jbc {w00:World} {Bk Bk':World->Option Addr->Prop} (ok:Zk w00 Bk) (ok':Zk w00 Bk') (hEr:ErrC w00) (hM:MxJ w00) {line:ByteArray} {ws:List ByteArray} (hL:Ji line ws) (k:Nat) (hk:k<7) (hno:∀j,j<k->cmdB line ws j=false) (hyes:cmdB line ws k=true) {R:List Value} (hR:cmdR line ws k=R) (txt:ByteArray)
  (hD:∀W p x,Bk W x->Zc W p R->Calls Tryz.prog (juq k) #[.pointer (some ⟨p,0,none⟩),.pointer x] W fun q w'=>q=.returned (.tuple #[.string txt,.nilIface])/\Bk' w' x/\Frm W w'):
  ∀W x,Bk W x->Calls Tryz.prog 22 #[.pointer x,.string line] W fun q w'=>q=.returned (.string txt)/\Bk' w' x/\Frm W w':=fun W x hB=>by
 have h:=jke line txt x W (fun w'=>Bk' w' x/\Frm W w') (fun w' hq=>hEr.of_below (ok'.bel hq.1)) (jty hL k hk hno hyes txt x W (fun w'=>Bk' w' x/\Frm W w') (hM.of_below (ok.bel hB)) fun W1 p hb hV=>by
  rw[hR]at hV
  exact(hD W1 p x (ok.below hB hb) hV).mono fun q w' hP=>⟨hP.1,hP.2.1,(Frm.of_below hb).trans hP.2.2⟩)
 exact h
theorem jaz {w00:World} {Bk Bk':World->Option Addr->Prop} (ok:Zk w00 Bk) (hM:MxJ w00) {line:ByteArray} {ws:List ByteArray} (hL:Ji line ws) (hl:jas line=true) (hs:okF fs_sync ws=false) (hc:okF fs_crash ws=false) {T:ByteArray} {L:List ByteArray} (hT:Zw T L) {y:Int} (h8:T.size+line.size+1<=8000) (h0:0<=y) (h1:y<=T.size) (txt:ByteArray)
  (hTo:∀W x,Bk W x->Calls Tryz.prog 22 #[.pointer x,.string line] W fun q w'=>q=.returned (.string txt)/\Bk' w' x/\Frm W w'):
  ∀W d,Zo w00 Bk T y d W->Calls Tryz.prog 9 #[.pointer (some ⟨d,0,none⟩),.string line] W fun q w'=>q=.returned (.string txt)/\Zo w00 Bk' (jbr T line) y d w'/\Zt W w':=fun W d h=>
 jm3 ok T (jbr T line) line txt ws y y d W hM hL.w hs (.inr ⟨hc,fun W h=>j2q ok T (jbr T line) line txt y d W (hT.add hl h8 h0 h1) (Nat.le_trans hL.w.sz (by decide)) hM hTo h⟩) h
def sA:Za:=⟨0,relC sMax,⟨[],[],[]⟩,0,[],[]⟩
def sB(y:Nat):Za:=addS sA (e1 y) false
def sC(y:Nat):Za:=addS (sB y) (e2 y) false
def sD(y c:Nat):Za:=jph (sC y) (relC (yS c))
def sE(y c:Nat):Za:=folS (sD y c) 1
theorem j75:insS zeroS (relC sMax)=sA:=by
 unfold insS
 rw[if_pos (show(jai zeroS.vs).length=0 from rfl)]
 rfl
theorem j32(y:Nat):jai (sB y).vs=[e1 y]:=by kernel_rfl
theorem jha(y:Nat):jai (sC y).vs=[e1 y,e2 y]:=by kernel_rfl
theorem j74(y c:Nat):insS (sC y) (relC (yS c))=sD y c:=by
 unfold insS
 rw[if_neg (by rw[jha];simp)]
 rfl
end
section
open Go.RowKit
structure Jj(w:World):Prop where
 z:Zm w
 pw:Pow w
 er:ErrC w
theorem rok{x:ByteArray}{k1 k2 k3:Nat}(h:TextW (rtxt x) (x1 x) x2 zx k1 k2 k3):Zr (relC x):=⟨jwp h,relX_small,jwo h⟩
theorem lkc:(Ji (jar sMax) (jrc sMax)/\jas (jar sMax)=true)/\(Ji lSync j4h/\jas lSync=true)/\(Ji lAt1 wAt1/\jas lAt1=true)/\(Ji lAt2 wAt2/\jas lAt2=true)/\(Ji lBatch j3l/\jas lBatch=true)/\(Ji lCrash jvf/\jas lCrash=true)/\(Ji lAsof j7l/\jas lAsof=true):=by
 have h:=jxg
 simp only[Bool.and_eq_true]at h
 obtain⟨a1,a2,a3,a4,a5,a6,a7⟩:=h
 exact⟨ja4 a1,ja4 a2,ja4 a3,ja4 a4,ja4 a5,ja4 a6,ja4 a7⟩
def okS:ByteArray:=⟨#[111,107]⟩
theorem eR(x:ByteArray)(h:jd8 (jar x)=rtxt x):cmdR (jar x) (jrc x) 2=[.string (rtxt x)]:=by
 show [Value.string (jd8 (jar x))]=_
 rw[h]
theorem tMax:TextW (rtxt sMax) (x1 sMax) x2 zx 42 82 102/\jd8 (jar sMax)=rtxt sMax:=jvx j7r
theorem tYr{c:Nat}(hc:c<30):TextW (rtxt (yS c)) (x1 (yS c)) x2 zx 43 83 103/\jd8 (jar (yS c))=rtxt (yS c):=jvx (j7t c hc)
theorem jm4{w00:World}(hE:Jj w00):∀W x,Zb zeroS w00 W x 30->Calls Tryz.prog 22 #[.pointer x,.string (jar sMax)] W fun q w'=>q=.returned (.string (okS))/\Zb sA w00 w' x 30/\Frm W w':=
 jbc (Zk.bookI zeroS w00 30) (Zk.bookI sA w00 30) hE.er hE.z.2 lkc.1.1 2 (by omega) (fun j hj=>by rcases(show j=0\/j=1 by omega)with rfl|rfl<;>kernel_rfl) (by kernel_rfl) (R:=[.string (rtxt sMax)]) (by exact eR sMax tMax.2) (okS) (fun W p x hB hV=>jhi sA (rtxt sMax) p w00 W x 30 hV (by rw[<- j75];exact jf2 zeroS tMax.1 w00 W x 30 hB rfl rfl (rok tMax.1)))
theorem jvt{y:Nat}(hy:y<30){w00:World}(hE:Jj w00):∀W x,Zb sA w00 W x 30->Calls Tryz.prog 22 #[.pointer x,.string (jeg (yS y))] W fun q w'=>q=.returned (.string (okS))/\Zb (sB y) w00 w' x 60/\Frm W w':=
 jbc (Zk.bookI sA w00 30) (Zk.bookI (sB y) w00 60) hE.er hE.z.2 (ja4 (jgg jpw hy)).1 0 (by omega) (fun j hj=>by omega) (by kernel_rfl) (R:=[.int .i64 1,.string ⟨#[97]⟩,.string ⟨#[80]⟩,.int .i64 0,.int .i64 0,.int .i64 0,.string (dt1 (yS y)),.string ck12]) (by kernel_rfl) (okS) (fun W p x hB hV=>jso sA 1 0 0 ⟨#[97]⟩ ⟨#[80]⟩ (dt1 (yS y)) ck12 p w00 W x 30 hV (yOk hy).t1 (by show(19:Nat)<=maxLen;decide) (fun W h=>jn9 sA (e1 y) w00 W x 30 h (by omega) (by show(0:Int)<=0;omega) (by kernel_rfl) (by show(1:Nat)<=maxLen;decide) (by show(1:Nat)<=maxLen;decide) (yOk hy).v1 (by kernel_rfl) (by kernel_rfl) (by show(0:Nat)<60;omega) (by show(0:Int)<900000;omega) (by kernel_rfl) (by show(jai sA.vs).length<30;rw[show jai sA.vs=[]from rfl];show(0:Nat)<30;omega) (by show(jai (sB y).vs).length<=30;rw[j32];show(1:Nat)<=30;omega)) hB)
theorem jvs{y:Nat}(hy:y<30){w00:World}(hE:Jj w00):∀W x,Zb (sB y) w00 W x 60->Calls Tryz.prog 22 #[.pointer x,.string (jez (yS y))] W fun q w'=>q=.returned (.string (okS))/\Zb (sC y) w00 w' x 90/\Frm W w':=
 jbc (Zk.bookI (sB y) w00 60) (Zk.bookI (sC y) w00 90) hE.er hE.z.2 (ja4 (jgg jpv hy)).1 0 (by omega) (fun j hj=>by omega) (by kernel_rfl) (R:=[.int .i64 2,.string ⟨#[98]⟩,.string ⟨#[80]⟩,.int .i64 0,.int .i64 0,.int .i64 0,.string (dt2 (yS y)),.string ck12]) (by kernel_rfl) (okS) (fun W p x hB hV=>jso (sB y) 2 0 0 ⟨#[98]⟩ ⟨#[80]⟩ (dt2 (yS y)) ck12 p w00 W x 60 hV (yOk hy).t2 (by show(19:Nat)<=maxLen;decide) (fun W h=>jn9 (sB y) (e2 y) w00 W x 60 h (by omega) (by show(0:Int)<=1;omega) (by kernel_rfl) (by show(1:Nat)<=maxLen;decide) (by show(1:Nat)<=maxLen;decide) (yOk hy).v2 (by kernel_rfl) (by kernel_rfl) (by show(1:Nat)<60;omega) (by show(1:Int)<900000;omega) (by kernel_rfl) (by rw[j32];show(1:Nat)<30;omega) (by show(jai (sC y).vs).length<=30;rw[jha];show(2:Nat)<=30;omega)) hB)
theorem jvu{y:Nat}(hy:y<30){K:Nat}(hK:K<=900){w00:World}(hE:Jj w00):∀W x,Zb (sC y) w00 W x K->Calls Tryz.prog 22 #[.pointer x,.string (lAt1)] W fun q w'=>q=.returned (.string (S (jcs (wal1 y-7200))))/\Zb (sC y) w00 w' x (K+1)/\Frm W w':=
 jbc (Zk.bookI (sC y) w00 K) (Zk.bookI (sC y) w00 (K+1)) hE.er hE.z.2 lkc.2.2.1.1 4 (by omega) (fun j hj=>by rcases(show j=0\/j=1\/j=2\/j=3 by omega)with rfl|rfl|rfl|rfl<;>kernel_rfl) (by kernel_rfl) (R:=[.int .i64 1]) (by kernel_rfl) (S (jcs (wal1 y-7200))) (fun W p x hB hV=>jj1 (sC y) 1 (wal1 y-7200) (e1 y) p w00 W x K hB hK (by decide) (by kernel_rfl) (jh9 hy) hV hE.pw)
theorem j4w{y:Nat}(hy:y<30){K:Nat}(hK:K<=900){w00:World}(hE:Jj w00):∀W x,Zb (sC y) w00 W x K->Calls Tryz.prog 22 #[.pointer x,.string (lAt2)] W fun q w'=>q=.returned (.string (S (jcs (wal2 y-3600))))/\Zb (sC y) w00 w' x (K+1)/\Frm W w':=
 jbc (Zk.bookI (sC y) w00 K) (Zk.bookI (sC y) w00 (K+1)) hE.er hE.z.2 lkc.2.2.2.1.1 4 (by omega) (fun j hj=>by rcases(show j=0\/j=1\/j=2\/j=3 by omega)with rfl|rfl|rfl|rfl<;>kernel_rfl) (by kernel_rfl) (R:=[.int .i64 2]) (by kernel_rfl) (S (jcs (wal2 y-3600))) (fun W p x hB hV=>jj1 (sC y) 2 (wal2 y-3600) (e2 y) p w00 W x K hB hK (by decide) (by kernel_rfl) (jrv hy) hV hE.pw)
theorem j4v{y c:Nat}(hy:y<30)(hc:c<30){K:Nat}(hK:K<=900){w00:World}(hE:Jj w00):∀W x,Zb (sD y c) w00 W x K->Calls Tryz.prog 22 #[.pointer x,.string (lAt1)] W fun q w'=>q=.returned (.string (S (jcs (at1 y c))))/\Zb (sD y c) w00 w' x (K+1)/\Frm W w':=
 jbc (Zk.bookI (sD y c) w00 K) (Zk.bookI (sD y c) w00 (K+1)) hE.er hE.z.2 lkc.2.2.1.1 4 (by omega) (fun j hj=>by rcases(show j=0\/j=1\/j=2\/j=3 by omega)with rfl|rfl|rfl|rfl<;>kernel_rfl) (by kernel_rfl) (R:=[.int .i64 1]) (by kernel_rfl) (S (jcs (at1 y c))) (fun W p x hB hV=>jj1 (sD y c) 1 (at1 y c) (e1 y) p w00 W x K hB hK (by decide) (by kernel_rfl) (jrw hy hc) hV hE.pw)
theorem j4u{y c:Nat}(hy:y<30)(hc:c<30){K:Nat}(hK:K<=900){w00:World}(hE:Jj w00):∀W x,Zb (sD y c) w00 W x K->Calls Tryz.prog 22 #[.pointer x,.string (lAt2)] W fun q w'=>q=.returned (.string (S (jcs (wal2 y-3600))))/\Zb (sD y c) w00 w' x (K+1)/\Frm W w':=
 jbc (Zk.bookI (sD y c) w00 K) (Zk.bookI (sD y c) w00 (K+1)) hE.er hE.z.2 lkc.2.2.2.1.1 4 (by omega) (fun j hj=>by rcases(show j=0\/j=1\/j=2\/j=3 by omega)with rfl|rfl|rfl|rfl<;>kernel_rfl) (by kernel_rfl) (R:=[.int .i64 2]) (by kernel_rfl) (S (jcs (wal2 y-3600))) (fun W p x hB hV=>jj1 (sD y c) 2 (wal2 y-3600) (e2 y) p w00 W x K hB hK (by decide) (by kernel_rfl) (j8h hy hc) hV hE.pw)
theorem j4t{y c:Nat}(hy:y<30)(hc:c<30){K:Nat}(hK:K<=900){w00:World}(hE:Jj w00):∀W x,Zb (sE y c) w00 W x K->Calls Tryz.prog 22 #[.pointer x,.string (lAt1)] W fun q w'=>q=.returned (.string (S (jcs (at1 y c))))/\Zb (sE y c) w00 w' x (K+1)/\Frm W w':=
 jbc (Zk.bookI (sE y c) w00 K) (Zk.bookI (sE y c) w00 (K+1)) hE.er hE.z.2 lkc.2.2.1.1 4 (by omega) (fun j hj=>by rcases(show j=0\/j=1\/j=2\/j=3 by omega)with rfl|rfl|rfl|rfl<;>kernel_rfl) (by kernel_rfl) (R:=[.int .i64 1]) (by kernel_rfl) (S (jcs (at1 y c))) (fun W p x hB hV=>jj1 (sE y c) 1 (at1 y c) (e1 y) p w00 W x K hB hK (by decide) (by kernel_rfl) (jrw hy hc) hV hE.pw)
theorem jvr{y c:Nat}(hc:c<30){K:Nat}{w00:World}(hE:Jj w00):∀W x,Zb (sC y) w00 W x K->Calls Tryz.prog 22 #[.pointer x,.string (jar (yS c))] W fun q w'=>q=.returned (.string (okS))/\Zb (sD y c) w00 w' x K/\Frm W w':=
 jbc (Zk.bookI (sC y) w00 K) (Zk.bookI (sD y c) w00 K) hE.er hE.z.2 (ja4 (jl4 c hc)).1 2 (by omega) (fun j hj=>by rcases(show j=0\/j=1 by omega)with rfl|rfl<;>kernel_rfl) (by kernel_rfl) (R:=[.string (rtxt (yS c))]) (by exact eR (yS c) (tYr hc).2) (okS) (fun W p x hB hV=>jhi (sD y c) (rtxt (yS c)) p w00 W x K hV (by rw[<- j74];exact jf2 (sC y) (tYr hc).1 w00 W x K hB rfl (by rw[jha];show(inR (relC (yS c)) ⟨#[80]⟩&&(inR (relC (yS c)) ⟨#[80]⟩&&true))=true;rw[inC];rfl) (rok (tYr hc).1)))
theorem id12:((1:Int)<=1/\(1:Int)<=1000000)/\((1:Int)<=2/\(2:Int)<=1000000):=by omega
def folM(y c:Nat):Nat:=if y<=c then 0 else 1
theorem j7k(y c:Nat):jdz (sD y c)=[e1 y,e2 y]:=by
 show(jai (sC y).vs).filter (waitB 1)=_
 rw[jha]
 rfl
theorem fol_D{y c:Nat}(hy:y<30)(hc:c<30):folN (sD y c) 1=folM y c:=by
 unfold folN
 rw[j7k]
 show cntE (momD (relC sMax)) (momD (relC (yS c))) [e1 y]=_
 unfold cntE folM
 by_cases h:y<=c
 ·rw[if_pos h,List.filter_cons_of_neg (by rw[jh9 hy,jrw hy hc];unfold at1;rw[if_pos h];simp)]
  rfl
 ·rw[if_neg h,List.filter_cons_of_pos (by rw[jh9 hy,jrw hy hc];unfold at1;rw[if_neg h];simp)]
  rfl
theorem jz3{y c:Nat}(hy:y<30)(hc:c<30){K:Nat}(hK:K<=800){w00:World}(hE:Jj w00):∀W x,Zb (sD y c) w00 W x K->Calls Tryz.prog 22 #[.pointer x,.string (lBatch)] W fun q w'=>q=.returned (.string (okN (folM y c)))/\Zb (sE y c) w00 w' x (K+90)/\Frm W w':=
 jbc (Zk.bookI (sD y c) w00 K) (Zk.bookI (sE y c) w00 (K+90)) hE.er hE.z.2 lkc.2.2.2.2.1.1 3 (by omega) (fun j hj=>by rcases(show j=0\/j=1\/j=2 by omega)with rfl|rfl|rfl<;>kernel_rfl) (by kernel_rfl) (R:=[.int .i64 1]) (by kernel_rfl) (okN (folM y c)) (fun W p x hB hV=>jup (sE y c) 1 (folM y c) p w00 W x (K+90) (by unfold folM;split<;>omega) (by unfold folM;split<;>exact Nat.le_of_ble_eq_true (by kernel_rfl)) hV (by have h:=jqh (sD y c) 1 (by omega) (by omega) (by show(1:Int)≠0;omega) w00 W x K hB hK (by show(jai (sC y).vs).length<=30;rw[jha];show(2:Nat)<=30;omega) (fun e he=>by have he:e∈jai (sC y).vs:=he;rw[jha]at he;simp only[List.mem_cons,List.not_mem_nil,or_false]at he;rcases he with rfl|rfl;exact id12.1;exact id12.2);rw[fol_D hy hc]at h;exact h))
theorem j3w:jk3 1:=⟨by omega,by omega,Nat.le_of_ble_eq_true (by kernel_rfl)⟩
theorem j73:jk3 2:=⟨by omega,by omega,Nat.le_of_ble_eq_true (by kernel_rfl)⟩
theorem ent_C{y:Nat}(hy:y<30):entF (momF (momD (sC y).now) (loF y) (hiF y)) (jai (sC y).vs)=[⟨wal1 y-7200,1⟩,⟨wal2 y-3600,2⟩]:=by
 have h:=yOk hy
 have o1:=h.o1
 have o2:=h.o2
 have o3:=h.o3
 rw[jha]
 have g1:momF (momD (sC y).now) (loF y) (hiF y) (e1 y)=(wal1 y-7200,true):=by
  show((momD (relC sMax) (e1 y)).1,(momD (relC sMax) (e1 y)).2&&rgB (loF y) (hiF y) (momD (relC sMax) (e1 y)).1)=_
  rw[jh9 hy,j5e (by omega) (by omega)]
  rfl
 have g2:momF (momD (sC y).now) (loF y) (hiF y) (e2 y)=(wal2 y-3600,true):=by
  show((momD (relC sMax) (e2 y)).1,(momD (relC sMax) (e2 y)).2&&rgB (loF y) (hiF y) (momD (relC sMax) (e2 y)).1)=_
  rw[jrv hy,j5e (by omega) (by omega)]
  rfl
 show jc7 _ (jc7 _ [] (e1 y)) (e2 y)=_
 have a1:jc7 (momF (momD (sC y).now) (loF y) (hiF y)) [] (e1 y)=[⟨wal1 y-7200,1⟩]:=by
  unfold jc7
  rw[g1]
  rfl
 rw[a1]
 unfold jc7
 rw[g2,if_pos rfl]
 unfold insX
 rw[if_pos (jpy (by show wal1 y-7200<wal2 y-3600;omega))]
 rfl
def jx6:ByteArray:=⟨#[49,32,50]⟩
def idS1:ByteArray:=⟨#[49]⟩
theorem ids12:idsT [1,2]=jx6:=by kernel_rfl
theorem ids1:idsT [1]=idS1:=by kernel_rfl
theorem j4s{y:Nat}(hy:y<30){K:Nat}(hK:K<=900){w00:World}(hE:Jj w00):∀W x,Zb (sC y) w00 W x K->Calls Tryz.prog 22 #[.pointer x,.string (jp0 (yS y))] W fun q w'=>q=.returned (.string jx6)/\Jq (sC y) w00 w' x/\Frm W w':=
 jbc (Zk.bookI (sC y) w00 K) (Zk.verI (sC y) w00) hE.er hE.z.2 (ja4 (jgg jpx hy)).1 5 (by omega) (fun j hj=>by rcases(show j=0\/j=1\/j=2\/j=3\/j=4 by omega)with rfl|rfl|rfl|rfl|rfl<;>kernel_rfl) (by kernel_rfl) (R:=[.string (dtF (yS y)),.string ck00,.string (dtG (yS y)),.string ck00]) (by kernel_rfl) jx6 (fun W p x hB hV=>by have h:=jun (sC y) (dtF (yS y)) ck00 (dtG (yS y)) ck00 _ (ent_C hy) (yOk hy).t3 (yOk hy).t4 (by show(19:Nat)<=maxLen;decide) (by show(19:Nat)<=maxLen;decide) (fun e he=>by simp only[List.mem_cons,List.not_mem_nil,or_false]at he;rcases he with rfl|rfl;exact j3w;exact j73) (by show(2:Nat)<=60;omega) p w00 W x K hB hK (by rw[jha];show(2:Nat)<=30;omega) hV;rw[show([⟨wal1 y-7200,1⟩,⟨wal2 y-3600,2⟩]:List EntryD).map EntryD.id=[1,2]from rfl,ids12]at h;exact h)
theorem j4x(y:Nat){w00:World}(hE:Jj w00):∀W x,Jq (sC y) w00 W x->Calls Tryz.prog 22 #[.pointer x,.string lAsof] W fun q w'=>q=.returned (.string idS1)/\Jq (sC y) w00 w' x/\Frm W w':=
 jbc (Zk.verI (sC y) w00) (Zk.verI (sC y) w00) hE.er hE.z.2 lkc.2.2.2.2.2.2.1 6 (by omega) (fun j hj=>by rcases(show j=0\/j=1\/j=2\/j=3\/j=4\/j=5 by omega)with rfl|rfl|rfl|rfl|rfl|rfl<;>kernel_rfl) (by kernel_rfl) (R:=[.int .i64 1]) (by kernel_rfl) idS1 (fun W p x hB hV=>by have h:=jy0 (sC y) 1 [e1 y] (by kernel_rfl) (by kernel_rfl) (fun v hv=>by have hv:v∈[jpf 1 false (e1 y),jpf 2 false (e2 y)]:=hv;simp only[List.mem_cons,List.not_mem_nil,or_false]at hv;rcases hv with rfl|rfl;exact id12.1;exact id12.2) (by kernel_rfl) (by show(2:Nat)<=1048576;omega) (fun e he=>by simp only[List.mem_cons,List.not_mem_nil,or_false]at he;subst he;exact j3w) (by show(1:Nat)<=60;omega) p w00 W x hB hV;rw[show [e1 y].map EventD.id=[1]from rfl,ids1]at h;exact h)
end
section
open Go.RowKit
theorem z0:(jar sMax).size=109:=by kernel_rfl
theorem zRc(c:Nat):(jar (yS c)).size=110:=by kernel_rfl
theorem zp1(y:Nat):(jeg (yS y)).size=33:=by kernel_rfl
theorem zp2(y:Nat):(jez (yS y)).size=33:=by kernel_rfl
theorem zf(y:Nat):(jp0 (yS y)).size=44:=by kernel_rfl
theorem za1:lAt1.size=4:=rfl
theorem za2:lAt2.size=4:=rfl
theorem zb:lBatch.size=7:=rfl
theorem zs:lAsof.size=6:=rfl
def j1:ByteArray:=jbr ⟨#[]⟩ (jar sMax)
def j2(y:Nat):ByteArray:=jbr j1 (jeg (yS y))
def j3(y:Nat):ByteArray:=jbr (j2 y) (jez (yS y))
def j4(y:Nat):ByteArray:=jbr (j3 y) lAt1
def j5(y:Nat):ByteArray:=jbr (j4 y) lAt2
def j6(y c:Nat):ByteArray:=jbr (j5 y) (jar (yS c))
def j7(y c:Nat):ByteArray:=jbr (j6 y c) lAt1
def j8(y c:Nat):ByteArray:=jbr (j7 y c) lAt2
def j9(y c:Nat):ByteArray:=jbr (j8 y c) lBatch
def j10(y c:Nat):ByteArray:=jbr (j9 y c) lAt1
def j13(y:Nat):ByteArray:=jbr (j4 y) (jp0 (yS y))
def j14(y:Nat):ByteArray:=jbr (j13 y) lAsof
theorem w1:j1.size=110:=by unfold j1;rw[jbb,z0];rfl
theorem w2(y:Nat):(j2 y).size=144:=by unfold j2;rw[jbb,w1,zp1]
theorem w3(y:Nat):(j3 y).size=178:=by unfold j3;rw[jbb,w2,zp2]
theorem w4(y:Nat):(j4 y).size=183:=by unfold j4;rw[jbb,w3,za1]
theorem w5(y:Nat):(j5 y).size=188:=by unfold j5;rw[jbb,w4,za2]
theorem w6(y c:Nat):(j6 y c).size=299:=by unfold j6;rw[jbb,w5,zRc]
theorem w7(y c:Nat):(j7 y c).size=304:=by unfold j7;rw[jbb,w6,za1]
theorem w8(y c:Nat):(j8 y c).size=309:=by unfold j8;rw[jbb,w7,za2]
theorem w9(y c:Nat):(j9 y c).size=317:=by unfold j9;rw[jbb,w8,zb]
theorem w10(y c:Nat):(j10 y c).size=322:=by unfold j10;rw[jbb,w9,za1]
theorem w13(y:Nat):(j13 y).size=228:=by unfold j13;rw[jbb,w4,zf]
theorem b1{y:Nat}(hy:y<30):jas (jeg (yS y))=true:=(ja4 (jgg jpw hy)).2
theorem b2{y:Nat}(hy:y<30):jas (jez (yS y))=true:=(ja4 (jgg jpv hy)).2
theorem b6{c:Nat}(hc:c<30):jas (jar (yS c))=true:=(ja4 (jl4 c hc)).2
theorem bF{y:Nat}(hy:y<30):jas (jp0 (yS y))=true:=(ja4 (jgg jpx hy)).2
theorem x1J:Zw j1 [jar sMax]:=Zw.nil.snoc lkc.1.2
theorem x2J{y:Nat}(hy:y<30):Zw (j2 y) [jar sMax,jeg (yS y)]:=x1J.snoc (b1 hy)
theorem x3J{y:Nat}(hy:y<30):Zw (j3 y) [jar sMax,jeg (yS y),jez (yS y)]:=(x2J hy).snoc (b2 hy)
theorem x4J{y:Nat}(hy:y<30):Zw (j4 y) [jar sMax,jeg (yS y),jez (yS y),lAt1]:=(x3J hy).snoc lkc.2.2.1.2
theorem x5J{y:Nat}(hy:y<30):Zw (j5 y) [jar sMax,jeg (yS y),jez (yS y),lAt1,lAt2]:=(x4J hy).snoc lkc.2.2.2.1.2
theorem x6J{y c:Nat}(hy:y<30)(hc:c<30):Zw (j6 y c) [jar sMax,jeg (yS y),jez (yS y),lAt1,lAt2,jar (yS c)]:=(x5J hy).snoc (b6 hc)
theorem x7J{y c:Nat}(hy:y<30)(hc:c<30):Zw (j7 y c) [jar sMax,jeg (yS y),jez (yS y),lAt1,lAt2,jar (yS c),lAt1]:=(x6J hy hc).snoc lkc.2.2.1.2
theorem x8J{y c:Nat}(hy:y<30)(hc:c<30):Zw (j8 y c) [jar sMax,jeg (yS y),jez (yS y),lAt1,lAt2,jar (yS c),lAt1,lAt2]:=(x7J hy hc).snoc lkc.2.2.2.1.2
theorem x9J{y c:Nat}(hy:y<30)(hc:c<30):Zw (j9 y c) [jar sMax,jeg (yS y),jez (yS y),lAt1,lAt2,jar (yS c),lAt1,lAt2,lBatch]:=(x8J hy hc).snoc lkc.2.2.2.2.1.2
theorem x10J{y c:Nat}(hy:y<30)(hc:c<30):Zw (j10 y c) [jar sMax,jeg (yS y),jez (yS y),lAt1,lAt2,jar (yS c),lAt1,lAt2,lBatch,lAt1]:=(x9J hy hc).snoc lkc.2.2.1.2
theorem x13J{y:Nat}(hy:y<30):Zw (j13 y) [jar sMax,jeg (yS y),jez (yS y),lAt1,jp0 (yS y)]:=(x4J hy).snoc (bF hy)
def Pre(J T:ByteArray):Prop:=∃U,T=J++U
theorem Pre.refl(J:ByteArray):Pre J J:=⟨⟨#[]⟩,jcp (by simp)⟩
theorem Pre.snoc{J T:ByteArray}(h:Pre J T)(l:ByteArray):Pre J (jbr T l):=by
 obtain⟨U,rfl⟩:=h
 exact⟨U++l++⟨#[10]⟩,jcp (by simp[jbr])⟩
theorem pre10(y c:Nat):Pre (j3 y) (j10 y c):=(((((((Pre.refl (j3 y)).snoc lAt1).snoc lAt2).snoc (jar (yS c))).snoc lAt1).snoc lAt2).snoc lBatch).snoc lAt1
theorem jy6{y c:Nat}(hy:y<30)(hc:c<30):jgd (j10 y c) (j3 y).size 0=j3 y/\jgc (j10 y c) (j3 y).size 0=(j3 y).size:=by
 have hJ:=x10J hy hc
 have hz:=w10 y c
 obtain⟨U,hU⟩:=pre10 y c
 rw[hU]at hJ hz ⊢
 exact hJ.crash (x3J hy) (by omega)
def stR3(y:Nat):Nat->Za
 |0=>zeroS
 |1=>sA
 |2=>sB y
 |_=>sC y
def kR3:Nat->Nat
 |0=>30
 |1=>30
 |2=>60
 |_=>90
theorem ran3{y:Nat}(hy:y<30)(W:World)(hE:Jj W):Calls Tryz.prog 12 #[.agg #[.string (j3 y),.int .i64 ((j3 y).size:Int)]] W fun q w'=>∃x v,q=.returned (.tuple #[.pointer x,v])/\Zb (sC y) W w' x 90:=
 jsc (j3 y) ((j3 y).size:Int) [jar sMax,jeg (yS y),jez (yS y)] (stR3 y) kR3 (fun _=>okS) W hE.z (by rw[w3];omega) (by rw[(x3J hy).lf]) rfl rfl fun i l hl=>match i,hl with
  |0,hl=>by obtain rfl:=Option.some.inj hl;exact jm4 hE
  |1,hl=>by obtain rfl:=Option.some.inj hl;exact jvt hy hE
  |2,hl=>by obtain rfl:=Option.some.inj hl;exact jvs hy hE
  |i+3,hl=>by simp at hl
theorem Jj.of_below{w w':World}(h:Jj w)(hb:Below w.heap.size w w'):Jj w':=⟨h.z.of_below hb,h.pw.of_below hb,h.er.of_below hb⟩
def lD(y c:Nat):List ByteArray:=[jar sMax,jeg (yS y),jez (yS y),lSync,lAt1,lAt2,jar (yS c),lAt1,lAt2,lBatch,lAt1,lCrash,lAt1,jp0 (yS y),lAsof]
def tjD(y c:Nat):Nat->ByteArray
 |0=>⟨#[]⟩
 |1=>j1
 |2=>j2 y
 |3=>j3 y
 |4=>j3 y
 |5=>j4 y
 |6=>j5 y
 |7=>j6 y c
 |8=>j7 y c
 |9=>j8 y c
 |10=>j9 y c
 |11=>j10 y c
 |12=>j3 y
 |13=>j4 y
 |14=>j13 y
 |_=>j14 y
def yjD(y:Nat):Nat->Int
 |0=>0
 |1=>0
 |2=>0
 |3=>0
 |_=>((j3 y).size:Int)
def tA(y:Nat):ByteArray:=S (jcs (wal1 y-7200))
def tB(y:Nat):ByteArray:=S (jcs (wal2 y-3600))
def tC(y c:Nat):ByteArray:=S (jcs (at1 y c))
def syS:ByteArray:=⟨#[115,121,110,99,101,100]⟩
def ouD(y c:Nat):Nat->ByteArray
 |0=>okS
 |1=>okS
 |2=>okS
 |3=>syS
 |4=>tA y
 |5=>tB y
 |6=>okS
 |7=>tC y c
 |8=>tB y
 |9=>okN (folM y c)
 |10=>tC y c
 |11=>jr3 3
 |12=>tA y
 |13=>jx6
 |_=>idS1
def bkD(y c:Nat)(w00:World):Nat->World->Option Addr->Prop
 |0=>fun w x=>Zb zeroS w00 w x 30
 |1=>fun w x=>Zb sA w00 w x 30
 |2=>fun w x=>Zb (sB y) w00 w x 60
 |3=>fun w x=>Zb (sC y) w00 w x 90
 |4=>fun w x=>Zb (sC y) w00 w x 90
 |5=>fun w x=>Zb (sC y) w00 w x (90+1)
 |6=>fun w x=>Zb (sC y) w00 w x (90+1+1)
 |7=>fun w x=>Zb (sD y c) w00 w x (90+1+1)
 |8=>fun w x=>Zb (sD y c) w00 w x (90+1+1+1)
 |9=>fun w x=>Zb (sD y c) w00 w x (90+1+1+1+1)
 |10=>fun w x=>Zb (sE y c) w00 w x (90+1+1+1+1+90)
 |11=>fun w x=>Zb (sE y c) w00 w x (90+1+1+1+1+90+1)
 |12=>fun w x=>Zb (sC y) w00 w x 90
 |13=>fun w x=>Zb (sC y) w00 w x (90+1)
 |_=>fun w x=>Jq (sC y) w00 w x
theorem jcq(y c:Nat)(w00:World):∀i,Zk w00 (bkD y c w00 i)
 |0=>Zk.bookI _ _ _
 |1=>Zk.bookI _ _ _
 |2=>Zk.bookI _ _ _
 |3=>Zk.bookI _ _ _
 |4=>Zk.bookI _ _ _
 |5=>Zk.bookI _ _ _
 |6=>Zk.bookI _ _ _
 |7=>Zk.bookI _ _ _
 |8=>Zk.bookI _ _ _
 |9=>Zk.bookI _ _ _
 |10=>Zk.bookI _ _ _
 |11=>Zk.bookI _ _ _
 |12=>Zk.bookI _ _ _
 |13=>Zk.bookI _ _ _
 |_+14=>Zk.verI _ _
theorem jui{y c:Nat}(hy:y<30)(hc:c<30)(w:World)(hE:Jj w):∀i l,(lD y c)[i]? =some l->∀W d,Zo w (bkD y c w i) (tjD y c i) (yjD y i) d W->Calls Tryz.prog 9 #[.pointer (some ⟨d,0,none⟩),.string l] W fun q w'=>q=.returned (.string (ouD y c i))/\Zo w (bkD y c w (i+1)) (tjD y c (i+1)) (yjD y (i+1)) d w'/\Zt W w':=fun i l hl=>match i,hl with
 |0,hl=>by
  obtain rfl:=Option.some.inj hl
  exact jaz (jcq y c w 0) hE.z.2 lkc.1.1 lkc.1.2 (by kernel_rfl) (by kernel_rfl) Zw.nil (by rw[z0];show(0:Nat)+109+1<=8000;omega) (Int.le_refl 0) (by show(0:Int)<=0;omega) okS (jm4 hE)
 |1,hl=>by
  obtain rfl:=Option.some.inj hl
  exact jaz (jcq y c w 1) hE.z.2 (ja4 (jgg jpw hy)).1 (b1 hy) (by kernel_rfl) (by kernel_rfl) x1J (by rw[zp1,w1];omega) (Int.le_refl 0) (Int.natCast_nonneg _) okS (jvt hy hE)
 |2,hl=>by
  obtain rfl:=Option.some.inj hl
  exact jaz (jcq y c w 2) hE.z.2 (ja4 (jgg jpv hy)).1 (b2 hy) (by kernel_rfl) (by kernel_rfl) (x2J hy) (by rw[zp2,w2];omega) (Int.le_refl 0) (Int.natCast_nonneg _) okS (jvs hy hE)
 |3,hl=>fun W d h=>by
  obtain rfl:=Option.some.inj hl
  have:=jvq (jcq y c w 3) (j3 y) lSync j4h 0 d W hE.z.2 lkc.2.1.1.w (by kernel_rfl) h
  rw[(x3J hy).sync (by rw[w3];omega) (by omega) (by omega)]at this
  exact this
 |4,hl=>by
  obtain rfl:=Option.some.inj hl
  exact jaz (jcq y c w 4) hE.z.2 lkc.2.2.1.1 lkc.2.2.1.2 (by kernel_rfl) (by kernel_rfl) (x3J hy) (by rw[za1,w3];omega) (by show(0:Int)<=((j3 y).size:Int);omega) (by show((j3 y).size:Int)<=_;omega) (tA y) (jvu hy (by omega) hE)
 |5,hl=>by
  obtain rfl:=Option.some.inj hl
  exact jaz (jcq y c w 5) hE.z.2 lkc.2.2.2.1.1 lkc.2.2.2.1.2 (by kernel_rfl) (by kernel_rfl) (x4J hy) (by rw[za2,w4];omega) (by show(0:Int)<=((j3 y).size:Int);omega) (by show((j3 y).size:Int)<=_;rw[w3,w4];omega) (tB y) (j4w hy (by omega) hE)
 |6,hl=>by
  obtain rfl:=Option.some.inj hl
  exact jaz (jcq y c w 6) hE.z.2 (ja4 (jl4 c hc)).1 (b6 hc) (by kernel_rfl) (by kernel_rfl) (x5J hy) (by rw[zRc,w5];omega) (by show(0:Int)<=((j3 y).size:Int);omega) (by show((j3 y).size:Int)<=_;rw[w3,w5];omega) okS (jvr hc hE)
 |7,hl=>by
  obtain rfl:=Option.some.inj hl
  exact jaz (jcq y c w 7) hE.z.2 lkc.2.2.1.1 lkc.2.2.1.2 (by kernel_rfl) (by kernel_rfl) (x6J hy hc) (by rw[za1,w6];omega) (by show(0:Int)<=((j3 y).size:Int);omega) (by show((j3 y).size:Int)<=_;rw[w3,w6];omega) (tC y c) (j4v hy hc (by omega) hE)
 |8,hl=>by
  obtain rfl:=Option.some.inj hl
  exact jaz (jcq y c w 8) hE.z.2 lkc.2.2.2.1.1 lkc.2.2.2.1.2 (by kernel_rfl) (by kernel_rfl) (x7J hy hc) (by rw[za2,w7];omega) (by show(0:Int)<=((j3 y).size:Int);omega) (by show((j3 y).size:Int)<=_;rw[w3,w7];omega) (tB y) (j4u hy hc (by omega) hE)
 |9,hl=>by
  obtain rfl:=Option.some.inj hl
  exact jaz (jcq y c w 9) hE.z.2 lkc.2.2.2.2.1.1 lkc.2.2.2.2.1.2 (by kernel_rfl) (by kernel_rfl) (x8J hy hc) (by rw[zb,w8];omega) (by show(0:Int)<=((j3 y).size:Int);omega) (by show((j3 y).size:Int)<=_;rw[w3,w8];omega) (okN (folM y c)) (jz3 hy hc (by omega) hE)
 |10,hl=>by
  obtain rfl:=Option.some.inj hl
  exact jaz (jcq y c w 10) hE.z.2 lkc.2.2.1.1 lkc.2.2.1.2 (by kernel_rfl) (by kernel_rfl) (x9J hy hc) (by rw[za1,w9];omega) (by show(0:Int)<=((j3 y).size:Int);omega) (by show((j3 y).size:Int)<=_;rw[w3,w9];omega) (tC y c) (j4t hy hc (by omega) hE)
 |11,hl=>fun W d h=>by
  obtain rfl:=Option.some.inj hl
  exact jm3 (jcq y c w 11) (j10 y c) (j3 y) lCrash (jr3 3) jvf ((j3 y).size:Int) ((j3 y).size:Int) d W hE.z.2 lkc.2.2.2.2.2.1.1.w (by kernel_rfl) (.inl ⟨by kernel_rfl,0,fun l hl=>(match l,hl with|[v],_=>rfl),fun W h=>juj (jcq y c w 11) (j10 y c) (j3 y) ((j3 y).size:Int) ((j3 y).size:Int) 0 d W (sC y) 90 3 (jy6 hy hc).1 (jy6 hy hc).2 hE.z.2 hE.z (by rw[(x3J hy).lf];rfl) (by omega) (Nat.le_of_ble_eq_true (by kernel_rfl)) (by rw[w3];omega) (fun W hb=>ran3 hy W (hE.of_below hb)) h⟩) h
 |12,hl=>by
  obtain rfl:=Option.some.inj hl
  exact jaz (jcq y c w 12) hE.z.2 lkc.2.2.1.1 lkc.2.2.1.2 (by kernel_rfl) (by kernel_rfl) (x3J hy) (by rw[za1,w3];omega) (by show(0:Int)<=((j3 y).size:Int);omega) (by show((j3 y).size:Int)<=_;omega) (tA y) (jvu hy (by omega) hE)
 |13,hl=>by
  obtain rfl:=Option.some.inj hl
  exact jaz (jcq y c w 13) hE.z.2 (ja4 (jgg jpx hy)).1 (bF hy) (by kernel_rfl) (by kernel_rfl) (x4J hy) (by rw[zf,w4];omega) (by show(0:Int)<=((j3 y).size:Int);omega) (by show((j3 y).size:Int)<=_;rw[w3,w4];omega) jx6 (j4s hy (by omega) hE)
 |14,hl=>by
  obtain rfl:=Option.some.inj hl
  exact jaz (jcq y c w 14) hE.z.2 lkc.2.2.2.2.2.2.1 lkc.2.2.2.2.2.2.2 (by kernel_rfl) (by kernel_rfl) (x13J hy) (by rw[zs,w13];omega) (by show(0:Int)<=((j3 y).size:Int);omega) (by show((j3 y).size:Int)<=_;rw[w3,w13];omega) idS1 (j4x y hE)
 |i+15,hl=>by simp[lD]at hl
end
end Go.Proofs.YtofdpfpdocpbpaaGreatDoor
