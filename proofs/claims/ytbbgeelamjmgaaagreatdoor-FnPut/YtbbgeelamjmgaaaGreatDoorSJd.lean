import Derived.Test.YtbbgeelamjmgaaaGreatDoorDPd
set_option maxHeartbeats 0
set_option linter.unusedSimpArgs false
open Go.RowKit
namespace Go.Proofs.YtbbgeelamjmgaaaGreatDoor
section
open Go.RowKit Go.ChangeMaps Go.MapKept Go.WideMaps
structure vgI(s:ZP)(w:World)(q:Ending)(w':World):Prop where
 ex:∃x,q=V (.tuple #[.pointer x,.bool (wZ s)])/\(wZ s=true->∃bb lb n a8 c8,x=some (O bb 0)/\w'.cell? (O bb 10)=some (.map (some lb))/\Zm w' lb n (AY s.vs)/\w'.cell? (O bb 0)=some (J s.tx)/\w'.cell? (O bb 8)=some (U a8 s.vs.length c8)/\Za w' a8 8 (s.vs.map ZN.cs)/\s.vs.length<=c8/\True)
 ZB:Bw w w'
theorem ji8(hS:vcg)(s:ZP)(v:Value)(w:World)(hE:Zx w)(hv:Jd w v s)(ok:Zr s):
  C 21 #[v] w (vgI s w):=by
 refine(vea hS s v w hE hv ok).mono ?_;intro q w' h;obtain⟨x,rfl,hx⟩:=h.ex;refine⟨⟨x,rfl,λhs=>?_⟩,h.ZB⟩;obtain⟨bb,lb,n,a1,a2,a3,a4,a5,a6,a8,a9,c1,c2,c3,c4,c5,c6,c8,c9,nm,wm,k,w0,B,a,b,c,d,e,f,ca,cb,cc,cd,ce,cf,rfl,hM,hn,Ia,hk,bg,hE,hN,hW,mI,oG,dC,hC⟩:=(hx hs).ex;have⟨M1,M2,M3,_,_,_,hV,_⟩:=(hC.below Ia.ZB).parts;exact⟨bb,lb,n,a8,c8,rfl,Ia.live,hM,Ia.more (0,J s.tx) (by simp[Mq]),Ia.more (8,U a8 s.vs.length c8) (by simp[Mq]),hV.seq (jlb (cs:=ZN.cs) (λ_=>rfl) _),hV.cap,trivial⟩
end
set_option maxRecDepth 20000 in
theorem jwv(s:ZP)(v:Value)(w:World)(hE:Zx w)(hv:Jd w v s)(ok:Zr s):
  C 39 #[v] w λe w'=>e=V (.bool (wZ s))/\Bw w w':=by
 have dQ:=hv;obtain⟨a,b,c,d,e,f,va,ia,ca,cb,cc,cd,ce,cf,cv,ci,rfl,_,_,_,_,_,_⟩:=hv.form;have ag:Bw w (w.alloc (G (stA s a b c d e f va ia ca cb cc cd ce cf cv ci).toArray 31)):=ZA _ _;have hO:=ji8 j29 s _ _ (hE.of_below ag) (dQ.below ag) ok;clear hv dQ hE ok;unfold C;go_in;go_wp2_with fail;refine hO.mono ?_;rintro q w1 hP;obtain⟨x,rfl,_⟩:=hP.ex;have hb1:=hP.ZB;go_wp2;go_ret;exact⟨rfl,(Zp ag hb1)⟩
