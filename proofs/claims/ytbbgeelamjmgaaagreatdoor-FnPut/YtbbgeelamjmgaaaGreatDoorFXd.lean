import Derived.Test.YtbbgeelamjmgaaaGreatDoorSXd
set_option maxRecDepth 20000
set_option maxHeartbeats 0
set_option linter.unusedSimpArgs false
open Go.RowKit
namespace Go.Proofs.YtbbgeelamjmgaaaGreatDoor
theorem vdw(l:List Ze)(a b:Option Addr)(n ca cb:Nat)(w:World)(hA:Za w a 6 (l.map Ze.cs))(hB:Za w b 6 (l.map Ze.cs))(hn:l.length=n)(hl:n<=1048576):
  C 7 #[U a n ca,U b n cb] w λe w'=>e=V (.bool true)/\Bw w w':=by
 have HN:=hid hn;clear hn;unfold C;go_in;go_wp2;go_loopw [5] (λs wr=>∃i:Nat,i<=n/\s=J i/\Bw w wr) (λs _=>n-(intOf s).toNat)
 .exact⟨0,Q,rfl,ZU _ _⟩
 ·
  have⟨wa,dS⟩:=wL wr;subst dS;obtain⟨i,hin,rfl,aK⟩:=hrel;by_cases hlt:i<n
  .have a1:(i:Int)<(n:Int):=Q
   obtain⟨x,hx⟩:∃v,l[i]? =some v:=⟨_,ZV (by have:=HN.out;omega)⟩;obtain⟨p,o,rfl,hc⟩:=(hA.below aK).at (i:=i) (r:=x.cs) (by rw[Z8,hx];rfl);obtain⟨p2,o2,rfl,hd⟩:=(hB.below aK).at (i:=i) (r:=x.cs) (by rw[Z8,hx];rfl);have c0:wa.cell? (O p (o+i*6))=some (J x.id):=hc 0 _ rfl;have c1:=hc 1 _ rfl;have c2:=hc 2 _ rfl;have c3:=hc 3 _ rfl;have c4:=hc 4 _ rfl;have c5:=hc 5 _ rfl;have d0:wa.cell? (O p2 (o2+i*6))=some (J x.id):=hd 0 _ rfl;have d1:=hd 1 _ rfl;have d2:=hd 2 _ rfl;have d3:=hd 3 _ rfl;have d4:=hd 4 _ rfl;have d5:=hd 5 _ rfl;have az:=λw=>jil x x w
   rw[show je9 x x=true by simp[je9]]at az;clear hc hd hx;obtain⟨x1,x2,x3,x4,x5,x6⟩:=x;dsimp only at *;go_wp2_with fail;go_quiet (fail);go_wp2;go_roundw
   .exact⟨i+1,Q,RP,below_drewN aK _⟩
   .simp[intOf];omega
  .have a1:¬(i:Int)<(n:Int):=Q
   go_wp2;go_ret;exact⟨rfl,aK⟩
