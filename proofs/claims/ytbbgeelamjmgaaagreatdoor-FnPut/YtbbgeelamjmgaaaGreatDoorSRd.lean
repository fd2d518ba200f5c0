import Derived.OpenShut
import Derived.Lib.BufferOwn
import Derived.Lib.HexFns2
import Derived.Test.YtbbgeelamjmgaaaGreatDoorOwn1d
import Derived.Test.YtbbgeelamjmgaaaGreatDoorRightQd
set_option maxRecDepth 100000
set_option maxHeartbeats 0
set_option linter.unusedSimpArgs false
open Go.RowKit
namespace Go.Proofs.YtbbgeelamjmgaaaGreatDoor
variable{K b base cap k len n o p:Nat}{a:Option Addr}{zs:List Int}{W w w' w1 w2:World}{sz:Int}{v:Value}
def xu(p:Nat)(a:Option Addr)(len cap:Nat)(zs:List Int)(w:World):Prop:=
 ∃(k:Nat) (cI sz:Int),k<=len/\(Lit.int .u64 cI).wf=true/\(Lit.int .i64 sz).wf=true/\
  w.cell? (O p 0)=some (U a len cap)/\w.cell? (O p 1)=some (J k)/\w.cell? (O p 2)=some (.int .u64 cI)/\w.cell? (O p 3)=some (J sz)/\
  (∀i,i<4->w.frozen? (O p i)=false)/\
  (len=0\/∃b o,a=some (O b o)/\b<p/\∀i,i<len->∃z:Int,w.cell? (O b (o+i))=some (.int .u8 z)/\0<=z/\z<=255)/\len<=1048576/\zs=[]
theorem vf5(w:World)(b o:Nat)(v v':Value):(w.setCell (O b o) v).setCell (O b o) v'=w.setCell (O b o) v':=by
 unfold World.setCell
 congr 1
 apply Array.ext_getElem?;intro i;simp only[Array.getElem?_modify];by_cases h:b=i
 .subst h
  simp only[if_true];cases w.heap[b]? with
  |none=>rfl
  |some x=>cases x<;>simp
 .simp[h]
theorem vi1{cI:Int}(k1:k<=len)(wm:(Lit.int .u64 cI).wf=true)(ws:(Lit.int .i64 sz).wf=true)
  (hg:w.grownBy W (some p)) (c0:w.cell? (O p 0)=some (U a len cap)) (c3:w.cell? (O p 3)=some (J sz)) (hf:∀i,i<4->w.frozen? (O p i)=false)
  (ap:len=0\/∃b o,a=some (O b o)/\b<p/\∀i,i<len->∃z:Int,w.cell? (O b (o+i))=some (.int .u8 z)/\0<=z/\z<=255) (hl:len<=1048576) (hz:zs=[])
  (d0:W.cell? (O p 0)=w.cell? (O p 0)) (d1:W.cell? (O p 1)=some (J k)) (d2:W.cell? (O p 2)=some (.int .u64 cI)) (d3:W.cell? (O p 3)=w.cell? (O p 3))
  (df:∀i,W.frozen? (O p i)=w.frozen? (O p i)):xu p a len cap zs W:=by
 refine⟨k,cI,sz,k1,wm,ws,by rw[d0,c0],d1,d2,by rw[d3,c3],λi hi=>by rw[df,hf i hi],?_,hl,hz⟩;rcases ap with h|⟨b,o,ha,az,hc⟩
 .exact .inl h
 .refine .inr ⟨b,o,ha,az,λi hi=>?_⟩
  have⟨z,h,z0,z1⟩:=hc i hi;exact⟨z,hg.cell h RO,z0,z1⟩
theorem vdJ(x bv:Int)(h:1<bv)(h2:bv<=4000000000):0<=wrap64 ((IntKind.u64.wrap x).tmod bv)/\wrap64 ((IntKind.u64.wrap x).tmod bv)<bv:=by
 have ⟨a,_⟩:=bounds_u64 (wf_wrap .u64 x);rw[Int.tmod_eq_emod_of_nonneg a];have b:=Int.emod_nonneg (IntKind.u64.wrap x) (b:=bv) Q;have c:=Int.emod_lt_of_pos (IntKind.u64.wrap x) (b:=bv) Q;unfold wrap64;omega
theorem vbW{i j:Nat}(h:i≠j):((O p i):Addr)≠(O p j):=λe=>h (by injection e)
theorem vds(h:W.heap=w.heap)(x:Addr):W.cell? x=w.cell? x:=by unfold World.cell?;rw[h]
theorem vhp(h:W.heap=w.heap)(x:Addr):W.frozen? x=w.frozen? x:=by unfold World.frozen?;rw[h]
theorem vdH{cI:Int}{u:Value}(k1:k<=len)(wm:(Lit.int .u64 cI).wf=true)(ws:(Lit.int .i64 sz).wf=true)
  (hg:w.grownBy w1 (some p)) (c0:w.cell? (O p 0)=some (U a len cap)) (c3:w.cell? (O p 3)=some (J sz)) (hf:∀i,i<4->w.frozen? (O p i)=false)
  (ap:len=0\/∃b o,a=some (O b o)/\b<p/\∀i,i<len->∃z:Int,w.cell? (O b (o+i))=some (.int .u8 z)/\0<=z/\z<=255) (hl:len<=1048576) (hz:zs=[])
  (d0:w1.cell? (O p 0)=w.cell? (O p 0)) (d1:w1.cell? (O p 1)=some (J k)) (d2:w1.cell? (O p 2)=some u) (d3:w1.cell? (O p 3)=w.cell? (O p 3))
  (df:∀i,w1.frozen? (O p i)=w.frozen? (O p i))
  (hh:W.heap=(w1.setCell (O p 2) (.int .u64 cI)).heap) (ho:W.os=w1.os) (ht:W.tape=w1.tape) (hp:W.output=w1.output):xu p a len cap zs W/\w.grownBy W (some p):=by
 have g2:=Lib.grownBy_setB hg 2 (.int .u64 cI);have gW:w.grownBy W (some p):=⟨ho.trans hg.os,ht.trans hg.tape,hp.trans hg.output,by rw[hh];exact g2.size,λx hx az=>by rw[hh];exact g2.block x hx az⟩;refine⟨vi1 k1 wm ws gW c0 c3 hf ap hl hz ?_ ?_ ?_ ?_ ?_,gW⟩
 .rw[vds hh,ZT _ _ _ _ (vbW Q),d0]
 .rw[vds hh,ZT _ _ _ _ (vbW Q),d1]
 .rw[vds hh,Bf _ _ _ d2]
 .rw[vds hh,ZT _ _ _ _ (vbW Q),d3]
 .intro i
  rw[vhp hh,World.frozen?_setCell,df]
theorem vad(p:Nat)(a:Option Addr)(len cap:Nat)(zs:List Int)(bv:Int)(w:World)(hS:xu p a len cap zs w)(h1:1<=bv)(h2:bv<=4000000000):
  C 37 #[.pointer (some (O p 0)),J bv] w λe w'=>∃v:Int,e=V (J v)/\0<=v/\v<bv/\xu p a len cap zs w'/\w.grownBy w' (some p):=by
 by_cases hm:bv<=1
 .unfold C;go_in
  go_wp2;go_ret;exact⟨0,rfl,Q,Q,hS,World.grownBy.refl _ _⟩
 have⟨k,cI,sz,k1,wm,ws,c0,c1,c2,c3,hf,ap,hl,hz⟩:=hS;have f1:=hf 1 Q;have f2:=hf 2 Q;have QU:=fun(W:World) v v'=>vf5 W p 2 v v'
 by_cases hlt:k<len
 .rcases ap with h|⟨b,o,rfl,az,hc⟩
  .omega
  have⟨z,aH,z0,z1⟩:=hc k hlt;have G0:p≠b:=Q;have hR:Hid (len=0\/∃b' o',some ((O b o):Addr)=some (O b' o')/\b'<p/\∀i,i<len->∃z:Int,w.cell? (O b' (o'+i))=some (.int .u8 z)/\0<=z/\z<=255):=.inr ⟨b,o,rfl,az,hc⟩;have HF:=hid hf;clear hc hf;unfold C;go_in;go_wp2;go_quiet (fail);go_wp2;go_quiet (fail);go_wp2;go_region;go_wp2;go_region;go_wp2;go_region;go_wp2;go_ret;refine⟨_,rfl,(vdJ _ bv hm h2).1,(vdJ _ bv hm h2).2,?_⟩;exact vdH (w:=w) (w1:=w.setCell (O p 1) (J ((k:Int)+1))) (k:=k+1) Q (wf_bits .xor .u64 _ _) ws (Lib.grownBy_setB (World.grownBy.refl w (some p)) 1 _) c0 c3 HF.out hR.out hl hz
   (ZT _ _ _ _ (vbW Q)) (by rw[Bf _ _ _ c1];rfl) ((ZT _ _ _ _ (vbW Q)).trans c2) (ZT _ _ _ _ (vbW Q)) (λ_=>World.frozen?_setCell _ _ _ _) rfl rfl rfl rfl
 .have hR:=hid ap
  have HF:=hid hf;clear ap hf;unfold C;go_in;go_wp2;go_quiet (fail);go_wp2;go_region;go_wp2;go_region;go_wp2;go_region;go_wp2;go_ret;refine⟨_,rfl,(vdJ _ bv hm h2).1,(vdJ _ bv hm h2).2,?_⟩;exact vdH k1 (wf_bits .xor .u64 _ _) ws (World.grownBy.refl w (some p)) c0 c3 HF.out hR.out hl hz rfl c1 c2 rfl (λ_=>rfl) rfl rfl rfl rfl
theorem vcM(p:Nat)(a:Option Addr)(len cap:Nat)(zs:List Int)(bv:Int)(w:World)(hS:xu p a len cap zs w)(h1:1<=bv)(h2:bv<=4000000000):
  C 43 #[.pointer (some (O p 0)),J bv] w λe w'=>∃v:Bool,e=V (.bool v)/\xu p a len cap zs w'/\w.grownBy w' (some p):=by
 unfold C;go_in;go_wp2_with fail;refine(vad p a len cap zs bv _ hS h1 h2).mono ?_;rintro e w1 ⟨v,rfl,v0,v1,Fq,hg⟩;go_wp2;go_ret;exact⟨_,rfl,Fq,hg⟩
theorem xu.grown(h:xu p a len cap zs w)(hb:Bw w w'):xu p a len cap zs w':=by
 have⟨k,cI,sz,k1,wm,ws,c0,c1,c2,c3,hf,ap,hl,hz⟩:=h;have hp:p<w.heap.size:=ZI c0;refine⟨k,cI,sz,k1,wm,ws,by rw[hb.cell hp];exact c0,by rw[hb.cell hp];exact c1,by rw[hb.cell hp];exact c2,by rw[hb.cell hp];exact c3,λi hi=>by rw[hb.frozen hp];exact hf i hi,?_,hl,hz⟩;rcases ap with h|⟨b,o,ha,az,hc⟩
 .exact .inl h
 .refine .inr ⟨b,o,ha,az,λi hi=>?_⟩
  have⟨z,h,z0,z1⟩:=hc i hi;exact⟨z,by rw[hb.cell (ZI h)];exact h,z0,z1⟩
theorem xu.alloc(h:xu p a len cap zs w)(o:Obj):xu p a len cap zs (w.alloc o):=h.grown (ZA _ o)
theorem xu.lt(h:xu p a len cap zs w):p<w.heap.size:=by
 have⟨k,cI,sz,k1,wm,ws,c0,_⟩:=h;exact ZI c0
theorem vc9(w:World)(T:TypeId)(l:List Int)(i:Nat)(hi:i<l.length):(w.alloc (G (l.map (Value.int .i64)).toArray T)).cell? (O w.heap.size i)=some (J (l.getD i 0)):=by
 simp[List.getD,hi]
theorem vfP{T:TypeId}(l:List Int)(hp:p<w.heap.size)(hg:(w.alloc (G (l.map (Value.int .i64)).toArray T)).grownBy w1 (some p)){v:Int}(v0:0<=v)(v1:v<l.length):
  ∃x:Int,w1.cell? (O w.heap.size v.toNat)=some (J x):=
 ⟨_,hg.cell (vc9 w T l v.toNat Q) RO⟩
theorem vaM{o:Obj}(hg:(w.alloc o).grownBy w1 (some p)):w.grownBy w1 (some p):=(World.grownBy_alloc w o (some p)).trans hg
def vbn(w:World)(a:Option Addr)(len:Nat):Prop:=len=0\/∃b o,a=some (O b o)/\∀i,i<len->∃z:Int,w.cell? (O b (o+i))=some (.int .u8 z)/\0<=z/\z<=255
theorem vbn.grown(h:vbn w a len)(hb:Bw w w'):vbn w' a len:=by
 rcases h with h|⟨b,o,ha,hc⟩
 .exact .inl h
 .refine .inr ⟨b,o,ha,λi hi=>?_⟩
  have⟨z,h,z0,z1⟩:=hc i hi;exact⟨z,by rw[hb.cell (ZI h)];exact h,z0,z1⟩
theorem vi3{cI:Int}(n:Nat)(h:vbn w a len)(hl:len<=1048576)(wm:(Lit.int .u64 cI).wf=true)(ws:(Lit.int .i64 sz).wf=true):
  xu w.heap.size a len cap [] ((w.alloc (G #[U a len cap,J 0,.int .u64 cI,J sz] 85)).drewN n)/\Bw w ((w.alloc (G #[U a len cap,J 0,.int .u64 cI,J sz] 85)).drewN n):=by
 have hb:=jle w (G #[U a len cap,J 0,.int .u64 cI,J sz] 85) n;refine⟨⟨0,cI,sz,Q,wm,ws,M,M,M,M,λi hi=>M,?_,hl,rfl⟩,hb⟩;rcases h with h|⟨b,o,ha,hc⟩
 .exact .inl h
 .by_cases h0:len=0
  .exact .inl h0
  .refine .inr ⟨b,o,ha,?_,λi hi=>?_⟩
   .have⟨z,h,_⟩:=hc 0 Q
    exact ZI h
   .have⟨z,h,z0,z1⟩:=hc i hi
    exact⟨z,by rw[hb.cell (ZI h)];exact h,z0,z1⟩
theorem vdc(w:World)(c:Array Value)(t:TypeId)(m i:Nat)(v:Value):((w.alloc (G c t)).drewN m).setCell (O w.heap.size i) v=(w.alloc (G (c.setIfInBounds i v) t)).drewN m:=by
 have:((w.alloc (G c t)).drewN m).setCell (O w.heap.size i) v=((w.alloc (G c t)).setCell (O w.heap.size i) v).drewN m:=rfl;rw[this,World.setCell_alloc_at _ _ _ _ _ rfl]
theorem vgx(n:Int)(h0:0<=n)(h1:n<=4000000000):(Lit.int .i64 n).wf=true:=by
 simp[Lit.wf,IntKind.min,IntKind.max,IntKind.signed,IntKind.bits];omega
theorem vgk(a:Option Addr)(len cap:Nat)(w:World)(h:vbn w a len)(hl:len<=1048576):
  C 18 #[U a len cap] w λe w'=>e=V (.pointer (some (O w.heap.size 0)))/\xu w.heap.size a len cap [] w'/\Bw w w':=by
 have H:=hid h;clear h;unfold C;go_in;go_wp2;go_loopw [4] (λi wr=>∃(k n:Nat) (cI:Int),k<=len/\k<=64/\i=J k/\(Lit.int .u64 cI).wf=true/\wr=(w.alloc (G #[U a len cap,J 0,.int .u64 cI,J 0] 85)).drewN n) (λi _=>64-(intOf i).toNat)
 .exact⟨0,0,_,Q,Q,rfl,RN,rfl⟩
 ·
  obtain⟨k,n,cI,hk,fy,rfl,wm,rfl⟩:=hrel;by_cases hlt:k<len/\k<64
  .have⟨l1,l2⟩:=hlt
   rcases H.out with h0|⟨b,o,rfl,hc⟩
   .omega
   have⟨z,hz,z0,z1⟩:=hc k l1;have mt:=ZI hz;have PI:b≠w.heap.size:=by simp at mt;omega
   have jm:∀ob,(w.alloc ob).cell? (O b (o+k))=some (.int .u8 z):=λob=>by rw[(ZA w ob).cell mt];exact hz
   clear hc hz;go_wp2;go_region;go_wp2;go_roundw
   .exact⟨k+1,n+1,_,Q,Q,RP,wf_wrap .u64 _,vdc _ _ _ _ _ _⟩
   .simp[intOf];omega
  .have fin:∀(W:World) (sz:Int),(Lit.int .i64 sz).wf=true->W=(w.alloc (G #[U a len cap,J 0,.int .u64 cI,J sz] 85)).drewN n->xu w.heap.size a len cap [] W/\Bw w W:=λW sz ws e=>by
    subst e;exact vi3 n H.out hl wm ws
   have Ev:=hid fin;clear fin;by_cases l1:k<len
   .have l2:¬k<64:=Q
    go_wp2
    all_goals go_ret
    .exact⟨rfl,Ev.out _ 12 RN (by rw[vdc,vdc];rfl)⟩
    .exact⟨rfl,Ev.out _ ((len:Int) / 20) (vgx _ Q Q) (vdc _ _ _ _ _ _)⟩
   .go_wp2
    go_ret;exact⟨rfl,Ev.out _ ((len:Int) / 20) (vgx _ Q Q) (vdc _ _ _ _ _ _)⟩
def vbR(w:World)(b n K:Nat):Prop:=∀i,i<n->∃s:ByteArray,w.cell? (O b i)=some (I s)/\s.size<=K
theorem vaR(p:Nat)(a:Option Addr)(len cap:Nat)(zs:List Int)(b n K:Nat)(w:World)(hS:xu p a len cap zs w)(hR:vbR w b n K)(QT:b≠p)(h1:1<=n)(h2:n<=1000):
  C 44 #[.pointer (some (O p 0)),so b n n] w λe w'=>∃s:ByteArray,e=V (I s)/\s.size<=K/\xu p a len cap zs w'/\w.grownBy w' (some p):=by
 unfold C;go_in;go_wp2_with fail;refine(vad p a len cap zs n _ hS Q Q).mono ?_;rintro e w1 ⟨v,rfl,v0,v1,Fq,hg⟩;have⟨s,hs,hz⟩:=hR v.toNat Q;have hx:=hg.cell hs RO;go_wp2;go_ret;exact⟨_,rfl,hz,Fq,hg⟩
theorem vaF(w:World)(l:List ByteArray)(T:TypeId)(hl:∀s∈l,s.size<=100):vbR (w.alloc (G (l.map Value.string).toArray T)) w.heap.size l.length 100:=λi hi=>
 ⟨l[i],by simp[hi],hl _ (List.getElem_mem hi)⟩
def ldM(s:ByteArray):Int:=if s.size<=9 then ldN s else -1
theorem vgc(s:ByteArray)(w:World)(hs:s.size<=8000):
  C 217 #[I s] w λe w'=>e=V (J (ldM s))/\w'=w:=by
 unfold ldM;by_cases h:s.size<=9
 .rw[if_pos h];exact viY s w h
 .rw[if_neg h]
  unfold C;go_in;go_wp2;go_ret;exact⟨rfl,rfl⟩
theorem vhO(s:ByteArray)(h:s.size=0):ldM s= -1:=by
 unfold ldM;rw[if_pos Q,jzn (jmm h)]
theorem vcH(s:ByteArray)(w:World)(hs:s.size<=8000):
  C 185 #[I s] w λe w'=>∃y:Int,e=V (J y)/\0<=y/\y<=9999/\w'=w:=by
 have hD:C 217 #[I s] w λe w'=>e=V (J (ldM s))/\w'=w:=vgc s w hs
 by_cases h1:ldM s<0
 .unfold C;go_in
  go_wp2_with fail;refine hD.mono ?_;rintro e w1 ⟨rfl,hw⟩;have hw:=hw.symm;subst hw;go_wp2;go_ret;exact⟨0,rfl,Q,Q,rfl⟩
 .by_cases h2:9999<ldM s
  .unfold C;go_in
   go_wp2_with fail;refine hD.mono ?_;rintro e w1 ⟨rfl,hw⟩;have hw:=hw.symm;subst hw;go_wp2;go_ret;exact⟨0,rfl,Q,Q,rfl⟩
  .unfold C;go_in
   go_wp2_with fail;refine hD.mono ?_;rintro e w1 ⟨rfl,hw⟩;have hw:=hw.symm;subst hw;go_wp2;go_ret;exact⟨_,rfl,Q,Q,rfl⟩
theorem vig(w:World):
  C 218 #[] w λe w'=>e=V (U (some (O w.heap.size 0)) 12 12)/\vbR w' w.heap.size 12 100/\Bw w w':=by
 unfold C;go_in;go_wp2;go_ret;exact⟨rfl,vaF w [⟨#[74,97,110]⟩,⟨#[70,101,98]⟩,⟨#[77,97,114]⟩,⟨#[65,112,114]⟩,⟨#[77,97,121]⟩,⟨#[74,117,110]⟩,⟨#[74,117,108]⟩,⟨#[65,117,103]⟩,⟨#[83,101,112]⟩,⟨#[79,99,116]⟩,⟨#[78,111,118]⟩,⟨#[68,101,99]⟩] _ RN,ZA _ _⟩
theorem vda(t:ByteArray)(w:World):
  C 186 #[I t] w λe w'=>∃m:Int,e=V (J m)/\0<=m/\m<=12/\Bw w w':=by
 unfold C;go_in;go_wp2_with fail;refine(vig _).mono ?_;rintro e w1 ⟨rfl,hR,hb1⟩;have HR:=hid hR;clear hR;go_wp2;go_loopw [4] (λi wr=>∃k:Nat,k<=12/\i=J k/\wr=w1) (λi _=>12-(intOf i).toNat)
 .exact⟨0,Q,rfl,rfl⟩
 ·
  obtain⟨k,hk,rfl,hw⟩:=hrel;have hw:=hw.symm;subst hw;by_cases hlt:k<12
  .have⟨s,hs,_⟩:=HR.out k hlt
   have Kg:(k:Int)<12:=Q;cases hb:(s.toList==t.toList)with
   |true=>
    go_wp2;go_ret;exact⟨(k:Int)+1,RP,Q,Q,hb1⟩
   |false=>
    go_wp2;go_roundw
    .exact⟨k+1,Q,RP,trivial⟩
    .simp[intOf]<;>omega
  .have Kg:¬(k:Int)<12:=Q
   go_wp2;go_ret;exact⟨0,rfl,Q,Q,hb1⟩
structure Strs(w:World)(base:Nat)(v:Value)(n K:Nat):Prop where
 ex:∃L:List ByteArray,L.length=n/\w.ownsRow base 9 1 v L.length (L.map Value.string)/\∀x∈L,x.size<=K
theorem vfu:∃i:TypeInfo,Tryz.prog.info? 9=some i/\i.zero=some (Rn)/\i.size=1/\i.bytes=16:=⟨_,rfl,rfl,rfl,rfl⟩
theorem vcF{e:TypeId}{size:Nat}{xs:List Value}(h:w.ownsRow base e size v n xs):∀k,v.ownBlock=some k->base<=k:=λk hk=>(World.ownsRow.lt h k hk).1
theorem vcN{L:List ByteArray}{x:ByteArray}(h:w.ownsRow base 9 1 v (L.length+1) (L.map Value.string++[I x]))(hL:∀y∈L,y.size<=K)(hx:x.size<=K):Strs w base v (L.length+1) K:=
 ⟨L++[x],M,by simpa using h,λy hy=>by simp at hy;rcases hy with hy|rfl;exact hL y hy;exact hx⟩
structure vgO(w:World)(e:Ending)(w':World):Prop where
 ex:∃v n,e=V v/\n<=8001/\Strs w' w.heap.size v n 8000/\Bw w w'
theorem ext_size(s:ByteArray)(i j:Nat):(s.extract i j).size<=s.size:=by rw[ByteArray.size_extract];omega
theorem Strs.mono{vMM:Nat}(h:Strs w base v n K)(hk:K<=vMM):Strs w base v n vMM:=by
 have⟨L,h1,h2,h3⟩:=h.ex;exact⟨L,h1,h2,λx hx=>Nat.le_trans (h3 x hx) hk⟩
theorem vex(c:Int)(s:ByteArray)(w:World)(hs:s.size<=8000):
  C 112 #[I s,.int .u8 c] w λe w'=>∃v n,e=V v/\1<=n/\n<=8001/\Strs w' w.heap.size v n s.size/\Bw w w':=by
 have⟨i0,hi,aG,aH,aF⟩:=vfu;unfold C;go_in;go_wp2;go_loopw [5,6,7] (λv f i wr=>∃(k n m:Nat),k<=s.size/\i=J k/\f=J m/\m<=k/\n<=k/\Strs wr w.heap.size v n s.size/\Bw w wr) (λ_ _ i _=>s.size-(intOf i).toNat)
 .exact⟨0,0,0,Q,rfl,rfl,Q,Q,⟨[],rfl,ja5 _ _ _,(λx hx=>by simp at hx)⟩,ZA _ _⟩
 ·
  obtain⟨k,n,f,hk,rfl,rfl,hf,hn,ei,hB⟩:=hrel;obtain⟨o,rfl,ai,ho⟩:=ei.ex;have qC:=hid ho;have L6:∀i j,(s.extract i j).size<=s.size:=λi j=>ext_size s i j
  have Hm:=hid L6;have hsz:=hB.size;clear ei ho L6;by_cases hlt:k<s.size
  .by_cases hc:((s[k].toNat:Int)==c)=true
   .skip
    go_wp2_with (first
     |(at_builtin;refine wpList_append_own _ rfl _ _ 92 rfl w.heap.size 9 i0 (.string ⟨#[]⟩) 1 16 Tryz.underlying92 hi aG aH aF rfl RN _ _ _ rfl (ai.alloc _) ⟨wr.heap.size,0,none⟩ 1 1 [.string (s.extract f k)] rfl rfl ?c1 ?c2 ?c3 ?c4 ?c5 ?_)
     |fail)
    case c1=>exact cell_one_new _ _ _
    case c2=>intro u hu;simp at hu;subst hu;rfl
    case c3=>unfold maxLen;omega
    case c4=>omega
    case c5=>simp;omega
    .intro v' w1 ao af _
     have aj:Bw w w1:=(hB.alloc hB.size _).grown af (by have:=hB.size;simp;omega) (vcF ai);have HO:Hid (Strs w1 w.heap.size v' (o.length+1) s.size):=vcN (by simpa using ao) qC.out (Hm.out f k);clear af ao ai;go_wp2;go_roundw
     .exact⟨k+1,o.length+1,k+1,Q,RP,RP,Q,Q,HO.out,aj⟩
     .simp[intOf]<;>omega
   .have uP:((s[k].toNat:Int)==c)=false:=by simpa using hc
    have HO:Hid (Strs wr w.heap.size _ o.length s.size):=⟨o,rfl,ai,qC.out⟩;clear hc ai;go_wp2;go_roundw
    .exact⟨k+1,o.length,f,Q,RP,rfl,Q,Q,HO.out,hB⟩
    .simp[intOf]<;>omega
  .have e:k=s.size:=Q
   subst e
   go_wp2_with (first
    |(at_builtin;refine wpList_append_own _ rfl _ _ 92 rfl w.heap.size 9 i0 (.string ⟨#[]⟩) 1 16 Tryz.underlying92 hi aG aH aF rfl RN _ _ _ rfl (ai.alloc _) ⟨wr.heap.size,0,none⟩ 1 1 [.string (s.extract f s.size)] rfl rfl ?c1 ?c2 ?c3 ?c4 ?c5 ?_)
    |fail)
   case c1=>exact cell_one_new _ _ _
   case c2=>intro u hu;simp at hu;subst hu;rfl
   case c3=>unfold maxLen;omega
   case c4=>omega
   case c5=>simp;omega
   .intro v' w1 ao af _
    have aj:Bw w w1:=(hB.alloc hB.size _).grown af (by have:=hB.size;simp;omega) (vcF ai);have HO:Hid (Strs w1 w.heap.size v' (o.length+1) s.size):=vcN (by simpa using ao) qC.out (Hm.out f s.size);clear af ao ai;go_wp2;go_ret;exact⟨_,_,rfl,Q,Q,HO.out,aj⟩
theorem vjn(s:ByteArray)(w:World)(hs:s.size<=8000):
  C 113 #[I s] w λe w'=>vgO w e w':=by
 have⟨i0,hi,aG,aH,aF⟩:=vfu;unfold C;go_in;go_wp2;go_loopw [3,4,5] (λv x i wr=>∃(k n:Nat) (t:ByteArray),k<=s.size+1/\i=J k/\x=I t/\t.size<=k/\n<=k/\Strs wr w.heap.size v n 8000/\Bw w wr) (λ_ _ i _=>s.size+1-(intOf i).toNat)
 .exact⟨0,0,⟨#[]⟩,Q,rfl,rfl,ZD _,Q,⟨[],rfl,ja5 _ _ _,(λx hx=>by simp at hx)⟩,ZA _ _⟩
 ·
  obtain⟨k,n,t,hk,rfl,rfl,ht,hn,ei,hB⟩:=hrel;obtain⟨o,rfl,ai,ho⟩:=ei.ex;have qC:=hid ho;have tr:Hid (Strs wr w.heap.size _ o.length 8000):=⟨o,rfl,ai,ho⟩;have hsz:=hB.size;clear ei ho;by_cases MV:k=s.size+1
  .have h1:¬(k:Int)<=(s.size:Int):=Q
   clear ai;go_wp2;go_ret;exact⟨⟨_,_,rfl,Q,tr.out,hB⟩⟩
  .have h1:(k:Int)<=(s.size:Int):=Q
   by_cases iL:k=s.size
   .subst iL
    cases hx:t.toList.isEmpty with
    |true=>
     clear ai;go_wp2;go_roundw
     .exact⟨s.size+1,o.length,⟨#[]⟩,Q,RP,rfl,Nat.zero_le _,Q,tr.out,hB⟩
     .simp[intOf]<;>omega
    | false=>
     go_wp2_with (first
      |(at_builtin;refine wpList_append_own _ rfl _ _ 92 rfl w.heap.size 9 i0 (.string ⟨#[]⟩) 1 16 Tryz.underlying92 hi aG aH aF rfl RN _ _ _ rfl (ai.alloc _) ⟨wr.heap.size,0,none⟩ 1 1 [.string (t)] rfl rfl ?c1 ?c2 ?c3 ?c4 ?c5 ?_)
      |fail)
     case c1=>exact cell_one_new _ _ _
     case c2=>intro u hu;simp at hu;subst hu;rfl
     case c3=>unfold maxLen;omega
     case c4=>omega
     case c5=>simp;omega
     .intro v' w1 ao af _
      have aj:Bw w w1:=(hB.alloc hB.size _).grown af (by have:=hB.size;simp;omega) (vcF ai);have HO:Hid (Strs w1 w.heap.size v' (o.length+1) 8000):=vcN (by simpa using ao) qC.out Q;clear af ao ai;go_wp2;go_roundw
      .exact⟨s.size+1,o.length+1,⟨#[]⟩,Q,RP,rfl,Nat.zero_le _,Q,HO.out,aj⟩
      .simp[intOf]<;>omega
   .have hlt:k<s.size:=Q
    have az:¬(k:Int)=(s.size:Int):=Q;by_cases fw:((s[k].toNat:Int)==35)=true
    .have e3:(s[k].toNat:Int)=35:=by simpa using fw
     have aX:((s[k].toNat:Int)==32)=false:=by rw[e3];rfl
     have cU:((s[k].toNat:Int)==9)=false:=by rw[e3];rfl
     clear e3;cases hx:t.toList.isEmpty with
     |true=>
      clear ai;go_wp2;go_ret;exact⟨⟨_,_,rfl,Q,tr.out,hB⟩⟩
     | false=>
      go_wp2_with (first
       |(at_builtin;refine wpList_append_own _ rfl _ _ 92 rfl w.heap.size 9 i0 (.string ⟨#[]⟩) 1 16 Tryz.underlying92 hi aG aH aF rfl RN _ _ _ rfl (ai.alloc _) ⟨wr.heap.size,0,none⟩ 1 1 [.string (t)] rfl rfl ?c1 ?c2 ?c3 ?c4 ?c5 ?_)
       |fail)
      case c1=>exact cell_one_new _ _ _
      case c2=>intro u hu;simp at hu;subst hu;rfl
      case c3=>unfold maxLen;omega
      case c4=>omega
      case c5=>simp;omega
      .intro v' w1 ao af _
       have aj:Bw w w1:=(hB.alloc hB.size _).grown af (by have:=hB.size;simp;omega) (vcF ai);have HO:Hid (Strs w1 w.heap.size v' (o.length+1) 8000):=vcN (by simpa using ao) qC.out Q;clear af ao ai;go_wp2;go_ret;exact⟨⟨_,_,rfl,Q,HO.out,aj⟩⟩
    .have MR:((s[k].toNat:Int)==35)=false:=by simpa using fw
     clear fw;by_cases aX:((s[k].toNat:Int)==32)=true
     .skip
      cases hx:t.toList.isEmpty with
      |true=>
       clear ai;go_wp2;go_roundw
       .exact⟨k+1,o.length,⟨#[]⟩,Q,RP,rfl,Nat.zero_le _,Q,tr.out,hB⟩
       .simp[intOf]<;>omega
      | false=>
       go_wp2_with (first
        |(at_builtin;refine wpList_append_own _ rfl _ _ 92 rfl w.heap.size 9 i0 (.string ⟨#[]⟩) 1 16 Tryz.underlying92 hi aG aH aF rfl RN _ _ _ rfl (ai.alloc _) ⟨wr.heap.size,0,none⟩ 1 1 [.string (t)] rfl rfl ?c1 ?c2 ?c3 ?c4 ?c5 ?_)
        |fail)
       case c1=>exact cell_one_new _ _ _
       case c2=>intro u hu;simp at hu;subst hu;rfl
       case c3=>unfold maxLen;omega
       case c4=>omega
       case c5=>simp;omega
       .intro v' w1 ao af _
        have aj:Bw w w1:=(hB.alloc hB.size _).grown af (by have:=hB.size;simp;omega) (vcF ai);have HO:Hid (Strs w1 w.heap.size v' (o.length+1) 8000):=vcN (by simpa using ao) qC.out Q;clear af ao ai;go_wp2;go_roundw
        .exact⟨k+1,o.length+1,⟨#[]⟩,Q,RP,rfl,Nat.zero_le _,Q,HO.out,aj⟩
        .simp[intOf]<;>omega
     .have MN:((s[k].toNat:Int)==32)=false:=by simpa using aX
      clear aX;by_cases cU:((s[k].toNat:Int)==9)=true
      .skip
       cases hx:t.toList.isEmpty with
       |true=>
        clear ai;go_wp2;go_roundw
        .exact⟨k+1,o.length,⟨#[]⟩,Q,RP,rfl,Nat.zero_le _,Q,tr.out,hB⟩
        .simp[intOf]<;>omega
       | false=>
        go_wp2_with (first
         |(at_builtin;refine wpList_append_own _ rfl _ _ 92 rfl w.heap.size 9 i0 (.string ⟨#[]⟩) 1 16 Tryz.underlying92 hi aG aH aF rfl RN _ _ _ rfl (ai.alloc _) ⟨wr.heap.size,0,none⟩ 1 1 [.string (t)] rfl rfl ?c1 ?c2 ?c3 ?c4 ?c5 ?_)
         |fail)
        case c1=>exact cell_one_new _ _ _
        case c2=>intro u hu;simp at hu;subst hu;rfl
        case c3=>unfold maxLen;omega
        case c4=>omega
        case c5=>simp;omega
        .intro v' w1 ao af _
         have aj:Bw w w1:=(hB.alloc hB.size _).grown af (by have:=hB.size;simp;omega) (vcF ai);have HO:Hid (Strs w1 w.heap.size v' (o.length+1) 8000):=vcN (by simpa using ao) qC.out Q;clear af ao ai;go_wp2;go_roundw
         .exact⟨k+1,o.length+1,⟨#[]⟩,Q,RP,rfl,Nat.zero_le _,Q,HO.out,aj⟩
         .simp[intOf]<;>omega
      .have MQ:((s[k].toNat:Int)==9)=false:=by simpa using cU
       clear cU ai;go_wp2;go_roundw
       .exact⟨k+1,o.length,_,Q,RP,rfl,by rw[ByteArray.size_append,ByteArray.size_extract];omega,Q,tr.out,hB⟩
       .simp[intOf]<;>omega
theorem Strs.cell(h:Strs w base v n K){i:Nat}(hi:i<n):∃g c x,v=so g n c/\w.cell? (O g i)=some (I x)/\x.size<=K:=by
 obtain⟨L,rfl,h2,h3⟩:=h.ex;have hx:L[i]? =some L[i]:=ZV hi;rcases h2.2 with⟨_,h⟩|⟨g,c,cur,rfl,_⟩
 .omega
 .refine⟨g,c,L[i],rfl,?_,h3 _ (List.getElem_mem hi)⟩
  have:=h2.cells (g:=g) rfl i (I L[i]) (by rw[Z8,hx];rfl);rw[vby,Nat.zero_add]at this;exact this
theorem vhK(n lo hi:Int)(w:World):C 31 #[J n,J lo,J hi] w λe w'=>∃b:Bool,e=V (.bool b)/\w'=w:=by
 by_cases h:lo<=n/\n<=hi
 .exact(jnb n lo hi w h.1 h.2).mono λe w' h=>⟨true,h⟩
 .exact(jnc n lo hi w Q).mono λe w' h=>⟨false,h⟩
theorem vcL(s:ByteArray)(w:World)(hs:s.size<=8000):
  C 183 #[I s] w λe w'=>(∃n b,e=V (.tuple #[J n,.bool b])/\(b=true->0<s.size))/\Bw w w':=by
 by_cases hm:s.toList==[45]
 .have hp:0<s.size:=by
   have h:=eq_of_beq hm;rw[ByteArray.toList_eq]at h;have h1:s.data.toList.length=1:=by rw[h];rfl
   rw[Array.length_toList]at h1
   show 0<s.data.size
   omega
  unfold C;go_in;go_wp2;go_ret2;exact⟨⟨_,_,rfl,λ_=>hp⟩,ZU _ _⟩
 have gb:(s.toList==[45])=false:=by simpa using hm
 unfold C;go_in;go_upto_region 3 with fail
 go_cut [4]from 11 to 18 (λs4 wx=>∃b,s4=.bool b/\wx=w/\(b=true->0<s.size))
 case first=>
  by_cases h0:0<s.size
  .have g0:(0:Int)<(s.size:Int):=Q
   by_cases hc:((s[0].toNat:Int)==45)=true
   .go_wp2
    go_meet;exact⟨_,rfl,rfl,λ_=>h0⟩
   .have uP:((s[0].toNat:Int)==45)=false:=by simpa using hc
    go_wp2;go_meet;exact⟨_,rfl,rfl,λ_=>h0⟩
  .have g0:¬(0:Int)<(s.size:Int):=Q
   go_wp2;go_meet;exact⟨_,rfl,rfl,λh=>by simp at h⟩
 case rest=>
 obtain⟨b4,rfl,uG,aD⟩:=hcut;have uG:=uG.symm;subst uG;cases b4
 case' true=>
  have xc:=aD rfl;have uc:(1:Int)<=(s.size:Int):=Q;have ht:=Nat.le_trans (ext_size s 1 s.size) hs;have gc:s.size=0->(s.extract 1 s.size).size=0:=λh=>Q
  have hS:=vex 58 (s.extract 1 s.size) w ht;generalize (s.extract 1 s.size).size=tz at *
 case' false=>
  have ht:=hs;have gc:s.size=0->s.size=0:=λh=>h
  have hS:=vex 58 s w hs;have⟨tz,jc⟩:=ZL s.size;have gc:s.size=0->tz=0:=λh=>Q
  have ht:tz<=8000:=Q;rw[jc]at hS;clear jc
 all_goals
  go_wp2_with fail;refine hS.mono ?_;rintro e w1 ⟨v,n,rfl,n1,n2,ei,hb1⟩;obtain⟨g,c,x0,rfl,c0,z0⟩:=ei.cell (i:=0) Q;have ED:=hid ei;clear hS ei;by_cases h3:3<n
  .have g3:(3:Int)<(n:Int):=Q
   go_wp2;go_ret2;exact⟨⟨_,_,rfl,λh=>by cases h⟩,hb1⟩
  have g3:¬(3:Int)<(n:Int):=Q;have p0:(0:Int)<(n:Int):=Q;by_cases h4:3<x0.size
  .have g4:(3:Int)<(x0.size:Int):=Q
   go_wp2;go_ret2;exact⟨⟨_,_,rfl,λh=>by cases h⟩,hb1⟩
  have g4:¬(3:Int)<(x0.size:Int):=Q;go_wp2;clear c0 z0 h4 g4;go_loopw [6,7,8] (λs6 s7 _ wr=>∃(m:Int) (i:Nat),i<=n/\s6=J m/\s7=J i/\(s.size=0->i=0)/\Bw w1 wr) (λ_ s7 _ _=>n-(intOf s7).toNat)
  .exact⟨0,0,Q,rfl,rfl,λ_=>rfl,ZU _ _⟩
  ·
   have⟨wa,dS⟩:=wL wr;subst dS;obtain⟨m,i,hi,rfl,rfl,ub,aK⟩:=hrel;have ki:=Zp hb1 aK;by_cases hlt:i<n
   .have a1:(i:Int)<(n:Int):=Q
    have a0:(0:Int)<=(i:Int):=Q;have⟨g',c',x,he,ci,zi⟩:=ED.out.cell (i:=i) hlt;injection he with mD he2 iI
    injection mD with mD
    injection mD with mD
    subst mD;clear he2 iI;have ci:=YR aK ci;have hD:=vgc x wa (Nat.le_trans zi ht);have kc:s.size=0->ldM x<0:=λh=>by rw[vhO x (by have:=gc h;omega)];omega
    generalize ldM x=k at *;go_wp2_with fail;refine hD.mono ?_;rintro e w2 ⟨rfl,hw⟩;have hw:=hw.symm;subst hw;clear hD;by_cases hk:k<0
    .go_wp2
     go_ret2;exact⟨⟨_,_,rfl,λh=>by cases h⟩,ki⟩
    have dP:s.size≠0:=λh=>hk (kc h)
    clear kc;have RE:i=0\/i=1\/i=2:=Q;by_cases hg:0<i/\(x.size≠2\/59<k)
    .have q0:(0:Int)<(i:Int):=Q
     by_cases h2:x.size=2
     .have q1:((x.size:Int)==2)=true:=RO
      have q2:(59:Int)<k:=Q;go_wp2;go_ret2;exact⟨⟨_,_,rfl,λh=>by cases h⟩,ki⟩
     .have q1:((x.size:Int)==2)=false:=RO
      go_wp2;go_ret2;exact⟨⟨_,_,rfl,λh=>by cases h⟩,ki⟩
    have b3:=ZA wa (G #[J 3600,J 60,J 1] 2);have cI:(wa.alloc (G #[J 3600,J 60,J 1] 2)).cell? (O wa.heap.size i)=some (J (([3600,60,1]:List Int).getD i 0)):=vc9 wa 2 [3600,60,1] i RO;generalize ([3600,60,1]:List Int).getD i 0=f at *;have q3:(i:Int)<3:=Q;by_cases Az:0<i
    .have q0:(0:Int)<(i:Int):=Q
     have q1:((x.size:Int)==2)=true:=RO;have q2:¬(59:Int)<k:=Q;go_wp2;go_roundw
     .exact⟨_,i+1,Q,rfl,RP,λh=>absurd h dP,(Zp aK b3)⟩
     .simp[intOf];omega
    .have q0:¬(0:Int)<(i:Int):=Q
     go_wp2;go_roundw
     .exact⟨_,i+1,Q,rfl,RP,λh=>absurd h dP,(Zp aK b3)⟩
     .simp[intOf];omega
   .have a1:¬(i:Int)<(n:Int):=Q
    have hp:0<s.size:=by
     rcases Nat.eq_zero_or_pos s.size with h|h
     .have:=ub h;omega
     .exact h
    go_wp2_with fail;refine(vhK _ _ _ _).mono ?_;rintro e w2 ⟨b,rfl,hw⟩;have hw:=hw.symm;subst hw;go_wp2;go_ret2;exact⟨⟨_,_,rfl,λ_=>hp⟩,ki⟩
structure vgL(w:World)(e:Ending)(w':World):Prop where
 ex:∃n f b,e=V (.tuple #[J n,I f,.bool b])/\f.size<=8000/\Bw w w'
theorem vfJ(s:ByteArray)(i j:Nat)(hs:s.size<=8000):(s.extract i j).size<=8000:=by rw[ByteArray.size_extract];omega
theorem vep(s:ByteArray)(w:World)(hs:s.size<=8000):C 187 #[I s] w λe w'=>vgL w e w':=by
 by_cases h0:s.size=0
 .have hO:=vcL s w hs
  have hg:¬(0:Int)<(s.size:Int):=Q;unfold C;go_in;go_wp2_with fail;refine hO.mono ?_;rintro e w1 ⟨⟨n,b,rfl,bg⟩,hb⟩;obtain rfl:b=false:=by cases b with|false=>rfl|true=>exact absurd (bg rfl) Q
  clear hO bg;go_wp2_with fail;go_quiet (fail);go_wp2;go_ret3;exact⟨⟨_,_,_,rfl,RN,below_drewN hb _⟩⟩
 .have hg:(0:Int)<(s.size:Int):=Q
  have hz:=vfJ s (s.size-1) s.size hs;have hF:=jku (s.extract (s.size-1) s.size) w;cases hof:ofB (s.extract (s.size-1) s.size)
  all_goals
   rw[hof]at hF;have hO:=vcL s w hs;have aW:=vcL (s.extract 0 (s.size-1)) w (vfJ s _ _ hs);unfold C;go_in;go_wp2_with fail;refine hF.mono ?_;rintro e w1 ⟨rfl,hw⟩;have hw:=hw.symm;subst hw;go_wp2_with fail
   first|with_reducible refine hO.mono ?_|with_reducible refine aW.mono ?_
   rintro e w1 ⟨⟨n,b,rfl,hp⟩,hb⟩;clear hO aW hF;generalize s.extract 0 (s.size-1)=t at *;cases b
   all_goals
    try replace hp:=hp rfl
    go_wp2_with fail;go_quiet (fail);go_wp2;go_ret3;exact⟨⟨_,_,_,rfl,by first|decide|exact hz,below_drewN hb _⟩⟩
structure vas(w:World)(b o n:Nat):Prop where
 ex:∀k,k<n->∃s:ByteArray,w.cell? (O b (o+k))=some (I s)/\s.size<=8000
theorem vas.below(h:vas w b o n)(hb:Bw w w'):vas w' b o n:=
 ⟨λk hk=>by have⟨s,h1,h2⟩:=h.ex k hk;exact⟨s,(Z7 hb h1 h1),h2⟩⟩
theorem Z6{x:Value}(h:w1.cell? (O b o)=some x)(hb:Bw w1 w2):w2.cell? (O b o)=some x:=Z7 hb h h
theorem jlv(n:Int)(w:World):
  C 61 #[J n] w λe w'=>e=V (.bool (ZX n (-62135596800) 253402300799))/\w'=w:=by
 unfold C;go_in;go_wp2_with (go_at_call 31;refine(jau _ _ _ _).mono ?_;rintro e w' ⟨rfl,rfl⟩);go_ret;exact⟨rfl,rfl⟩
structure vci(w:World)(e:Ending)(w':World):Prop where
 ex:∃n f b,e=V (.tuple #[J n,I f,.bool b])/\f.size<=8000/\Bw w w'
theorem vdK{y m:Int}(h1:0<y)(h2:y<=9999)(h3:0<m)(h4:m<=12):Ng y m=true:=rT ⟨Q,h2,Q,h4⟩
theorem vat(h:Bw w w1)(h2:Bw w1 w2):Bw w w2:=Zp h h2
theorem vdI(n:Int)(w:World):C 61 #[J n] w λe w'=>∃b,e=V (.bool b)/\w'=w:=(jlv n w).mono λ_ _ h=>⟨_,h.1,h.2⟩
theorem viq(b o cap:Nat)(w:World)(hW:vas w b o 1):
  C 184 #[U (some (O b o)) 1 cap] w λe w'=>vci w e w':=by
 have⟨s0,c0,z0⟩:=hW.ex 0 Q;rw[Nat.add_zero]at c0;clear hW;unfold C;go_in;go_wp2_with fail;refine(vcH s0 _ z0).mono ?_;rintro e w1 ⟨y,rfl,y1,y2,hw⟩;have hw:=hw.symm;subst hw;by_cases hy:0<y
 .skip
  have mR:=vdK (y:=y) (m:=1) hy y2 Q Q;go_wp2_with fail;refine(jkw y 1 ⟨#[49]⟩ _ mR RN).mono ?_;rintro e wD ⟨rfl,hbD⟩;generalize M0 y 1 ⟨#[49]⟩=D at *;by_cases hD:D= -1000000
  .subst hD
   go_wp2;go_ret3;exact⟨⟨_,_,_,rfl,RN,vat (ZU _ _) hbD⟩⟩
  .have F6:(D != -1000000)=true:=by simpa using hD
   go_wp2_with fail;refine(vdI _ _).mono ?_;rintro e wT ⟨bt,rfl,la⟩;have la:=la.symm;subst la;cases bt
   all_goals
    go_wp2;go_ret3;exact⟨⟨_,_,_,rfl,RN,vat (ZU _ _) hbD⟩⟩
 .skip
  go_wp2;go_ret3;exact⟨⟨_,_,_,rfl,RN,ZU _ _⟩⟩
theorem vir(b o cap:Nat)(w:World)(hW:vas w b o 2):
  C 184 #[U (some (O b o)) 2 cap] w λe w'=>vci w e w':=by
 have⟨s0,c0,z0⟩:=hW.ex 0 Q;rw[Nat.add_zero]at c0;have⟨s1,c1,z1⟩:=hW.ex 1 Q;clear hW;unfold C;go_in;go_wp2_with fail;refine(vcH s0 _ z0).mono ?_;rintro e w1 ⟨y,rfl,y1,y2,hw⟩;have hw:=hw.symm;subst hw;go_wp2_with fail;refine(vda s1 _).mono ?_;rintro e w2 ⟨m,rfl,m1,m2,ac⟩;by_cases hy:0<y
 .skip
  by_cases hm:m=0
  .subst hm
   go_wp2;go_ret3;exact⟨⟨_,_,_,rfl,RN,ac⟩⟩
  .have gb:(m==0)=false:=by simpa using hm
   have mR:=vdK (y:=y) (m:=m) hy y2 Q Q;go_wp2_with fail;refine(jkw y m ⟨#[49]⟩ _ mR RN).mono ?_;rintro e wD ⟨rfl,hbD⟩;generalize M0 y m ⟨#[49]⟩=D at *;by_cases hD:D= -1000000
   .subst hD
    go_wp2;go_ret3;exact⟨⟨_,_,_,rfl,RN,vat (ac) hbD⟩⟩
   .have F6:(D != -1000000)=true:=by simpa using hD
    go_wp2_with fail;refine(vdI _ _).mono ?_;rintro e wT ⟨bt,rfl,la⟩;have la:=la.symm;subst la;cases bt
    all_goals
     go_wp2;go_ret3;exact⟨⟨_,_,_,rfl,RN,vat (ac) hbD⟩⟩
 .skip
  go_wp2;go_ret3;exact⟨⟨_,_,_,rfl,RN,ac⟩⟩
theorem vis(b o cap:Nat)(w:World)(hW:vas w b o 3):
  C 184 #[U (some (O b o)) 3 cap] w λe w'=>vci w e w':=by
 have⟨s0,c0,z0⟩:=hW.ex 0 Q;rw[Nat.add_zero]at c0;have⟨s1,c1,z1⟩:=hW.ex 1 Q;have⟨s2,c2,z2⟩:=hW.ex 2 Q;clear hW;unfold C;go_in;go_wp2_with fail;refine(vcH s0 _ z0).mono ?_;rintro e w1 ⟨y,rfl,y1,y2,hw⟩;have hw:=hw.symm;subst hw;go_wp2_with fail;refine(vda s1 _).mono ?_;rintro e w2 ⟨m,rfl,m1,m2,ac⟩;have c2:=Z6 c2 ac;by_cases hy:0<y
 .skip
  by_cases hm:m=0
  .subst hm
   go_wp2;go_ret3;exact⟨⟨_,_,_,rfl,RN,ac⟩⟩
  .have gb:(m==0)=false:=by simpa using hm
   have mR:=vdK (y:=y) (m:=m) hy y2 Q Q;go_wp2_with fail;refine(jkw y m s2 _ mR Q).mono ?_;rintro e wD ⟨rfl,hbD⟩;generalize M0 y m s2=D at *;by_cases hD:D= -1000000
   .subst hD
    go_wp2;go_ret3;exact⟨⟨_,_,_,rfl,RN,vat (ac) hbD⟩⟩
   .have F6:(D != -1000000)=true:=by simpa using hD
    go_wp2_with fail;refine(vdI _ _).mono ?_;rintro e wT ⟨bt,rfl,la⟩;have la:=la.symm;subst la;cases bt
    all_goals
     go_wp2;go_ret3;exact⟨⟨_,_,_,rfl,RN,vat (ac) hbD⟩⟩
 .skip
  go_wp2;go_ret3;exact⟨⟨_,_,_,rfl,RN,ac⟩⟩
theorem vit(b o cap:Nat)(w:World)(hW:vas w b o 4):
  C 184 #[U (some (O b o)) 4 cap] w λe w'=>vci w e w':=by
 have⟨s0,c0,z0⟩:=hW.ex 0 Q;rw[Nat.add_zero]at c0;have⟨s1,c1,z1⟩:=hW.ex 1 Q;have⟨s2,c2,z2⟩:=hW.ex 2 Q;have⟨s3,c3,z3⟩:=hW.ex 3 Q;clear hW;unfold C;go_in;go_wp2_with fail;refine(vcH s0 _ z0).mono ?_;rintro e w1 ⟨y,rfl,y1,y2,hw⟩;have hw:=hw.symm;subst hw;go_wp2_with fail;refine(vda s1 _).mono ?_;rintro e w2 ⟨m,rfl,m1,m2,ac⟩;have c2:=Z6 c2 ac;have c3:=Z6 c3 ac;go_wp2_with fail;refine(vep s3 _ z3).mono ?_;rintro e w3 hP;obtain⟨nt,ft,bb,rfl,zf,ar⟩:=hP.ex;by_cases hy:0<y
 .skip
  cases bb with
  |false=>
   go_wp2;go_ret3;exact⟨⟨_,_,_,rfl,zf,vat ac ar⟩⟩
  |true=>
   by_cases hm:m=0
   .subst hm
    go_wp2;go_ret3;exact⟨⟨_,_,_,rfl,zf,vat ac ar⟩⟩
   .have gb:(m==0)=false:=by simpa using hm
    have mR:=vdK (y:=y) (m:=m) hy y2 Q Q;go_wp2_with fail;refine(jkw y m s2 _ mR Q).mono ?_;rintro e wD ⟨rfl,hbD⟩;generalize M0 y m s2=D at *;by_cases hD:D= -1000000
    .subst hD
     go_wp2;go_ret3;exact⟨⟨_,_,_,rfl,zf,vat (vat ac ar) hbD⟩⟩
    .have F6:(D != -1000000)=true:=by simpa using hD
     go_wp2_with fail;refine(vdI _ _).mono ?_;rintro e wT ⟨bt,rfl,la⟩;have la:=la.symm;subst la;cases bt
     all_goals
      go_wp2;go_ret3;exact⟨⟨_,_,_,rfl,zf,vat (vat ac ar) hbD⟩⟩
 .skip
  go_wp2;go_ret3;exact⟨⟨_,_,_,rfl,zf,vat ac ar⟩⟩
theorem viu(b o n cap:Nat)(w:World)(hn:5<=n)(gF:n<=8001)(hW:vas w b o n):
  C 184 #[U (some (O b o)) n cap] w λe w'=>vci w e w':=by
 have⟨s0,c0,z0⟩:=hW.ex 0 Q;rw[Nat.add_zero]at c0;have⟨s1,c1,z1⟩:=hW.ex 1 Q;have⟨s2,c2,z2⟩:=hW.ex 2 Q;have⟨s3,c3,z3⟩:=hW.ex 3 Q;have g1:(1:Int)<(n:Int):=Q;have g2:(2:Int)<(n:Int):=Q;have g3:(3:Int)<(n:Int):=Q;have g4:(4:Int)<(n:Int):=Q;clear hW;unfold C;go_in;go_wp2_with fail;refine(vcH s0 _ z0).mono ?_;rintro e w1 ⟨y,rfl,y1,y2,hw⟩;have hw:=hw.symm;subst hw;go_wp2_with fail;refine(vda s1 _).mono ?_;rintro e w2 ⟨m,rfl,m1,m2,ac⟩;have c2:=Z6 c2 ac;have c3:=Z6 c3 ac;go_wp2_with fail;refine(vep s3 _ z3).mono ?_;rintro e w3 hP;obtain⟨nt,ft,bb,rfl,zf,ar⟩:=hP.ex;by_cases hy:0<y
 .skip
  cases bb with
  |false=>
   go_wp2;go_ret3;exact⟨⟨_,_,_,rfl,zf,vat ac ar⟩⟩
  | true=>
   by_cases hm:m=0
   .subst hm
    go_wp2;go_ret3;exact⟨⟨_,_,_,rfl,zf,vat ac ar⟩⟩
   .have gb:(m==0)=false:=by simpa using hm
    go_wp2;go_ret3;exact⟨⟨_,_,_,rfl,zf,vat ac ar⟩⟩
 .skip
  go_wp2;go_ret3;exact⟨⟨_,_,_,rfl,zf,vat ac ar⟩⟩
theorem vip(b o n cap:Nat)(w:World)(hn:1<=n)(gF:n<=8001)(hW:vas w b o n):
  C 184 #[U (some (O b o)) n cap] w λe w'=>vci w e w':=by
 by_cases h1:n=1
 .subst h1;exact viq b o cap w hW
 by_cases h2:n=2
 .subst h2;exact vir b o cap w hW
 by_cases h3:n=3
 .subst h3;exact vis b o cap w hW
 by_cases h4:n=4
 .subst h4;exact vit b o cap w hW
 exact viu b o n cap w Q gF hW
