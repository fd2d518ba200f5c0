import Derived.Test.YtbbgeelamjmgaaaGreatDoorQCd
import Derived.Test.YtbbgeelamjmgaaaGreatDoorAHd
set_option maxHeartbeats 0
set_option linter.unusedSimpArgs false
open Go.RowKit
namespace Go.Proofs.YtbbgeelamjmgaaaGreatDoor
variable{l:List ZN}{e x:Ze}{s:ZP}{v:ZN}{i k:Nat}{t:Int}{has:Bool}
theorem vef{id:Int}(h:AY l id=some e):e.id=id:=(jga l).id id e h
theorem vd8{id:Int}(h:AY l id=none):vaD (ZJ l) id=none:=by
 unfold vaD;rw[List.findIdx?_eq_none_iff];intro x hx;refine dfe λhc=>?_
 have:=va8.mp hx;rw[hc,h]at this;cases this
theorem vfg{id:Int}(h:AY l id=some e):∃k,vaD (ZJ l) id=some k/\(ZJ l)[k]? =some e:=by
 have hid:=vef h;have hm:e∈ZJ l:=va8.mpr (by rw[hid];exact h);cases hk:vaD (ZJ l) id with
 |none=>
  unfold vaD at hk;rw[List.findIdx?_eq_none_iff]at hk;have:=hk e hm;simp[hid]at this
 |some k=>
  unfold vaD at hk;have⟨hl,hx,_⟩:=List.findIdx?_eq_some_iff_getElem.mp hk;have hx:=Nb hx;have h2:=va8.mp (List.getElem_mem hl);rw[hx,h]at h2;cases h2
  exact⟨k,rfl,ZV hl⟩
theorem vdu(h:vbN s):(60<=s.vs.length\/900000<=s.tx)↔va6 s=true:=by
 have h1:=h.vl;have h2:=h.tx.2;unfold va6;simp only[Bool.or_eq_true,decide_eq_true_eq];omega
theorem add_same(h:vbN s)(e:Ze):Ou s e true=va4 s e true:=by
 unfold Ou va4;rw[jo6 λx hx=>jzf h.YT h.YS (h.YZ x (vc5 hx)) (h.ev (vc5 hx)).YZ]
theorem vhb(s:ZP)(id:Int):vbw s id=vaB s id:=by
 unfold vbw vaB;rw[<- jkt];by_cases hs:BQ s=true
 .have R:=vag hs
  rw[if_pos hs,if_pos hs];cases hf:AY s.vs id with
  |none=>rw[vd8 hf]
  |some e=>
   have⟨k,hk,kD⟩:=vfg hf;rw[hk];simp only[kD];rw[add_same R];by_cases hx:va6 s=true
   .rw[if_pos hx,if_pos ((vdu R).mpr hx)]
   .rw[if_neg hx,if_neg (λh=>hx ((vdu R).mp h))]
 .rw[if_neg hs,if_neg hs]
theorem vh7(h:vbN s){e:Ze}(he:Lr e=true)(hz:jdv s e.YZ=true):Ou s e false=va4 s e false:=by
 unfold Ou va4;rw[jo6 λx hx=>?_];rcases vdB hx with rfl|hx
 .exact jzf h.YT h.YS hz (jhs he).YZ
 .exact jzf h.YT h.YS (h.YZ x hx) (h.ev hx).YZ
theorem vfS(h:vbN s)(e:Ze)(he:Lr e=true)(hz:jdv s e.YZ=true):(60<=s.vs.length\/900000<=s.tx\/(30<=(ZJ s.vs).length/\vaD (ZJ s.vs) e.id=none))↔vac s e=7:=by
 have h3:=h.ll;have hb:=vdu h;unfold vac;rw[if_pos he,if_pos hz];by_cases hx:va6 s=true
 .rw[if_pos hx]
  exact⟨λ_=>rfl,λ_=>(hb.mpr hx).elim .inl λk=>.inr (.inl k)⟩
 .rw[if_neg hx]
  have hn:¬(60<=s.vs.length\/900000<=s.tx):=λk=>hx (hb.mp k)
  cases hf:AY s.vs e.id with
  | none=>
   rw[vd8 hf];by_cases lm:(ZJ s.vs).length=30
   .simp[lm]
   .simp[lm]
    omega
  |some y=>
   have⟨k,hk,_⟩:=vfg hf;rw[hk];simp;omega
theorem vh6(s:ZP)(e:Ze)(he:Lr e=true)(hz:jdv s e.YZ=true):vac s e=7\/vac s e=0:=by
 unfold vac;rw[if_pos he,if_pos hz];split
 .exact .inl rfl
 .split
  .exact .inr rfl
  .split
   .exact .inl rfl
   .exact .inr rfl
theorem vfT(s:ZP)(e:Ze):va9 s e=vaU s e:=by
 unfold va9 vaU;rw[<- jkt];by_cases hs:BQ s=true
 .have R:=vag hs
  rw[if_pos hs,if_pos hs];by_cases he:Lr e=true
  .rw[if_pos he]
   by_cases hz:jdv s e.YZ=true
   .rw[if_pos hz]
    rcases vh6 s e he hz with h7|h0
    .rw[if_pos ((vfS R e he hz).mpr h7),h7];rfl
    .rw[if_neg (λk=>by have:=(vfS R e he hz).mp k;omega),h0,vh7 R he hz];rfl
   .rw[if_neg hz]
    have:vac s e=5:=by unfold vac;rw[if_pos he,if_neg hz]
    rw[this];rfl
  .rw[if_neg he]
   have:vac s e=1:=by unfold vac;rw[if_neg he]
   rw[this];rfl
 .rw[if_neg hs,if_neg hs]
theorem vgw(t:Int)(g:Bool)(e:Ze):(Gu t g e).ev=e:=rfl
theorem vfQ(h:k<=l.length):jd5 (l++[v]) k=jd5 l k:=by
 cases k with
 |zero=>rfl
 |succ k=>rw[jd5,jd5,N9 Q]
theorem vfe{x:ZN}(h:k<=l.length):jdr (l++[v]) k x=jdr l k x:=by
 unfold jdr;rw[List.take_append_of_le_length h]
theorem vgv{l:List ZN}{v:ZN}{t:Int}:∀{k:Nat},k<=l.length->vaz l t k=true->vaz (l++[v]) (t+1) k=true
 |0,_,_=>rfl
 | k+1,h,hk=>by
  rw[vaz,vB]at hk;rw[vaz,vgv (k:=k) Q hk.1,N9 Q];cases hx:l[k]? with
  |none=>rfl
  |some x=>
   have h2:=hk.2;rw[hx]at h2;simp only[Bool.true_and];unfold vba at h2 ⊢;rw[vfQ Q,vfe Q];simp only[vB,decide_eq_true_eq]at h2 ⊢;exact⟨h2.1,Q,h2.2.2⟩
theorem vjj(h0:0<=t):∀{k:Nat},vaz l t k=true->jd5 l k<=t
 |0,_=>h0
 | k+1,hk=>by
  rw[vaz,vB]at hk;rw[jd5];cases hx:l[k]? with
  |none=>exact h0
  |some x=>
   have h2:=hk.2;rw[hx]at h2;unfold vba at h2;simp only[vB,decide_eq_true_eq]at h2;exact h2.2.1
theorem vjk{g:Bool}(h:va2 l t=true)(h0:0<=t)(hl:l.length<60)(he:Lr e=true)(hg:g=true->AY l e.id=some e):va2 (l++[Gu (t+1) g e]) (t+1)=true:=by
 rw[j1f Q]at h;rw[j1f (by rw[FB,List.length_singleton];omega),FB,List.length_singleton,vaz,vgv (ZD _) h,List.getElem?_append_right (ZD _)];simp only[Nat.sub_self,List.getElem?_cons_zero,Bool.true_and];have h1:=vjj h0 h;unfold vba;rw[vfQ (ZD _),vfe (ZD _),vgw,he];simp only[vB,decide_eq_true_eq,Bool.true_and];refine⟨show jd5 l l.length<t+1 by omega,Int.le_refl _,?_⟩;cases g with
 |false=>rfl
 |true=>
  unfold jdr;rw[List.take_length]
  show(!true || _)=true
  rw[show(Gu (t+1) true e).id=e.id from rfl,hg rfl];simp[je9,vgw]
def vaK(L:List Ze)(id:Int):List Ze:=L.filter λx=> !decide (x.id=id)
theorem vdp{L:List Ze}{id:Int}:x∈vaK L id↔x∈L/\x.id≠id:=by
 unfold vaK;rw[List.mem_filter];simp
theorem veV{L:List Ze}{id:Int}(h:L.Pairwise λx y=>x.id<y.id):(vaK L id).Pairwise λx y=>x.id<y.id:=h.filter _
theorem vfF(l:List ZN)(t:Int)(e:Ze):ZJ (l++[Gu t true e])=vaK (ZJ l) e.id:=by
 refine veD (jhr _) (veV (jhr _)) λx=>?_
 rw[vdp]
 show x∈ZJ _↔_
 rw[va8,jtf,va8]
 show(if e.id=x.id then(if true=true then none else some _)else _)=_↔_
 by_cases h:e.id=x.id
 .rw[if_pos h];simp[h]
 .rw[if_neg h]
  exact⟨λk=>⟨k,λc=>h c.symm⟩,λk=>k.1⟩
theorem vfH(l:List ZN)(t:Int)(e:Ze):ZJ (l++[Gu t false e])=Rc (vaK (ZJ l) e.id) e:=by
 refine veD (jhr _) (j2e (veV (jhr _)) λx hx=>(vdp.mp hx).2) λx=>?_
 rw[veb,vdp]
 show x∈ZJ _↔_
 rw[va8,jtf,va8]
 show(if e.id=x.id then(if false=true then none else some e)else _)=_↔_
 by_cases h:e.id=x.id
 .rw[if_pos h]
  simp only[Bool.false_eq_true,if_false,Option.some.injEq];constructor
  .intro k;exact .inl k.symm
  .rintro(k|k)
   .exact k.symm
   .exact absurd h.symm k.2
 .rw[if_neg h]
  constructor
  .intro k;exact .inr ⟨k,λc=>h c.symm⟩
  .rintro(k|k)
   .exact absurd (congrArg Ze.id k).symm h
   .exact k.1
theorem vd0(L:List Ze)(id:Int):(vaK L id).length<=L.length:=List.length_filter_le _ _
theorem vgX{L:List Ze}{id:Int}(h:x∈L)(hx:x.id=id):(vaK L id).length<L.length:=by
 refine Nat.lt_of_le_of_ne (vd0 L id) λhe=>?_
 have h2:=List.length_filter_eq_length_iff.mp he x h;simp[hx]at h2
theorem vf2{g:Bool}(h:BQ s=true)(h1:s.vs.length<60)(h2:s.tx<900000)(he:Lr e=true)(hg:g=true->AY s.vs e.id=some e)(hl:(ZJ (s.vs++[Gu (s.tx+1) g e])).length<=30)(hz:∀x∈ZJ (s.vs++[Gu (s.tx+1) g e]),jdv s x.YZ=true):BQ (Ou s e g)=true:=by
 have R:=vag h;have hv:=vjk (e:=e) (g:=g) R.ver R.tx.1 h1 he hg;unfold BQ at h ⊢;simp only[vB,List.all_eq_true,decide_eq_true_eq]at h ⊢;refine⟨h.1,h.2.1,jma (show 0<=s.tx+1 by have:=R.tx.1;omega) (show s.tx+1<=900000 by omega),hv,h.2.2.2.2.1,h.2.2.2.2.2.1,hl,hz,vcZ.mpr rfl⟩
theorem vh9(h:(vaU s e).2=0):wZ s=true/\(vaU s e).1=Ou s e false/\wZ (Ou s e false)=true:=by
 rw[<- vfT]at h ⊢;unfold va9 at h ⊢;by_cases hs:BQ s=true
 .rw[if_pos hs]at h ⊢
  by_cases he:Lr e=true
  .rw[if_pos he]at h ⊢
   by_cases hz:jdv s e.YZ=true
   .rw [if_pos hz]at h ⊢
    split at h
    .cases h
    .rename_i hn
     rw[if_neg hn];have R:=vag hs;refine⟨jkt s ▸ hs,rfl,jkt (Ou s e false) ▸ vf2 hs Q Q he (λc=>by cases c) ?_ λx hx=>?_⟩
     .rw[vfH,vbU]
      have hr:=R.ll;cases hf:AY s.vs e.id with
      |none=>
       have:=vd8 hf;have:=vd0 (ZJ s.vs) e.id;simp only[*,and_true]at hn;omega
      |some y=>
       have hy:=vef hf;have:=vgX (id:=e.id) (va8.mpr (show AY s.vs y.id=some y by rw[hy];exact hf)) hy;omega
     .rcases vdB hx with rfl|hx
      .exact hz
      .exact R.YZ x hx
   .rw[if_neg hz]at h;cases h
  .rw[if_neg he]at h;cases h
 .rw[if_neg hs]at h;cases h
theorem vha{id:Int}(h:(vaB s id).2=0):∃e,e.id=id/\wZ s=true/\(vaB s id).1=Ou s e true/\wZ (Ou s e true)=true:=by
 have hd:=h;unfold vaB at h ⊢;by_cases hs:wZ s=true
 .rw [if_pos hs]at h ⊢
  have Cw:BQ s=true:=jkt s ▸ hs;have R:=vag Cw;cases hf:AY s.vs id with
  |none=>rw[hf]at h;cases h
  |some e=>
   rw[hf]at h;simp only at h ⊢;by_cases hx:va6 s=true
   .rw[if_pos hx]at h;cases h
   .rw[if_neg hx]
    have hi:=vef hf;have hm:e∈ZJ s.vs:=va8.mpr (by rw[hi];exact hf);have hn:¬(60<=s.vs.length\/900000<=s.tx):=λk=>hx ((vdu R).mp k)
    refine⟨e,hi,hs,(add_same R e).symm,jkt (Ou s e true) ▸ vf2 Cw Q Q ?_ (λ_=>by rw[hi];exact hf) ?_ λx hx=>R.YZ x (vc5 hx)⟩
    .obtain⟨v,hv,rfl⟩:=jl5 hm
     exact jfk R.ver v hv
    .rw[vfF]
     exact Nat.le_trans (vd0 _ _) R.ll
 .rw[if_neg hs]at h;cases h
theorem vg2(h:¬v.tx<=t):va5 (l++[v]) t=va5 l t:=by
 unfold va5;rw[List.takeWhile_append];split
 .rename_i hh;simp[h];exact hh.symm
 .rfl
theorem vg3(l:List ZN)(t:Int):va5 l t<=l.length:=by
 unfold va5;exact(List.takeWhile_sublist _).length_le
theorem vfO{g:Bool}(hs:wZ s=true)(ha:wZ (Ou s e g)=true)(h0:0<=t)(h1:t<=s.tx):aoL (Ou s e g) t=aoL s t:=by
 unfold aoL;rw[if_pos hs,if_pos ha,(vdo h0 h1).1,(vdo (s:=Ou s e g) h0 (show t<=s.tx+1 by omega)).1]
 show ZJ ((s.vs++[Gu (s.tx+1) g e]).take (va5 (s.vs++[Gu (s.tx+1) g e]) t))=_
 rw[vg2 (show ¬s.tx+1<=t by omega),List.take_append_of_le_length (vg3 _ _)]
theorem vfk(s:ZP)(e:Ze)(g:Bool):(va7 (Ou s e g).vs e.id).length=(va7 s.vs e.id).length+1:=by
 unfold va7
 show((s.vs++[Gu (s.tx+1) g e]).filter _).length=_
 rw[List.filter_append];simp[Gu]
section
open Go.RowKit Go.Lib
def vdq(has:Bool)(e:Ze)(L:List Ze):List Ze:=if has=true then Rc L e else L
def vbp(has:Bool)(id:Int)(e:Ze)(st:List Ze × Bool)(x:Ze):List Ze × Bool:=if (has&& !st.2&&decide (id<=x.id))=true then(if x.id=id then(st.1++[e],true)else(st.1++[e]++[x],true))else(if x.id=id then st else(st.1++[x],st.2))
def vbS(has:Bool)(id:Int)(e:Ze)(vMM:List Ze)(i:Nat):List Ze × Bool:=(vMM.take i).foldl (vbp has id e) ([],false)
theorem vgW{id:Int}{vMM:List Ze}(h:vMM[i]? =some x):vbS has id e vMM (i+1)=vbp has id e (vbS has id e vMM i) x:=by
 unfold vbS;rw[List.take_add_one,h,List.foldl_append];rfl
def vcj(has:Bool)(e:Ze)(st:List Ze × Bool):List Ze:=if (has&& !st.2)=true then st.1++[e]else st.1
theorem veU(x:Ze)(vMM:List Ze)(id:Int):vaK (x::vMM) id=if x.id=id then vaK vMM id else x::vaK vMM id:=by
 unfold vaK;by_cases h:x.id=id
 .rw[if_pos h];simp[h]
 .rw[if_neg h];simp[h]
theorem vdr{id:Int}{p:Bool}(hp:(has&& !p)=false):∀{vMM:List Ze} {mz:List Ze},vMM.foldl (vbp has id e) (mz,p)=(mz++vaK vMM id,p)
 |[],mz=>by simp[vaK]
 | x::vMM,mz=>by
  have hb:vbp has id e (mz,p) x=if x.id=id then(mz,p)else(mz++[x],p):=by
   unfold vbp;simp only[hp,Bool.false_and,Bool.false_eq_true,if_false]
  rw[List.foldl_cons,veU,hb];by_cases h:x.id=id
  .rw[if_pos h,if_pos h,vdr hp]
  .rw[if_neg h,if_neg h,vdr hp,List.append_assoc];rfl
theorem vhJ:∀{L:List Ze},(∀y∈L,¬y.id<e.id)->Rc L e=e::L
 |[],_=>rfl
 |y::L,h=>by rw[Rc,if_neg (h y M)]
theorem veW{id:Int}(he:e.id=id):∀{vMM:List Ze} {mz:List Ze},vMM.Pairwise (λx y=>x.id<y.id)->vcj true e (vMM.foldl (vbp true id e) (mz,false))=mz++Rc (vaK vMM id) e
 |[],mz,_=>by simp[vcj,vaK,Rc]
 |x::vMM,mz,hp=>by
  have h':=List.pairwise_cons.mp hp;rw[List.foldl_cons,veU];by_cases hx:id<=x.id
  .have hd:∀Tx:List Ze,vcj true e (vMM.foldl (vbp true id e) (Tx,true))=Tx++vaK vMM id:=λTx=>by rw[vdr Si];rfl
   have hb:vbp true id e (mz,false) x=if x.id=id then(mz++[e],true)else(mz++[e]++[x],true):=by
    unfold vbp;simp only[Bool.true_and,Bool.not_false,rT hx,if_true]
   rw[hb];by_cases h:x.id=id
   .rw[if_pos h,if_pos h]
    refine(hd _).trans ?_;rw[vhJ λy hy=>?_,List.append_assoc]
    .rfl
    .have:=h'.1 y (vdp.mp hy).1;omega
   .rw[if_neg h,if_neg h]
    refine(hd _).trans ?_;rw[Rc,if_neg Q,List.append_assoc,List.append_assoc];rfl
  .have az:¬x.id=id:=Q
   have hb:vbp true id e (mz,false) x=(mz++[x],false):=by
    unfold vbp;simp only[Bool.true_and,Bool.not_false,dfe hx,Bool.false_eq_true,if_false];rw[if_neg az]
   rw[hb,veW he h'.2,if_neg az,Rc,if_pos Q,List.append_assoc];rfl
theorem vgY{id:Int}{vMM:List Ze}(hM:vMM.Pairwise λx y=>x.id<y.id)(he:has=true->e.id=id)(hi:i=vMM.length):vcj has e (vbS has id e vMM i)=vdq has e (vaK vMM id):=by
 unfold vbS;rw[hi,List.take_length];cases has with
 |true=>exact(veW (he rfl) hM).trans (by rw[List.nil_append];rfl)
 |false=>rw[vdr Si];simp[vcj,vdq]
structure BuI(w3:World)(pm:Option Addr)(vMM L:List Ze)(W:World)(g m c:Nat):Prop where
 own:W.ownsRow w3.heap.size 33 6 (so g m c) m (L.map Ze.cs).flatten
 len:L.length=m
 row:Za W pm 6 (vMM.map Ze.cs)
 ne:∀a,pm=some a->a.block≠g/\a.block<W.heap.size
 ZB:Bw w3 W
section
variable {w3 : World} {pm : Option Addr} {vMM L : List Ze} {W W' : World} {g m c : Nat}
theorem BuI.alloc(h:BuI w3 pm vMM L W g m c)(o:Obj):BuI w3 pm vMM L (W.alloc o) g m c:=⟨nO h.own o,h.len,h.row.below (ZA _ o),λa ha=>⟨(h.ne a ha).1,by have:=(h.ne a ha).2;simp;omega⟩,h.ZB.alloc h.ZB.size o⟩
theorem BuI.seq(h:BuI w3 pm vMM L W g m c):Za W (some (O g 0)) 6 (L.map Ze.cs):=by
 have h1:=h.own;rw[<- h.len]at h1;exact(vbC h1 (λ_=>rfl)).1
theorem BuI.push{cm:Array Oper}{rest:List Oper}{o:Oper}{a:Act}{vQQ:Exit->Act->World->Prop}(h:BuI w3 pm vMM L W g m c)(x:Ze)(hm:m<=1000)(oz:o.guard=none)(s y:Operand)
  (ho:o.op=.call { callee:=.builtin .append,args:=#[s,y],argTypes:=#[40,40] }) (hs:a.eval s=so g m c) (hx:a.eval y=U (some (O W.heap.size 0)) 1 1)
  (hk:∀g' c' W',BuI w3 pm vMM (L++[x]) W' g' (m+1) c'->wpList Tryz.prog cm vQQ rest (a.put o.dst (so g' (m+1) c')) W'):wpList Tryz.prog cm vQQ (o::rest) a (W.alloc (G #[J x.id,I x.name,I x.YZ,J x.YV,J x.Zz,J x.Zu] 33)):=by
 have⟨i0,hi,aG,aH,aF⟩:=vhI;have h1:=h.alloc (G #[J x.id,I x.name,I x.YZ,J x.YV,J x.Zz,J x.Zu] 33);refine wpList_append_lies _ oz s y 40 ho w3.heap.size 33 i0 (.agg #[J 0,Rn,Rn,J 0,J 0,J 0]) 6 64 Tryz.underlying40 hi aG aH aF rfl RN _ _ _ hs h1.own (O W.heap.size 0) 1 1 [J x.id,I x.name,I x.YZ,J x.YV,J x.Zz,J x.Zu] hx rfl (Ka W [J x.id,I x.name,I x.YZ,J x.YV,J x.Zz,J x.Zu] _) (λu hu=>?_) Q (by unfold maxLen;omega) Q h1.ZB.size _ rfl λg' c' W' yd bR VQ hlt=>hk g' c' W' ?_
 .simp at hu
  rcases hu with rfl|rfl|rfl|rfl|rfl|rfl<;>rfl
 .refine⟨?_,by simp[h.len],?_,λa ha=>?_,h1.ZB.grown bR h1.ZB.size λk hk=>(World.ownsRow.lt h1.own k hk).1⟩
  .rw[MZ,List.flatten_append]
   simpa [Ze.cs]using yd
  .rcases h1.row with hr|⟨b,of,rfl,hc⟩
   .exact .inl hr
   .refine .inr ⟨b,of,rfl,λi j r u hr hj=>bR.cell (hc i j r u hr hj) λe=>?_⟩
    have:=(h1.ne (O b of) rfl).1;simp[Value.ownBlock]at e;exact this e
  .have h2:=h1.ne a ha
   refine⟨λe=>?_,Nat.lt_of_lt_of_le h2.2 bR.size⟩;rcases VQ with k|k
   .simp[Value.ownBlock]at k;exact h2.1 (e.trans k.symm)
   .rw[k]at e;have:=h2.2;omega
