import Derived.Test.YtpejeokacilebaaGreatDoorBasePd
import Derived.Lib.QuietBelow
set_option maxRecDepth 100000
set_option maxHeartbeats 0
set_option linter.unusedSimpArgs false
open Go.RowKit Go.Sort
namespace Go.Proofs.YtpejeokacilebaaGreatDoor
structure RuleD where
 name:ByteArray
 lo:Int
 hi:Int
 month:Int
 on:ByteArray
 at_:Int
 of:ByteArray
 save:Int
 letter:ByteArray
def RuleD.cs(r:RuleD):List Value:=[.string r.name,iv r.lo,iv r.hi,iv r.month,.string r.on,iv r.at_,.string r.of,iv r.save,.string r.letter]
def RuleD.v(r:RuleD):Value:=.agg #[.string r.name,iv r.lo,iv r.hi,iv r.month,.string r.on,iv r.at_,.string r.of,iv r.save,.string r.letter]
def RuleD.sz(r:RuleD):Nat:=r.name.size+r.on.size+r.of.size+r.letter.size
def Za(w:World)(a:Option Addr)(k:Nat)(rows:List (List Value)):Prop:=
 rows=[]\/∃b o,a=some (ad b o)/\∀i j r c,rows[i]? =some r->r[j]? =some c->w.cell? (ad b (o+i*k+j))=some c
def clip(x:Int):Int:=if x<0 then -1 else x
theorem jal{x:Int}(h:x<0):clip x= -1:=if_pos h
theorem jbb{x:Int}(h:0<=x):clip x=x:=if_neg (by omega)
theorem jp9(r:RuleD)(n:Int)(w:World)(h0:0<=n)(h1:n<=1048576)(m1:r.name.size<=maxLen)(m2:r.on.size<=maxLen)(m3:r.of.size<=maxLen)(m4:r.letter.size<=maxLen):
  Cl 57 #[r.v,iv n] w fun e w'=>e=.returned (iv (clip (n-r.sz)))/\Bw w w':=by
 unfold maxLen at *
 obtain⟨name,lo,hi,month,on,at_,of,save,letter⟩:=r
 simp only[RuleD.v,RuleD.sz]at *
 by_cases g1:n<name.size
 ·have HR:Hid (clip (n-↑(name.size+on.size+of.size+letter.size))= -1):=jal (by omega)
  unfold Cl;go_in
  go_wp2
  go_ret
  exact⟨ret_int HR.out.symm,qal _ _⟩
 by_cases g2:n<name.size+on.size
 ·have HR:Hid (clip (n-↑(name.size+on.size+of.size+letter.size))= -1):=jal (by omega)
  unfold Cl;go_in
  go_wp2
  go_ret
  exact⟨ret_int HR.out.symm,qal _ _⟩
 by_cases g3:n<name.size+on.size+of.size
 ·have HR:Hid (clip (n-↑(name.size+on.size+of.size+letter.size))= -1):=jal (by omega)
  unfold Cl;go_in
  go_wp2
  go_ret
  exact⟨ret_int HR.out.symm,qal _ _⟩
 by_cases g4:n<name.size+on.size+of.size+letter.size
 ·have HR:Hid (clip (n-↑(name.size+on.size+of.size+letter.size))= -1):=jal (by omega)
  unfold Cl;go_in
  go_wp2
  go_ret
  exact⟨ret_int HR.out.symm,qal _ _⟩
 ·unfold Cl;go_in
  go_wp2
  go_ret
  exact⟨ret_int (by rw[jbb (by omega)];omega),qal _ _⟩
def rsz(l:List RuleD):Nat:=(l.map RuleD.sz).sum
theorem jyu{l:List RuleD}{k:Nat}{r:RuleD}(h:l[k]? =some r):rsz (l.take (k+1))=rsz (l.take k)+r.sz:=by
 unfold rsz
 rw[List.take_add_one,h]
 simp
theorem j3a(l:List RuleD)(k:Nat):rsz (l.take k)<=rsz l:=by
 have:=congrArg (fun l=>(l.map RuleD.sz).sum) (List.take_append_drop k l)
 simp only[lma,List.sum_append]at this
 unfold rsz
 omega
def RuleD.ok(r:RuleD):Prop:=r.name.size<=maxLen/\r.on.size<=maxLen/\r.of.size<=maxLen/\r.letter.size<=maxLen
theorem Za.at{w:World}{a:Option Addr}{k:Nat}{rows:List (List Value)}(h:Za w a k rows){i:Nat}{r:List Value}(hi:rows[i]? =some r):∃b o,a=some (ad b o)/\∀j c,r[j]? =some c->w.cell? (ad b (o+i*k+j))=some c:=by
 rcases h with rfl|⟨b,o,ha,hc⟩
 ·simp at hi
 ·exact⟨b,o,ha,fun j c hj=>hc i j r c hi hj⟩
theorem Za.below{w w':World}{a:Option Addr}{k:Nat}{rows:List (List Value)}(h:Za w a k rows)(hb:Bw w w'):Za w' a k rows:=by
 rcases h with h|⟨b,o,ha,hc⟩
 ·exact .inl h
 ·exact .inr ⟨b,o,ha,fun i j r c hi hj=>by
   have:=hc i j r c hi hj
   rw[(jaf hb).1 _ _ (qbl this)];exact this⟩
theorem jn1(l:List RuleD)(a:Option Addr)(cap:Nat)(n:Int)(w:World)(hA:Za w a 9 (l.map RuleD.cs))(gW:∀r∈l,r.ok)(hl:l.length<=maxLen)(h0:0<=n)(h1:n<=1048576):
  Cl 26 #[.slice a l.length cap,iv n] w fun e w'=>e=.returned (iv (clip (n-(l.length+rsz l))))/\Bw w w':=by
 unfold maxLen at hl
 by_cases g0:n<l.length
 ·have HR:Hid (clip (n-(l.length+rsz l))= -1):=jal (by omega)
  unfold Cl;go_in
  go_wp2
  go_ret
  exact⟨ret_int HR.out.symm,brf _ _⟩
 unfold Cl;go_in
 go_wp2
 go_loopw [1,5] (fun x i wr=>∃k:Nat,k<=l.length/\i=iv k/\x=iv (n-l.length-rsz (l.take k))/\Hid (0<=n-l.length-rsz (l.take k))/\Bw w wr) (fun _ i _=>l.length-(intOf i).toNat)
 case atStart=>exact⟨0,by omega,rfl,by simp[rsz],by simp[rsz,Hid];omega,brf _ _⟩
 case round=>
  obtain⟨k,hk,rfl,rfl,hp,hB⟩:=hrel
  by_cases hlt:k<l.length
  ·obtain⟨r,hr⟩:=qgg hlt
   obtain⟨b,o,rfl,hc⟩:=(hA.below hB).at (i:=k) (r:=r.cs) (by rw[lgm,hr];rfl)
   have ok:=gW r (lmg hr)
   have lG:=hp.out
   have ht:=jyu hr
   have cr:=j3a l (k+1)
   have hS:=fun w=>jp9 r (n-l.length-rsz (l.take k)) w (by omega) (by omega) ok.1 ok.2.1 ok.2.2.1 ok.2.2.2
   have c0:wr.cell? (ad b (o+k*9))=some (.string r.name):=hc 0 _ rfl
   have c1:=hc 1 _ rfl
   have c2:=hc 2 _ rfl
   have c3:=hc 3 _ rfl
   have c4:=hc 4 _ rfl
   have c5:=hc 5 _ rfl
   have c6:=hc 6 _ rfl
   have c7:=hc 7 _ rfl
   have c8:=hc 8 _ rfl
   clear hc
   unfold RuleD.v at hS
   by_cases g:n-l.length-rsz (l.take k)-r.sz<0
   ·have HR:Hid (clip (n-(l.length+rsz l))= -1):=jal (by omega)
    rw[jal g]at hS
    go_wp2_with fail
    refine(hS _).mono ?_
    rintro e w2 ⟨rfl,ac⟩
    go_wp2
    go_ret
    exact⟨ret_int HR.out.symm,(qtr hB ac)⟩
   ·rw[jbb (by omega)]at hS
    have HN:Hid (n-l.length-rsz (l.take k)-r.sz=n-l.length-rsz (l.take (k+1))):=by simp only[Hid];omega
    go_wp2_with fail
    refine(hS _).mono ?_
    rintro e w2 ⟨rfl,ac⟩
    go_wp2
    go_roundw
    case rel=>exact⟨k+1,by omega,by go_num,by rw[HN.out],by have:=HN.out;simp only[Hid];omega,(qtr hB ac)⟩
    case measure=>simp[intOf];omega
  ·have e:k=l.length:=by omega
   subst e
   have HR:Hid (clip (n-(l.length+rsz l))=n-l.length-rsz (l.take l.length)):=by
    have:=hp.out
    simp only[Hid]
    rw[List.take_length]at this ⊢
    rw[jbb (by omega)];omega
   go_wp2
   go_ret
   exact⟨ret_int HR.out.symm,hB⟩
def Zg(w:World)(g m:Nat):Prop:=∀x,x<m->(∃v,w.cell? (ad g x)=some v)/\w.frozen? (ad g x)=false
theorem Zg.below{w w':World}{g m:Nat}(h:Zg w g m)(hb:Bw w w'):Zg w' g m:=fun x hx=>by
 obtain⟨⟨v,hv⟩,hf⟩:=h x hx
 have hlt:=qbl hv
 exact⟨⟨v,by rw[(jaf hb).1 _ _ hlt];exact hv⟩,by rw[(jaf hb).2 _ _ hlt];exact hf⟩
theorem Zg.set{w:World}{g m:Nat}(h:Zg w g m)(a:Addr)(v:Value):Zg (w.setCell a v) g m:=fun x hx=>by
 obtain⟨⟨u,hu⟩,hf⟩:=h x hx
 exact⟨cell?_setCell_some hu,by rw[World.frozen?_setCell];exact hf⟩
def jbk(w:World)(g o:Nat):List Value->World
 |[]=>w
 |c::cs=>jbk (w.setCell ⟨g,o,none⟩ c) g (o+1) cs
theorem jb9{g m:Nat}{cs:List Value}:∀{w:World} {o:Nat},Zg w g m->Zg (jbk w g o cs) g m:=by
 induction cs with
 |nil=>intro w o h;exact h
 |cons c cs ih=>intro w o h;exact ih (h.set _ _)
theorem jb2{cs:List Value}:∀{w:World} {g o:Nat} {b x:Nat},(b≠g\/x<o\/o+cs.length<=x)->(jbk w g o cs).cell? (ad b x)=w.cell? (ad b x):=by
 induction cs with
 |nil=>intros;rfl
 |cons c cs ih=>
  intro w g o b x h
  have hl:(c::cs).length=cs.length+1:=rfl
  rw[jbk,ih (by omega),wco]
  intro e
  injection e with e1 e2
  omega
theorem jif{cs:List Value}:∀{w:World} {g o m:Nat} {j:Nat} {c:Value},Zg w g m->o+cs.length<=m->cs[j]? =some c->(jbk w g o cs).cell? (ad g (o+j))=some c:=by
 induction cs with
 |nil=>intro w g o m j c _ _ h;simp at h
 | cons d cs ih=>
  intro w g o m j c hR hm h
  have hl:(d::cs).length=cs.length+1:=rfl
  cases j with
  |zero=>
   simp at h
   subst h
   rw[jbk,jb2 (by omega)]
   obtain⟨⟨u,hu⟩,_⟩:=hR o (by omega)
   exact wcs _ _ _ hu
  |succ j=>
   have:=ih (w:=w.setCell (ad g o) d) (g:=g) (o:=o+1) (m:=m) (j:=j) (c:=c) (hR.set _ _) (by omega) (by simpa using h)
   rw[jbk,show o+(j+1)=o+1+j by omega]
   exact this
theorem jb3{cs:List Value}:∀{w0 w:World} {n g o:Nat},Below n w0 w->n<=g->Below n w0 (jbk w g o cs):=by
 induction cs with
 |nil=>intro w0 w n g o h _;exact h
 |cons c cs ih=>intro w0 w n g o h hg;exact ih (h.setCell hg _) hg
def Ze(w:World)(g q k:Nat)(rows:List (List Value)):Prop:=∀i j r c,i<k->rows[i]? =some r->r[j]? =some c->w.cell? (ad g (i*q+j))=some c
theorem Ze.below{w w':World}{g q k:Nat}{rows:List (List Value)}(h:Ze w g q k rows)(hb:Bw w w'):Ze w' g q k rows:=fun i j r c hi hr hc=>by
 have:=h i j r c hi hr hc
 rw[(jaf hb).1 _ _ (qbl this)];exact this
theorem Ze.put{w:World}{g q k m:Nat}{rows:List (List Value)}{r:List Value}(h:Ze w g q k rows)(hR:Zg w g m)(hr:rows[k]? =some r)(hq:r.length=q)(hm:k*q+q<=m)(au:∀r∈rows,r.length=q):Ze (jbk w g (k*q) r) g q (k+1) rows:=fun i j r' c hi cO hc=>by
 by_cases e:i=k
 ·subst e
  rw[hr]at cO
  obtain rfl:=osi cO
  exact jif hR (by omega) hc
 ·have hj:j<q:=by
   have:=au r' (lmg cO)
   have:=(lgs hc).1
   omega
  have oB:i*q+q<=k*q:=by
   have:(i+1)*q<=k*q:=Nat.mul_le_mul_right q (by omega)
   rw[Nat.add_mul]at this;omega
  rw[jb2 (by omega)]
  exact h i j r' c (by omega) cO hc
theorem Ze.seq{w:World}{g q:Nat}{rows:List (List Value)}(h:Ze w g q rows.length rows):Za w (some (ad g 0)) q rows:=
 .inr ⟨g,0,rfl,fun i j r c hr hc=>by rw[show 0+i*q+j=i*q+j by omega];exact h i j r c (lgs hr).1 hr hc⟩
theorem jd4{w:World}{base g n q:Nat}{e:TypeId}{xs:List Value}(h:w.ownsRow base e q (so g n n) n xs):Zg w g (n*q):=by
 rcases h.2 with⟨h0,_⟩|⟨g',cap,cur,h1,_,hh,_,_,hs,_⟩
 ·cases h0
 ·injection h1 with h1 h2 h3
  injection h1 with h1
  injection h1 with h1
  subst h1 h3
  intro x hx
  have fm:x<cur.size:=by omega
  exact⟨⟨cur[x],by simp[World.cell?,hh,fm]⟩,by simp[World.frozen?,hh]⟩
structure EraD where
 offset:Int
 rules:ByteArray
 save:Int
 format:ByteArray
 until_:Int
 of:ByteArray
def EraD.cs(r:EraD):List Value:=[iv r.offset,.string r.rules,iv r.save,.string r.format,iv r.until_,.string r.of]
def EraD.v(r:EraD):Value:=.agg #[iv r.offset,.string r.rules,iv r.save,.string r.format,iv r.until_,.string r.of]
def EraD.sz(r:EraD):Nat:=r.rules.size+r.format.size+r.of.size
def EraD.ok(r:EraD):Prop:=r.rules.size<=maxLen/\r.format.size<=maxLen/\r.of.size<=maxLen
theorem jtm(r:EraD)(n:Int)(w:World)(h0:0<=n)(h1:n<=1048576)(hm:r.ok):
  Cl 119 #[r.v,iv n] w fun e w'=>e=.returned (iv (clip (n-r.sz)))/\Bw w w':=by
 obtain⟨offset,rules,save,format,until_,of⟩:=r
 simp only[EraD.v,EraD.sz,EraD.ok]at *
 unfold maxLen at *
 by_cases g1:n<rules.size
 ·have HR:Hid (clip (n-↑(rules.size+format.size+of.size))= -1):=jal (by omega)
  unfold Cl;go_in
  go_wp2
  go_ret
  exact⟨ret_int HR.out.symm,qal _ _⟩
 by_cases g2:n<rules.size+format.size
 ·have HR:Hid (clip (n-↑(rules.size+format.size+of.size))= -1):=jal (by omega)
  unfold Cl;go_in
  go_wp2
  go_ret
  exact⟨ret_int HR.out.symm,qal _ _⟩
 by_cases g3:n<rules.size+format.size+of.size
 ·have HR:Hid (clip (n-↑(rules.size+format.size+of.size))= -1):=jal (by omega)
  unfold Cl;go_in
  go_wp2
  go_ret
  exact⟨ret_int HR.out.symm,qal _ _⟩
 unfold Cl;go_in
 go_wp2
 go_ret
 exact⟨ret_int (by rw[jbb (by omega)];try omega),qal _ _⟩
def esz(l:List EraD):Nat:=(l.map EraD.sz).sum
theorem j0e{l:List EraD}{k:Nat}{r:EraD}(h:l[k]? =some r):esz (l.take (k+1))=esz (l.take k)+r.sz:=by
 unfold esz
 rw[List.take_add_one,h]
 simp
theorem j3s(l:List EraD)(k:Nat):esz (l.take k)<=esz l:=by
 have:=congrArg (fun l=>(l.map EraD.sz).sum) (List.take_append_drop k l)
 simp only[lma,List.sum_append]at this
 unfold esz
 omega
theorem jqb(l:List EraD)(a:Option Addr)(cap:Nat)(n:Int)(w:World)(hA:Za w a 6 (l.map EraD.cs))(gW:∀r∈l,r.ok)(hl:l.length<=maxLen)(h0:0<=n)(h1:n<=1048576):
  Cl 89 #[.slice a l.length cap,iv n] w fun e w'=>e=.returned (iv (clip (n-(l.length+esz l))))/\Bw w w':=by
 unfold maxLen at hl
 by_cases g0:n<l.length
 ·have HR:Hid (clip (n-(l.length+esz l))= -1):=jal (by omega)
  unfold Cl;go_in
  go_wp2
  go_ret
  exact⟨ret_int HR.out.symm,brf _ _⟩
 unfold Cl;go_in
 go_wp2
 go_loopw [1,5] (fun x i wr=>∃k:Nat,k<=l.length/\i=iv k/\x=iv (n-l.length-esz (l.take k))/\Hid (0<=n-l.length-esz (l.take k))/\Bw w wr) (fun _ i _=>l.length-(intOf i).toNat)
 case atStart=>exact⟨0,by omega,rfl,by simp[esz],by simp[esz,Hid];omega,brf _ _⟩
 case round=>
  obtain⟨k,hk,rfl,rfl,hp,hB⟩:=hrel
  by_cases hlt:k<l.length
  ·obtain⟨r,hr⟩:=qgg hlt
   obtain⟨b,o,rfl,hc⟩:=(hA.below hB).at (i:=k) (r:=r.cs) (by rw[lgm,hr];rfl)
   have ok:=gW r (lmg hr)
   have lG:=hp.out
   have ht:=j0e hr
   have cr:=j3s l (k+1)
   have hS:=fun w=>jtm r (n-l.length-esz (l.take k)) w (by omega) (by omega) ok
   have c0:wr.cell? (ad b (o+k*6))=some (iv r.offset):=hc 0 _ rfl
   have c1:=hc 1 _ rfl
   have c2:=hc 2 _ rfl
   have c3:=hc 3 _ rfl
   have c4:=hc 4 _ rfl
   have c5:=hc 5 _ rfl
   clear hc
   unfold EraD.v at hS
   by_cases g:n-l.length-esz (l.take k)-r.sz<0
   ·have HR:Hid (clip (n-(l.length+esz l))= -1):=jal (by omega)
    rw[jal g]at hS
    go_wp2_with fail
    refine(hS _).mono ?_
    rintro e w2 ⟨rfl,ac⟩
    go_wp2
    go_ret
    exact⟨ret_int HR.out.symm,(qtr hB ac)⟩
   ·rw[jbb (by omega)]at hS
    have HN:Hid (n-l.length-esz (l.take k)-r.sz=n-l.length-esz (l.take (k+1))):=by simp only[Hid];omega
    go_wp2_with fail
    refine(hS _).mono ?_
    rintro e w2 ⟨rfl,ac⟩
    go_wp2
    go_roundw
    case rel=>exact⟨k+1,by omega,by go_num,by rw[HN.out],by have:=HN.out;simp only[Hid];omega,(qtr hB ac)⟩
    case measure=>simp[intOf];omega
  ·have e:k=l.length:=by omega
   subst e
   have HR:Hid (clip (n-(l.length+esz l))=n-l.length-esz (l.take l.length)):=by
    have:=hp.out
    simp only[Hid]
    rw[List.take_length]at this ⊢
    rw[jbb (by omega)];omega
   go_wp2
   go_ret
   exact⟨ret_int HR.out.symm,hB⟩
theorem jtl(r:EraD)(w:World):
  Cl 132 #[r.v] w fun e w'=>e=.returned r.v/\Bw w w':=by
 obtain⟨offset,rules,save,format,until_,of⟩:=r
 simp only[EraD.v]at *
 unfold Cl;go_in
 go_wp2
 exact bpr (v:=.agg #[iv offset,.string rules,iv save,.string format,iv until_,.string of]) (by simp[results,Tryz.results132,go_sem]) rfl ⟨rfl,((qal _ _).alloc (by simp) _).alloc (by simp;omega) _⟩
theorem jqj:∃i:TypeInfo,Tryz.prog.info? 133=some i/\i.zero=some (.agg #[iv 0,.string ⟨#[]⟩,iv 0,.string ⟨#[]⟩,iv 0,.string ⟨#[]⟩])/\i.size=6/\i.bytes=72:=⟨_,rfl,rfl,rfl,rfl⟩
theorem jp7(l:List EraD)(a:Option Addr)(cap:Nat)(w:World)(hA:Za w a 6 (l.map EraD.cs))(hl:l.length<=1048576):
  Cl 95 #[.slice a l.length cap] w fun e w'=>e=.returned (.slice (some (ad w.heap.size 0)) l.length l.length)/\Za w' (some (ad w.heap.size 0)) 6 (l.map EraD.cs)/\Zg w' w.heap.size (l.length*6)/\Bw w w':=by
 obtain⟨i0,hi,aG,aH,aF⟩:=jqj
 obtain⟨w1,dk,ai,dp⟩:=run_make_full (P:=Tryz.prog) w w.heap.size 79 133 i0 _ 6 Tryz.underlying79 hi aG aH .i64 .i64 l.length (by rw[aF];omega) (by unfold maxLen;omega) (nlr _)
 have hR:=jd4 ai
 have hB:Bw w w1:=(brf _ _).grown dp (nlr _) (fun k hk=>by cases hk)
 have fk:(l.map EraD.cs).length=l.length:=by simp
 have au:∀r∈l.map EraD.cs,r.length=6:=fun r hr=>by
  obtain⟨x,_,rfl⟩:=List.mem_map.mp hr;rfl
 clear hi aG aH aF ai dp
 unfold Cl;go_in
 go_wp2
 go_loopw [4] (fun i wr=>∃k:Nat,k<=l.length/\i=iv k/\Zg wr w.heap.size (l.length*6)/\Ze wr w.heap.size 6 k (l.map EraD.cs)/\Bw w wr) (fun i _=>l.length-(intOf i).toNat)
 case atStart=>exact⟨0,by omega,rfl,hR,fun i j r c h=>by omega,hB⟩
 case round=>
  clear hR hB dk
  obtain⟨k,hk,rfl,hR,hF,hB⟩:=hrel
  by_cases hlt:k<l.length
  ·obtain⟨r,hr⟩:=qgg hlt
   have ap:(l.map EraD.cs)[k]? =some r.cs:=by rw[lgm,hr];rfl
   obtain⟨b,o,rfl,hc⟩:=(hA.below hB).at (i:=k) ap
   have hS:=fun w=>jtl r w
   have c0:wr.cell? (ad b (o+k*6))=some (iv r.offset):=hc 0 _ rfl
   have c1:=hc 1 _ rfl
   have c2:=hc 2 _ rfl
   have c3:=hc 3 _ rfl
   have c4:=hc 4 _ rfl
   have c5:=hc 5 _ rfl
   clear hc
   unfold EraD.v at hS
   go_wp2_with fail
   refine(hS _).mono ?_
   rintro e w2 ⟨rfl,ac⟩
   have aM:=hR.below ac
   have ch:=hF.below ac
   have an:=qtr hB ac
   have je:k*6+6<=l.length*6:=by omega
   obtain⟨⟨u0,iR⟩,gC⟩:=aM (k*6) (by omega)
   obtain⟨⟨u1,wl⟩,dg⟩:=aM (k*6+1) (by omega)
   obtain⟨⟨u2,Q9⟩,eE⟩:=aM (k*6+2) (by omega)
   obtain⟨⟨u3,R9⟩,gE⟩:=aM (k*6+3) (by omega)
   obtain⟨⟨u4,Rs⟩,oy⟩:=aM (k*6+4) (by omega)
   obtain⟨⟨u5,S3⟩,Q8⟩:=aM (k*6+5) (by omega)
   have hW:jbk w2 w.heap.size (k*6) r.cs=((((((w2.setCell (ad w.heap.size (k*6)) (iv r.offset)).setCell (ad w.heap.size (k*6+1)) (.string r.rules)).setCell (ad w.heap.size (k*6+2)) (iv r.save)).setCell (ad w.heap.size (k*6+3)) (.string r.format)).setCell (ad w.heap.size (k*6+4)) (iv r.until_)).setCell (ad w.heap.size (k*6+5)) (.string r.of)):=by simp only[jbk,EraD.cs,Nat.add_assoc,Nat.reduceAdd]
   have R3:=jb9 (cs:=r.cs) (o:=k*6) aM
   have F3:=ch.put aM ap rfl je au
   have B3:=jb3 (cs:=r.cs) (o:=k*6) an (nlr _)
   rw[hW]at R3 F3 B3
   clear hW aM ch an
   go_wp2
   go_roundw
   case rel=>exact⟨k+1,by omega,by go_num,R3,F3,B3⟩
   case measure=>simp[intOf];omega
  ·have e:k=l.length:=by omega
   subst e
   go_wp2
   go_ret
   exact⟨rfl,Ze.seq (by rw[fk];exact hF),hR,hB⟩
theorem jtn(r:EraD)(w:World):
  Cl 154 #[r.v,r.v] w fun e w'=>e=.returned (.bool true)/\Bw w w':=by
 obtain⟨offset,rules,save,format,until_,of⟩:=r
 simp only[EraD.v]at *
 unfold Cl;go_in
 go_wp2
 go_ret
 exact⟨rfl,(qal _ _).alloc (by simp) _⟩
theorem jqf(l:List EraD)(a a2:Option Addr)(cap bL:Nat)(w:World)(hA:Za w a 6 (l.map EraD.cs))(cY:Za w a2 6 (l.map EraD.cs))(hl:l.length<=1048576):
  Cl 118 #[.slice a l.length cap,.slice a2 l.length bL] w fun e w'=>e=.returned (.bool true)/\Bw w w':=by
 unfold Cl;go_in
 go_wp2
 go_loopw [5] (fun i wr=>∃k:Nat,k<=l.length/\i=iv k/\Bw w wr) (fun i _=>l.length-(intOf i).toNat)
 case atStart=>exact⟨0,by omega,rfl,brf _ _⟩
 case round=>
  obtain⟨k,hk,rfl,hB⟩:=hrel
  by_cases hlt:k<l.length
  ·obtain⟨r,hr⟩:=qgg hlt
   have ap:(l.map EraD.cs)[k]? =some r.cs:=by rw[lgm,hr];rfl
   obtain⟨b,o,rfl,hc⟩:=(hA.below hB).at (i:=k) ap
   obtain⟨b2,o2,rfl,hd⟩:=(cY.below hB).at (i:=k) ap
   have hS:=fun w=>jtn r w
   have c0:wr.cell? (ad b (o+k*6))=some (iv r.offset):=hc 0 _ rfl
   have d0:wr.cell? (ad b2 (o2+k*6))=some (iv r.offset):=hd 0 _ rfl
   have c1:=hc 1 _ rfl
   have d1:=hd 1 _ rfl
   have c2:=hc 2 _ rfl
   have d2:=hd 2 _ rfl
   have c3:=hc 3 _ rfl
   have d3:=hd 3 _ rfl
   have c4:=hc 4 _ rfl
   have d4:=hd 4 _ rfl
   have c5:=hc 5 _ rfl
   have d5:=hd 5 _ rfl
   clear hc hd
   unfold EraD.v at hS
   have cE:∀dd os,Cl _ _ (grow (redrawn wr dd) os) fun e cW=>e=.returned (.bool true)/\∃p:Regrown,cW=grow (redrawn wr p.d) p.os:=fun _ _=>Calls.regrown_of (hS _)
   have qT:=cell_regrown c0
   have ws:=cell_regrown d0
   have qU:=cell_regrown c1
   have xc:=cell_regrown d1
   have S5:=cell_regrown c2
   have SX:=cell_regrown d2
   have SF:=cell_regrown c3
   have SY:=cell_regrown d3
   have SV:=cell_regrown c4
   have SZ:=cell_regrown d4
   have SW:=cell_regrown c5
   have T3:=cell_regrown d5
   go_wp2_with fail
   refine wp_region_quiet_below (by kernel_rfl) (by kernel_rfl) ?_
   repeat (quiet_step ((go_at_call 154;exact cE _ _)))
   refine wpQuiet_nil ?_
   intro _ bM
   obtain⟨⟨dq,aQ⟩,aO⟩:=bM
   subst aO
   have ac:=below_regrown wr dq aQ
   go_wp2
   go_roundw
   case rel=>exact⟨k+1,by omega,by go_num,(qtr hB ac)⟩
   case measure=>simp[intOf];omega
  ·have e:k=l.length:=by omega
   subst e
   go_wp2
   go_ret
   exact⟨rfl,hB⟩
structure ZoneD where
 name:ByteArray
 eras:List EraD
def ZoneD.sz(z:ZoneD):Nat:=z.name.size+(z.eras.length+esz z.eras)
def ZoneD.ok(z:ZoneD):Prop:=z.name.size<=maxLen/\z.eras.length<=maxLen/\∀r∈z.eras,r.ok
def Jf(w:World)(v:Value)(es:List EraD):Prop:=∃a cap,v=.slice a es.length cap/\Za w a 6 (es.map EraD.cs)
theorem Jf.below{w w':World}{v:Value}{es:List EraD}(h:Jf w v es)(hb:Bw w w'):Jf w' v es:=by
 obtain⟨a,cap,rfl,hA⟩:=h
 exact⟨a,cap,rfl,hA.below hb⟩
def Zo(w:World)(a:Option Addr)(zs:List ZoneD):Prop:=
 zs=[]\/∃b o,a=some (ad b o)/\∀i z,zs[i]? =some z->w.cell? (ad b (o+i*2))=some (.string z.name)/\∃v,w.cell? (ad b (o+i*2+1))=some v/\Jf w v z.eras
theorem Zo.below{w w':World}{a:Option Addr}{zs:List ZoneD}(h:Zo w a zs)(hb:Bw w w'):Zo w' a zs:=by
 rcases h with h|⟨b,o,ha,hc⟩
 ·exact .inl h
 ·refine .inr ⟨b,o,ha,fun i z hi=>?_⟩
  obtain⟨c0,v,c1,he⟩:=hc i z hi
  have hlt:=qbl c0
  exact⟨by rw[(jaf hb).1 _ _ hlt];exact c0,v,by rw[(jaf hb).1 _ _ hlt];exact c1,he.below hb⟩
theorem Zo.at{w:World}{a:Option Addr}{zs:List ZoneD}(h:Zo w a zs){i:Nat}{z:ZoneD}(hi:zs[i]? =some z):∃b o,a=some (ad b o)/\w.cell? (ad b (o+i*2))=some (.string z.name)/\∃v,w.cell? (ad b (o+i*2+1))=some v/\Jf w v z.eras:=by
 rcases h with rfl|⟨b,o,ha,hc⟩
 ·simp at hi
 ·exact⟨b,o,ha,hc i z hi⟩
theorem jp8(z:ZoneD)(v:Value)(n:Int)(w:World)(hv:Jf w v z.eras)(hm:z.ok)(h0:0<=n)(h1:n<=1048576):
  Cl 58 #[.agg #[.string z.name,v],iv n] w fun e w'=>e=.returned (iv (clip (n-z.sz)))/\Bw w w':=by
 obtain⟨a,cap,rfl,hA⟩:=hv
 obtain⟨name,es⟩:=z
 obtain⟨m1,m2,m3⟩:=hm
 simp only[ZoneD.sz]at *
 by_cases g1:n<name.size
 ·unfold maxLen at m1
  have HR:Hid (clip (n-↑(name.size+(es.length+esz es)))= -1):=jal (by omega)
  unfold Cl;go_in
  go_wp2
  go_ret
  exact⟨ret_int HR.out.symm,qal _ _⟩
 have hE:=fun w (h:Za w a 6 (es.map EraD.cs))=>jqb es a cap (n-name.size) w h m3 m2 (by omega) (by omega)
 unfold maxLen at m1
 by_cases g2:n-name.size-(es.length+esz es)<0
 ·have HR:Hid (clip (n-↑(name.size+(es.length+esz es)))= -1):=jal (by omega)
  rw[jal g2]at hE
  unfold Cl;go_in
  go_wp2_with fail
  refine(hE _ (hA.below (qal _ _))).mono ?_
  rintro e w1 ⟨rfl,hb⟩
  go_wp2
  go_ret
  exact⟨ret_int HR.out.symm,(qal _ _).trans (hb.mono (by simp))⟩
 ·have HR:Hid (clip (n-↑(name.size+(es.length+esz es)))=n-name.size-(es.length+esz es)):=by
   simp only[Hid];rw[jbb (by omega)];omega
  rw[jbb (by omega)]at hE
  unfold Cl;go_in
  go_wp2_with fail
  refine(hE _ (hA.below (qal _ _))).mono ?_
  rintro e w1 ⟨rfl,hb⟩
  go_wp2
  go_ret
  exact⟨ret_int HR.out.symm,(qal _ _).trans (hb.mono (by simp))⟩
def zsz(l:List ZoneD):Nat:=(l.map ZoneD.sz).sum
theorem jx1{l:List ZoneD}{k:Nat}{r:ZoneD}(h:l[k]? =some r):zsz (l.take (k+1))=zsz (l.take k)+r.sz:=by
 unfold zsz
 rw[List.take_add_one,h]
 simp
theorem j2w(l:List ZoneD)(k:Nat):zsz (l.take k)<=zsz l:=by
 have:=congrArg (fun l=>(l.map ZoneD.sz).sum) (List.take_append_drop k l)
 simp only[lma,List.sum_append]at this
 unfold zsz
 omega
theorem jnz(l:List ZoneD)(a:Option Addr)(cap:Nat)(n:Int)(w:World)(hA:Zo w a l)(gW:∀r∈l,r.ok)(hl:l.length<=maxLen)(h0:0<=n)(h1:n<=1048576):
  Cl 27 #[.slice a l.length cap,iv n] w fun e w'=>e=.returned (iv (clip (n-(l.length+zsz l))))/\Bw w w':=by
 unfold maxLen at hl
 by_cases g0:n<l.length
 ·have HR:Hid (clip (n-(l.length+zsz l))= -1):=jal (by omega)
  unfold Cl;go_in
  go_wp2
  go_ret
  exact⟨ret_int HR.out.symm,brf _ _⟩
 unfold Cl;go_in
 go_wp2
 go_loopw [1,5] (fun x i wr=>∃k:Nat,k<=l.length/\i=iv k/\x=iv (n-l.length-zsz (l.take k))/\Hid (0<=n-l.length-zsz (l.take k))/\Bw w wr) (fun _ i _=>l.length-(intOf i).toNat)
 case atStart=>exact⟨0,by omega,rfl,by simp[zsz],by simp[zsz,Hid];omega,brf _ _⟩
 case round=>
  obtain⟨k,hk,rfl,rfl,hp,hB⟩:=hrel
  by_cases hlt:k<l.length
  ·obtain⟨r,hr⟩:=qgg hlt
   obtain⟨b,o,rfl,c0,v,c1,hv⟩:=(hA.below hB).at hr
   have ok:=gW r (lmg hr)
   have lG:=hp.out
   have ht:=jx1 hr
   have cr:=j2w l (k+1)
   have hS:=jp8 r v (n-l.length-zsz (l.take k)) wr hv ok (by omega) (by omega)
   by_cases g:n-l.length-zsz (l.take k)-r.sz<0
   ·have HR:Hid (clip (n-(l.length+zsz l))= -1):=jal (by omega)
    rw[jal g]at hS
    go_wp2_with fail
    refine hS.mono ?_
    rintro e w2 ⟨rfl,ac⟩
    go_wp2
    go_ret
    exact⟨ret_int HR.out.symm,(qtr hB ac)⟩
   ·rw[jbb (by omega)]at hS
    have HN:Hid (n-l.length-zsz (l.take k)-r.sz=n-l.length-zsz (l.take (k+1))):=by simp only[Hid];omega
    go_wp2_with fail
    refine hS.mono ?_
    rintro e w2 ⟨rfl,ac⟩
    go_wp2
    go_roundw
    case rel=>exact⟨k+1,by omega,by go_num,by rw[HN.out],by have:=HN.out;simp only[Hid];omega,(qtr hB ac)⟩
    case measure=>simp[intOf];omega
  ·have e:k=l.length:=by omega
   subst e
   have HR:Hid (clip (n-(l.length+zsz l))=n-l.length-zsz (l.take l.length)):=by
    have:=hp.out
    simp only[Hid]
    rw[List.take_length]at this ⊢
    rw[jbb (by omega)];omega
   go_wp2
   go_ret
   exact⟨ret_int HR.out.symm,hB⟩
theorem Za.keep{w w':World}{g k:Nat}{rows:List (List Value)}(h:Za w (some (ad g 0)) k rows)(hk:∀x,w'.cell? (ad g x)=w.cell? (ad g x)):Za w' (some (ad g 0)) k rows:=by
 rcases h with h|⟨b,o,ha,hc⟩
 ·exact .inl h
 ·injection ha with ha
  injection ha with h1 h2
  subst h1 h2
  exact .inr ⟨g,0,rfl,fun i j r c hi hj=>by rw[hk];exact hc i j r c hi hj⟩
theorem Zg.keep{w w':World}{g m:Nat}(h:Zg w g m)(hk:∀x,w'.cell? (ad g x)=w.cell? (ad g x))(hf:∀x,w'.frozen? (ad g x)=w.frozen? (ad g x)):Zg w' g m:=fun x hx=>by
 rw[hk,hf];exact h x hx
theorem jcz(w:World)(a b c:Obj):Bw w (((w.alloc a).alloc b).alloc c):=((qal _ a).alloc (by simp) b).alloc (by simp;omega) c
theorem j3q(w:World)(a b c:Obj):(((w.alloc a).alloc b).alloc c).heap.size=w.heap.size+1+1+1:=by simp
theorem jcv{p q i j:Nat}(h:q≠p):((ad q i):Addr)≠(ad p j):=fun e=>h (by injection e)
theorem jf5{w:World}{b:Nat}{x0 x1 v0 v1:Value}(h0:w.cell? (ad b 0)=some x0)(h1:w.cell? (ad b 1)=some x1):
  ((w.setCell (ad b 0) v0).setCell (ad b 1) v1).cell? (ad b 0)=some v0/\((w.setCell (ad b 0) v0).setCell (ad b 1) v1).cell? (ad b 1)=some v1:=by
 refine⟨?_,?_⟩
 ·rw[wco _ _ _ _ (by simp),wcs _ _ _ h0]
 ·refine wcs _ _ _ (u:=x1) ?_
  rw[wco _ _ _ _ (by simp)];exact h1
theorem jp4(z:ZoneD)(v:Value)(w:World)(hv:Jf w v z.eras)(hl:z.eras.length<=1048576):
  Cl 73 #[.agg #[.string z.name,v]] w fun e w'=>∃g,e=.returned (.agg #[.string z.name,so g z.eras.length z.eras.length])/\w.heap.size<=g/\Za w' (some (ad g 0)) 6 (z.eras.map EraD.cs)/\Zg w' g (z.eras.length*6)/\Bw w w':=by
 obtain⟨a,cap,rfl,hA⟩:=hv
 obtain⟨name,es⟩:=z
 simp only at *
 have hE:=fun w (h:Za w a 6 (es.map EraD.cs))=>jp7 es a cap w h hl
 unfold Cl;go_in
 go_wp2_with fail
 refine(hE _ (hA.below (jcz _ _ _ _))).mono ?_
 rintro e w1 ⟨rfl,hq,hR,hb⟩
 obtain⟨hc,hf⟩:=jaf hb
 have hB:Bw w w1:=(jcz w _ _ _).trans (hb.mono (by simp;omega))
 have h0:w1.cell? (ad (w.heap.size+1) 0)=some (.string ⟨#[]⟩):=(hc _ _ (by simp)).trans (by simp[go_sem])
 have h1:w1.cell? (ad (w.heap.size+1) 1)=some nS:=(hc _ _ (by simp)).trans (by simp[go_sem])
 simp only[j3q]at hq hR
 go_wp2_with fail
 generalize hg:w.heap.size+1+1+1=g at *
 obtain⟨r0,r1⟩:=jf5 (w:=w1.setCell (ad (w.heap.size+1+1) 1) (so g es.length es.length)) (b:=w.heap.size+1) (v0:=.string name) (v1:=so g es.length es.length) (by rw[wco _ _ _ _ (jcv (by omega))];exact h0) (by rw[wco _ _ _ _ (jcv (by omega))];exact h1)
 refine bpr (v:=.agg #[.string name,so g es.length es.length]) (by simp[results,Tryz.results73,go_sem,r0,r1]) rfl ⟨g,rfl,by omega,hq.keep fun x=>?_,hR.keep (fun x=>?_) (fun x=>by simp),((hB.setCell (show w.heap.size<=w.heap.size+1+1 by omega) _).setCell (show w.heap.size<=w.heap.size+1 by omega) _).setCell (show w.heap.size<=w.heap.size+1 by omega) _⟩
 all_goals rw[wco _ _ _ _ (jcv (by omega)),wco _ _ _ _ (jcv (by omega)),wco _ _ _ _ (jcv (by omega))]
def Zu(w:World)(g k:Nat)(zs:List ZoneD):Prop:=∀i z,i<k->zs[i]? =some z->w.cell? (ad g (i*2))=some (.string z.name)/\∃q,g<q/\w.cell? (ad g (i*2+1))=some (so q z.eras.length z.eras.length)/\Za w (some (ad q 0)) 6 (z.eras.map EraD.cs)/\Zg w q (z.eras.length*6)
theorem Zu.below{w w':World}{g k:Nat}{zs:List ZoneD}(h:Zu w g k zs)(hb:Bw w w'):Zu w' g k zs:=fun i z hi hz=>by
 obtain⟨c0,q,hq,c1,hs,hr⟩:=h i z hi hz
 have hlt:=qbl c0
 exact⟨by rw[(jaf hb).1 _ _ hlt];exact c0,q,hq,by rw[(jaf hb).1 _ _ hlt];exact c1,hs.below hb,hr.below hb⟩
theorem Zu.put{w:World}{g k m q:Nat}{zs:List ZoneD}{z:ZoneD}(h:Zu w g k zs)(hR:Zg w g m)(hz:zs[k]? =some z)(hm:k*2+2<=m)(hq:g<q)(hs:Za w (some (ad q 0)) 6 (z.eras.map EraD.cs))(hr:Zg w q (z.eras.length*6)):Zu (jbk w g (k*2) [.string z.name,so q z.eras.length z.eras.length]) g (k+1) zs:=fun i z' hi jm=>by
 by_cases e:i=k
 ·subst e
  rw[hz]at jm
  obtain rfl:=osi jm
  have a0:=jif (cs:=[.string z.name,so q z.eras.length z.eras.length]) (o:=i*2) (j:=0) hR (by simpa using hm) rfl
  have a1:=jif (cs:=[.string z.name,so q z.eras.length z.eras.length]) (o:=i*2) (j:=1) hR (by simpa using hm) rfl
  exact⟨a0,q,hq,a1,hs.keep fun x=>jb2 (.inl (by omega)),hr.keep (fun x=>jb2 (.inl (by omega))) (fun x=>by simp[jbk])⟩
 ·obtain⟨c0,q',sh,c1,Cw,cO⟩:=h i z' (by omega) jm
  exact⟨by rw[jb2 (by omega)];exact c0,q',sh,by rw[jb2 (by omega)];exact c1,Cw.keep fun x=>jb2 (.inl (by omega)),cO.keep (fun x=>jb2 (.inl (by omega))) (fun x=>by simp[jbk])⟩
theorem Zu.zones{w:World}{g:Nat}{zs:List ZoneD}(h:Zu w g zs.length zs):Zo w (some (ad g 0)) zs:=
 .inr ⟨g,0,rfl,fun i z hz=>by
  obtain⟨c0,q,_,c1,hs,_⟩:=h i z (lgs hz).1 hz
  rw[show 0+i*2=i*2 by omega]
  exact⟨c0,_,c1,_,_,rfl,hs⟩⟩
theorem jr1:∃i:TypeInfo,Tryz.prog.info? 81=some i/\i.zero=some (.agg #[.string ⟨#[]⟩,nS])/\i.size=2/\i.bytes=40:=⟨_,rfl,rfl,rfl,rfl⟩
theorem jnt(l:List ZoneD)(a:Option Addr)(cap:Nat)(w:World)(hA:Zo w a l)(hl:l.length<=1048576)(cr:∀z∈l,z.eras.length<=1048576):
  Cl 40 #[.slice a l.length cap] w fun e w'=>e=.returned (.slice (some (ad w.heap.size 0)) l.length l.length)/\Zu w' w.heap.size l.length l/\Zg w' w.heap.size (l.length*2)/\Bw w w':=by
 obtain⟨i0,hi,aG,aH,aF⟩:=jr1
 obtain⟨w1,dk,ai,dp⟩:=run_make_full (P:=Tryz.prog) w w.heap.size 34 81 i0 _ 2 Tryz.underlying34 hi aG aH .i64 .i64 l.length (by rw[aF];omega) (by unfold maxLen;omega) (nlr _)
 have hR:=jd4 ai
 have hB:Bw w w1:=(brf _ _).grown dp (nlr _) (fun k hk=>by cases hk)
 have hlt1:w.heap.size<w1.heap.size:=by
  rcases ai.2 with⟨h0,_⟩|⟨g',c,cur,h1,_,hh,_⟩
  ·cases h0
  ·injection h1 with h1 h2 h3
   injection h1 with h1
   injection h1 with h1
   subst h1
   exact(Array.getElem?_eq_some_iff.mp hh).1
 clear hi aG aH aF ai dp
 unfold Cl;go_in
 go_wp2
 go_loopw [4] (fun i wr=>∃k:Nat,k<=l.length/\i=iv k/\Zg wr w.heap.size (l.length*2)/\Zu wr w.heap.size k l/\Bw w wr/\w.heap.size<wr.heap.size) (fun i _=>l.length-(intOf i).toNat)
 case atStart=>exact⟨0,by omega,rfl,hR,fun i z h=>by omega,hB,hlt1⟩
 case round=>
  clear hR hB dk hlt1
  obtain⟨k,hk,rfl,hR,hF,hB,UM⟩:=hrel
  by_cases hlt:k<l.length
  ·obtain⟨r,hr⟩:=qgg hlt
   obtain⟨b,o,rfl,c0,v,c1,hv⟩:=(hA.below hB).at hr
   have hS:=jp4 r v wr hv (cr r (lmg hr))
   go_wp2_with fail
   refine hS.mono ?_
   rintro e w2 ⟨q,rfl,hq,dR,dC,ac⟩
   have aM:=hR.below ac
   have ch:=hF.below ac
   have an:=qtr hB ac
   have je:k*2+2<=l.length*2:=by omega
   obtain⟨⟨u0,iR⟩,gC⟩:=aM (k*2) (by omega)
   obtain⟨⟨u1,wl⟩,dg⟩:=aM (k*2+1) (by omega)
   have R3:=jb9 (cs:=[.string r.name,so q r.eras.length r.eras.length]) (o:=k*2) aM
   have F3:=ch.put aM hr je (by omega) dR dC
   have B3:=jb3 (cs:=[.string r.name,so q r.eras.length r.eras.length]) (o:=k*2) an (nlr _)
   simp only[jbk]at R3 F3 B3
   have Fa:w.heap.size<w2.heap.size:=by have:=ac.size;omega
   clear aM ch an
   go_wp2
   go_roundw
   case rel=>exact⟨k+1,by omega,by go_num,R3,F3,B3,by simpa using Fa⟩
   case measure=>simp[intOf];omega
  ·have e:k=l.length:=by omega
   subst e
   go_wp2
   go_ret
   exact⟨rfl,hF,hR,hB⟩
theorem jp5(r:RuleD)(w:World):
  Cl 72 #[r.v] w fun e w'=>e=.returned r.v/\Bw w w':=by
 obtain⟨name,lo,hi,month,on,at_,of,save,letter⟩:=r
 simp only[RuleD.v]at *
 unfold Cl;go_in
 go_wp2
 exact bpr (v:=.agg #[.string name,iv lo,iv hi,iv month,.string on,iv at_,.string of,iv save,.string letter]) (by simp[results,Tryz.results72,go_sem]) rfl ⟨rfl,((qal _ _).alloc (by simp) _).alloc (by simp;omega) _⟩
theorem jr3:∃i:TypeInfo,Tryz.prog.info? 77=some i/\i.zero=some (.agg #[.string ⟨#[]⟩,iv 0,iv 0,iv 0,.string ⟨#[]⟩,iv 0,.string ⟨#[]⟩,iv 0,.string ⟨#[]⟩])/\i.size=9/\i.bytes=104:=⟨_,rfl,rfl,rfl,rfl⟩
theorem jnv(l:List RuleD)(a:Option Addr)(cap:Nat)(w:World)(hA:Za w a 9 (l.map RuleD.cs))(hl:l.length<=1048576):
  Cl 39 #[.slice a l.length cap] w fun e w'=>e=.returned (.slice (some (ad w.heap.size 0)) l.length l.length)/\Za w' (some (ad w.heap.size 0)) 9 (l.map RuleD.cs)/\Zg w' w.heap.size (l.length*9)/\Bw w w':=by
 obtain⟨i0,hi,aG,aH,aF⟩:=jr3
 obtain⟨w1,dk,ai,dp⟩:=run_make_full (P:=Tryz.prog) w w.heap.size 33 77 i0 _ 9 Tryz.underlying33 hi aG aH .i64 .i64 l.length (by rw[aF];omega) (by unfold maxLen;omega) (nlr _)
 have hR:=jd4 ai
 have hB:Bw w w1:=(brf _ _).grown dp (nlr _) (fun k hk=>by cases hk)
 have fk:(l.map RuleD.cs).length=l.length:=by simp
 have au:∀r∈l.map RuleD.cs,r.length=9:=fun r hr=>by
  obtain⟨x,_,rfl⟩:=List.mem_map.mp hr;rfl
 clear hi aG aH aF ai dp
 unfold Cl;go_in
 go_wp2
 go_loopw [4] (fun i wr=>∃k:Nat,k<=l.length/\i=iv k/\Zg wr w.heap.size (l.length*9)/\Ze wr w.heap.size 9 k (l.map RuleD.cs)/\Bw w wr) (fun i _=>l.length-(intOf i).toNat)
 case atStart=>exact⟨0,by omega,rfl,hR,fun i j r c h=>by omega,hB⟩
 case round=>
  clear hR hB dk
  obtain⟨k,hk,rfl,hR,hF,hB⟩:=hrel
  by_cases hlt:k<l.length
  ·obtain⟨r,hr⟩:=qgg hlt
   have ap:(l.map RuleD.cs)[k]? =some r.cs:=by rw[lgm,hr];rfl
   obtain⟨b,o,rfl,hc⟩:=(hA.below hB).at (i:=k) ap
   have hS:=fun w=>jp5 r w
   have c0:wr.cell? (ad b (o+k*9))=some (.string r.name):=hc 0 _ rfl
   have c1:=hc 1 _ rfl
   have c2:=hc 2 _ rfl
   have c3:=hc 3 _ rfl
   have c4:=hc 4 _ rfl
   have c5:=hc 5 _ rfl
   have c6:=hc 6 _ rfl
   have c7:=hc 7 _ rfl
   have c8:=hc 8 _ rfl
   clear hc
   unfold RuleD.v at hS
   go_wp2_with fail
   refine(hS _).mono ?_
   rintro e w2 ⟨rfl,ac⟩
   have aM:=hR.below ac
   have ch:=hF.below ac
   have an:=qtr hB ac
   have je:k*9+9<=l.length*9:=by omega
   obtain⟨⟨u0,iR⟩,gC⟩:=aM (k*9) (by omega)
   obtain⟨⟨u1,wl⟩,dg⟩:=aM (k*9+1) (by omega)
   obtain⟨⟨u2,Q9⟩,eE⟩:=aM (k*9+2) (by omega)
   obtain⟨⟨u3,R9⟩,gE⟩:=aM (k*9+3) (by omega)
   obtain⟨⟨u4,Rs⟩,oy⟩:=aM (k*9+4) (by omega)
   obtain⟨⟨u5,S3⟩,Q8⟩:=aM (k*9+5) (by omega)
   obtain⟨⟨u6,TC⟩,Tx⟩:=aM (k*9+6) (by omega)
   obtain⟨⟨u7,TD⟩,Ty⟩:=aM (k*9+7) (by omega)
   obtain⟨⟨u8,UN⟩,UL⟩:=aM (k*9+8) (by omega)
   have hW:jbk w2 w.heap.size (k*9) r.cs=(((((((((w2.setCell (ad w.heap.size (k*9)) (.string r.name)).setCell (ad w.heap.size (k*9+1)) (iv r.lo)).setCell (ad w.heap.size (k*9+2)) (iv r.hi)).setCell (ad w.heap.size (k*9+3)) (iv r.month)).setCell (ad w.heap.size (k*9+4)) (.string r.on)).setCell (ad w.heap.size (k*9+5)) (iv r.at_)).setCell (ad w.heap.size (k*9+6)) (.string r.of)).setCell (ad w.heap.size (k*9+7)) (iv r.save)).setCell (ad w.heap.size (k*9+8)) (.string r.letter)):=by simp only[jbk,RuleD.cs,Nat.add_assoc,Nat.reduceAdd]
   have R3:=jb9 (cs:=r.cs) (o:=k*9) aM
   have F3:=ch.put aM ap rfl je au
   have B3:=jb3 (cs:=r.cs) (o:=k*9) an (nlr _)
   rw[hW]at R3 F3 B3
   clear hW aM ch an
   go_wp2
   go_roundw
   case rel=>exact⟨k+1,by omega,by go_num,R3,F3,B3⟩
   case measure=>simp[intOf];omega
  ·have e:k=l.length:=by omega
   subst e
   go_wp2
   go_ret
   exact⟨rfl,Ze.seq (by rw[fk];exact hF),hR,hB⟩
theorem jqd(r:RuleD)(w:World):
  Cl 85 #[r.v,r.v] w fun e w'=>e=.returned (.bool true)/\Bw w w':=by
 obtain⟨name,lo,hi,month,on,at_,of,save,letter⟩:=r
 simp only[RuleD.v]at *
 unfold Cl;go_in
 go_wp2
 go_ret
 exact⟨rfl,(qal _ _).alloc (by simp) _⟩
theorem jn6(l:List RuleD)(a a2:Option Addr)(cap bL:Nat)(w:World)(hA:Za w a 9 (l.map RuleD.cs))(cY:Za w a2 9 (l.map RuleD.cs))(hl:l.length<=1048576):
  Cl 52 #[.slice a l.length cap,.slice a2 l.length bL] w fun e w'=>e=.returned (.bool true)/\Bw w w':=by
 unfold Cl;go_in
 go_wp2
 go_loopw [5] (fun i wr=>∃k:Nat,k<=l.length/\i=iv k/\Bw w wr) (fun i _=>l.length-(intOf i).toNat)
 case atStart=>exact⟨0,by omega,rfl,brf _ _⟩
 case round=>
  obtain⟨k,hk,rfl,hB⟩:=hrel
  by_cases hlt:k<l.length
  ·obtain⟨r,hr⟩:=qgg hlt
   have ap:(l.map RuleD.cs)[k]? =some r.cs:=by rw[lgm,hr];rfl
   obtain⟨b,o,rfl,hc⟩:=(hA.below hB).at (i:=k) ap
   obtain⟨b2,o2,rfl,hd⟩:=(cY.below hB).at (i:=k) ap
   have hS:=fun w=>jqd r w
   have c0:wr.cell? (ad b (o+k*9))=some (.string r.name):=hc 0 _ rfl
   have d0:wr.cell? (ad b2 (o2+k*9))=some (.string r.name):=hd 0 _ rfl
   have c1:=hc 1 _ rfl
   have d1:=hd 1 _ rfl
   have c2:=hc 2 _ rfl
   have d2:=hd 2 _ rfl
   have c3:=hc 3 _ rfl
   have d3:=hd 3 _ rfl
   have c4:=hc 4 _ rfl
   have d4:=hd 4 _ rfl
   have c5:=hc 5 _ rfl
   have d5:=hd 5 _ rfl
   have c6:=hc 6 _ rfl
   have d6:=hd 6 _ rfl
   have c7:=hc 7 _ rfl
   have d7:=hd 7 _ rfl
   have c8:=hc 8 _ rfl
   have d8:=hd 8 _ rfl
   clear hc hd
   unfold RuleD.v at hS
   have cE:∀dd os,Cl _ _ (grow (redrawn wr dd) os) fun e cW=>e=.returned (.bool true)/\∃p:Regrown,cW=grow (redrawn wr p.d) p.os:=fun _ _=>Calls.regrown_of (hS _)
   have qT:=cell_regrown c0
   have ws:=cell_regrown d0
   have qU:=cell_regrown c1
   have xc:=cell_regrown d1
   have S5:=cell_regrown c2
   have SX:=cell_regrown d2
   have SF:=cell_regrown c3
   have SY:=cell_regrown d3
   have SV:=cell_regrown c4
   have SZ:=cell_regrown d4
   have SW:=cell_regrown c5
   have T3:=cell_regrown d5
   have TJ:=cell_regrown c6
   have TL:=cell_regrown d6
   have TK:=cell_regrown c7
   have TM:=cell_regrown d7
   have UP:=cell_regrown c8
   have UQ:=cell_regrown d8
   go_wp2_with fail
   refine wp_region_quiet_below (by kernel_rfl) (by kernel_rfl) ?_
   repeat (quiet_step ((go_at_call 85;exact cE _ _)))
   refine wpQuiet_nil ?_
   intro _ bM
   obtain⟨⟨dq,aQ⟩,aO⟩:=bM
   subst aO
   have ac:=below_regrown wr dq aQ
   go_wp2
   go_roundw
   case rel=>exact⟨k+1,by omega,by go_num,(qtr hB ac)⟩
   case measure=>simp[intOf];omega
  ·have e:k=l.length:=by omega
   subst e
   go_wp2
   go_ret
   exact⟨rfl,hB⟩
structure LinkD where
 to_:ByteArray
 name:ByteArray
def LinkD.cs(r:LinkD):List Value:=[.string r.to_,.string r.name]
def LinkD.v(r:LinkD):Value:=.agg #[.string r.to_,.string r.name]
def LinkD.sz(r:LinkD):Nat:=r.to_.size+r.name.size
def LinkD.ok(r:LinkD):Prop:=r.to_.size<=maxLen/\r.name.size<=maxLen
theorem jqa(r:LinkD)(n:Int)(w:World)(h0:0<=n)(h1:n<=1048576)(hm:r.ok):
  Cl 59 #[r.v,iv n] w fun e w'=>e=.returned (iv (clip (n-r.sz)))/\Bw w w':=by
 obtain⟨to_,name⟩:=r
 simp only[LinkD.v,LinkD.sz,LinkD.ok]at *
 unfold maxLen at *
 by_cases g1:n<to_.size
 ·have HR:Hid (clip (n-↑(to_.size+name.size))= -1):=jal (by omega)
  unfold Cl;go_in
  go_wp2
  go_ret
  exact⟨ret_int HR.out.symm,qal _ _⟩
 by_cases g2:n<to_.size+name.size
 ·have HR:Hid (clip (n-↑(to_.size+name.size))= -1):=jal (by omega)
  unfold Cl;go_in
  go_wp2
  go_ret
  exact⟨ret_int HR.out.symm,qal _ _⟩
 unfold Cl;go_in
 go_wp2
 go_ret
 exact⟨ret_int (by rw[jbb (by omega)];try omega),qal _ _⟩
def lsz(l:List LinkD):Nat:=(l.map LinkD.sz).sum
theorem jzk{l:List LinkD}{k:Nat}{r:LinkD}(h:l[k]? =some r):lsz (l.take (k+1))=lsz (l.take k)+r.sz:=by
 unfold lsz
 rw[List.take_add_one,h]
 simp
theorem j3j(l:List LinkD)(k:Nat):lsz (l.take k)<=lsz l:=by
 have:=congrArg (fun l=>(l.map LinkD.sz).sum) (List.take_append_drop k l)
 simp only[lma,List.sum_append]at this
 unfold lsz
 omega
theorem jn2(l:List LinkD)(a:Option Addr)(cap:Nat)(n:Int)(w:World)(hA:Za w a 2 (l.map LinkD.cs))(gW:∀r∈l,r.ok)(hl:l.length<=maxLen)(h0:0<=n)(h1:n<=1048576):
  Cl 28 #[.slice a l.length cap,iv n] w fun e w'=>e=.returned (iv (clip (n-(l.length+lsz l))))/\Bw w w':=by
 unfold maxLen at hl
 by_cases g0:n<l.length
 ·have HR:Hid (clip (n-(l.length+lsz l))= -1):=jal (by omega)
  unfold Cl;go_in
  go_wp2
  go_ret
  exact⟨ret_int HR.out.symm,brf _ _⟩
 unfold Cl;go_in
 go_wp2
 go_loopw [1,5] (fun x i wr=>∃k:Nat,k<=l.length/\i=iv k/\x=iv (n-l.length-lsz (l.take k))/\Hid (0<=n-l.length-lsz (l.take k))/\Bw w wr) (fun _ i _=>l.length-(intOf i).toNat)
 case atStart=>exact⟨0,by omega,rfl,by simp[lsz],by simp[lsz,Hid];omega,brf _ _⟩
 case round=>
  obtain⟨k,hk,rfl,rfl,hp,hB⟩:=hrel
  by_cases hlt:k<l.length
  ·obtain⟨r,hr⟩:=qgg hlt
   obtain⟨b,o,rfl,hc⟩:=(hA.below hB).at (i:=k) (r:=r.cs) (by rw[lgm,hr];rfl)
   have ok:=gW r (lmg hr)
   have lG:=hp.out
   have ht:=jzk hr
   have cr:=j3j l (k+1)
   have hS:=fun w=>jqa r (n-l.length-lsz (l.take k)) w (by omega) (by omega) ok
   have c0:wr.cell? (ad b (o+k*2))=some (.string r.to_):=hc 0 _ rfl
   have c1:=hc 1 _ rfl
   clear hc
   unfold LinkD.v at hS
   by_cases g:n-l.length-lsz (l.take k)-r.sz<0
   ·have HR:Hid (clip (n-(l.length+lsz l))= -1):=jal (by omega)
    rw[jal g]at hS
    go_wp2_with fail
    refine(hS _).mono ?_
    rintro e w2 ⟨rfl,ac⟩
    go_wp2
    go_ret
    exact⟨ret_int HR.out.symm,(qtr hB ac)⟩
   ·rw[jbb (by omega)]at hS
    have HN:Hid (n-l.length-lsz (l.take k)-r.sz=n-l.length-lsz (l.take (k+1))):=by simp only[Hid];omega
    go_wp2_with fail
    refine(hS _).mono ?_
    rintro e w2 ⟨rfl,ac⟩
    go_wp2
    go_roundw
    case rel=>exact⟨k+1,by omega,by go_num,by rw[HN.out],by have:=HN.out;simp only[Hid];omega,(qtr hB ac)⟩
    case measure=>simp[intOf];omega
  ·have e:k=l.length:=by omega
   subst e
   have HR:Hid (clip (n-(l.length+lsz l))=n-l.length-lsz (l.take l.length)):=by
    have:=hp.out
    simp only[Hid]
    rw[List.take_length]at this ⊢
    rw[jbb (by omega)];omega
   go_wp2
   go_ret
   exact⟨ret_int HR.out.symm,hB⟩
theorem jp6(r:LinkD)(w:World):
  Cl 74 #[r.v] w fun e w'=>e=.returned r.v/\Bw w w':=by
 obtain⟨to_,name⟩:=r
 simp only[LinkD.v]at *
 unfold Cl;go_in
 go_wp2
 exact bpr (v:=.agg #[.string to_,.string name]) (by simp[results,Tryz.results74,go_sem]) rfl ⟨rfl,((qal _ _).alloc (by simp) _).alloc (by simp;omega) _⟩
theorem jr4:∃i:TypeInfo,Tryz.prog.info? 84=some i/\i.zero=some (.agg #[.string ⟨#[]⟩,.string ⟨#[]⟩])/\i.size=2/\i.bytes=32:=⟨_,rfl,rfl,rfl,rfl⟩
theorem jnw(l:List LinkD)(a:Option Addr)(cap:Nat)(w:World)(hA:Za w a 2 (l.map LinkD.cs))(hl:l.length<=1048576):
  Cl 41 #[.slice a l.length cap] w fun e w'=>e=.returned (.slice (some (ad w.heap.size 0)) l.length l.length)/\Za w' (some (ad w.heap.size 0)) 2 (l.map LinkD.cs)/\Zg w' w.heap.size (l.length*2)/\Bw w w':=by
 obtain⟨i0,hi,aG,aH,aF⟩:=jr4
 obtain⟨w1,dk,ai,dp⟩:=run_make_full (P:=Tryz.prog) w w.heap.size 35 84 i0 _ 2 Tryz.underlying35 hi aG aH .i64 .i64 l.length (by rw[aF];omega) (by unfold maxLen;omega) (nlr _)
 have hR:=jd4 ai
 have hB:Bw w w1:=(brf _ _).grown dp (nlr _) (fun k hk=>by cases hk)
 have fk:(l.map LinkD.cs).length=l.length:=by simp
 have au:∀r∈l.map LinkD.cs,r.length=2:=fun r hr=>by
  obtain⟨x,_,rfl⟩:=List.mem_map.mp hr;rfl
 clear hi aG aH aF ai dp
 unfold Cl;go_in
 go_wp2
 go_loopw [4] (fun i wr=>∃k:Nat,k<=l.length/\i=iv k/\Zg wr w.heap.size (l.length*2)/\Ze wr w.heap.size 2 k (l.map LinkD.cs)/\Bw w wr) (fun i _=>l.length-(intOf i).toNat)
 case atStart=>exact⟨0,by omega,rfl,hR,fun i j r c h=>by omega,hB⟩
 case round=>
  clear hR hB dk
  obtain⟨k,hk,rfl,hR,hF,hB⟩:=hrel
  by_cases hlt:k<l.length
  ·obtain⟨r,hr⟩:=qgg hlt
   have ap:(l.map LinkD.cs)[k]? =some r.cs:=by rw[lgm,hr];rfl
   obtain⟨b,o,rfl,hc⟩:=(hA.below hB).at (i:=k) ap
   have hS:=fun w=>jp6 r w
   have c0:wr.cell? (ad b (o+k*2))=some (.string r.to_):=hc 0 _ rfl
   have c1:=hc 1 _ rfl
   clear hc
   unfold LinkD.v at hS
   go_wp2_with fail
   refine(hS _).mono ?_
   rintro e w2 ⟨rfl,ac⟩
   have aM:=hR.below ac
   have ch:=hF.below ac
   have an:=qtr hB ac
   have je:k*2+2<=l.length*2:=by omega
   obtain⟨⟨u0,iR⟩,gC⟩:=aM (k*2) (by omega)
   obtain⟨⟨u1,wl⟩,dg⟩:=aM (k*2+1) (by omega)
   have hW:jbk w2 w.heap.size (k*2) r.cs=((w2.setCell (ad w.heap.size (k*2)) (.string r.to_)).setCell (ad w.heap.size (k*2+1)) (.string r.name)):=by simp only[jbk,LinkD.cs]
   have R3:=jb9 (cs:=r.cs) (o:=k*2) aM
   have F3:=ch.put aM ap rfl je au
   have B3:=jb3 (cs:=r.cs) (o:=k*2) an (nlr _)
   rw[hW]at R3 F3 B3
   clear hW aM ch an
   go_wp2
   go_roundw
   case rel=>exact⟨k+1,by omega,by go_num,R3,F3,B3⟩
   case measure=>simp[intOf];omega
  ·have e:k=l.length:=by omega
   subst e
   go_wp2
   go_ret
   exact⟨rfl,Ze.seq (by rw[fk];exact hF),hR,hB⟩
theorem jqe(r:LinkD)(w:World):
  Cl 87 #[r.v,r.v] w fun e w'=>e=.returned (.bool true)/\Bw w w':=by
 obtain⟨to_,name⟩:=r
 simp only[LinkD.v]at *
 unfold Cl;go_in
 go_wp2
 go_ret
 exact⟨rfl,(qal _ _).alloc (by simp) _⟩
theorem jn7(l:List LinkD)(a a2:Option Addr)(cap bL:Nat)(w:World)(hA:Za w a 2 (l.map LinkD.cs))(cY:Za w a2 2 (l.map LinkD.cs))(hl:l.length<=1048576):
  Cl 54 #[.slice a l.length cap,.slice a2 l.length bL] w fun e w'=>e=.returned (.bool true)/\Bw w w':=by
 unfold Cl;go_in
 go_wp2
 go_loopw [5] (fun i wr=>∃k:Nat,k<=l.length/\i=iv k/\Bw w wr) (fun i _=>l.length-(intOf i).toNat)
 case atStart=>exact⟨0,by omega,rfl,brf _ _⟩
 case round=>
  obtain⟨k,hk,rfl,hB⟩:=hrel
  by_cases hlt:k<l.length
  ·obtain⟨r,hr⟩:=qgg hlt
   have ap:(l.map LinkD.cs)[k]? =some r.cs:=by rw[lgm,hr];rfl
   obtain⟨b,o,rfl,hc⟩:=(hA.below hB).at (i:=k) ap
   obtain⟨b2,o2,rfl,hd⟩:=(cY.below hB).at (i:=k) ap
   have hS:=fun w=>jqe r w
   have c0:wr.cell? (ad b (o+k*2))=some (.string r.to_):=hc 0 _ rfl
   have d0:wr.cell? (ad b2 (o2+k*2))=some (.string r.to_):=hd 0 _ rfl
   have c1:=hc 1 _ rfl
   have d1:=hd 1 _ rfl
   clear hc hd
   unfold LinkD.v at hS
   have cE:∀dd os,Cl _ _ (grow (redrawn wr dd) os) fun e cW=>e=.returned (.bool true)/\∃p:Regrown,cW=grow (redrawn wr p.d) p.os:=fun _ _=>Calls.regrown_of (hS _)
   have qT:=cell_regrown c0
   have ws:=cell_regrown d0
   have qU:=cell_regrown c1
   have xc:=cell_regrown d1
   go_wp2_with fail
   refine wp_region_quiet_below (by kernel_rfl) (by kernel_rfl) ?_
   repeat (quiet_step ((go_at_call 87;exact cE _ _)))
   refine wpQuiet_nil ?_
   intro _ bM
   obtain⟨⟨dq,aQ⟩,aO⟩:=bM
   subst aO
   have ac:=below_regrown wr dq aQ
   go_wp2
   go_roundw
   case rel=>exact⟨k+1,by omega,by go_num,(qtr hB ac)⟩
   case measure=>simp[intOf];omega
  ·have e:k=l.length:=by omega
   subst e
   go_wp2
   go_ret
   exact⟨rfl,hB⟩
theorem jqc(z:ZoneD)(v v2:Value)(w:World)(hv:Jf w v z.eras)(eQ:Jf w v2 z.eras)(hl:z.eras.length<=1048576):
  Cl 86 #[.agg #[.string z.name,v],.agg #[.string z.name,v2]] w fun e w'=>e=.returned (.bool true)/\Bw w w':=by
 obtain⟨a,cap,rfl,hA⟩:=hv
 obtain⟨a2,bL,rfl,cY⟩:=eQ
 obtain⟨name,es⟩:=z
 simp only at *
 have hE:=fun w (h:Za w a 6 (es.map EraD.cs)) (h2:Za w a2 6 (es.map EraD.cs))=>jqf es a a2 cap bL w h h2 hl
 have bg:∀o o2,Bw w ((w.alloc o).alloc o2):=fun o o2=>(qal _ o).alloc (by simp) o2
 unfold Cl;go_in
 go_wp2_with fail
 refine(hE _ (hA.below (bg _ _)) (cY.below (bg _ _))).mono ?_
 rintro e w1 ⟨rfl,hb⟩
 go_wp2
 go_ret
 exact⟨rfl,(bg _ _).trans (hb.mono (by simp;omega))⟩
theorem jn4(l:List ZoneD)(a a2:Option Addr)(cap bL:Nat)(w:World)(hA:Zo w a l)(cY:Zo w a2 l)(hl:l.length<=1048576)(cr:∀z∈l,z.eras.length<=1048576):
  Cl 53 #[.slice a l.length cap,.slice a2 l.length bL] w fun e w'=>e=.returned (.bool true)/\Bw w w':=by
 unfold Cl;go_in
 go_wp2
 go_loopw [5] (fun i wr=>∃k:Nat,k<=l.length/\i=iv k/\Bw w wr) (fun i _=>l.length-(intOf i).toNat)
 case atStart=>exact⟨0,by omega,rfl,brf _ _⟩
 case round=>
  obtain⟨k,hk,rfl,hB⟩:=hrel
  by_cases hlt:k<l.length
  ·obtain⟨r,hr⟩:=qgg hlt
   obtain⟨b,o,rfl,c0,v,c1,hv⟩:=(hA.below hB).at hr
   obtain⟨b2,o2,rfl,d0,v2,d1,eQ⟩:=(cY.below hB).at hr
   have fk:=cr r (lmg hr)
   have cE:∀dd os,Cl 86 #[.agg #[.string r.name,v],.agg #[.string r.name,v2]] (grow (redrawn wr dd) os) fun e cW=>e=.returned (.bool true)/\∃p:Regrown,cW=grow (redrawn wr p.d) p.os:=fun dd os=>Calls.regrown_of (jqc r v v2 _ (hv.below (below_regrown wr dd os)) (eQ.below (below_regrown wr dd os)) fk)
   have qT:=cell_regrown c0
   have qU:=cell_regrown c1
   have ws:=cell_regrown d0
   have xc:=cell_regrown d1
   go_wp2_with fail
   refine wp_region_quiet_below (by kernel_rfl) (by kernel_rfl) ?_
   repeat (quiet_step ((go_at_call 86;exact cE _ _)))
   refine wpQuiet_nil ?_
   intro _ bM
   obtain⟨⟨dq,aQ⟩,aO⟩:=bM
   subst aO
   have ac:=below_regrown wr dq aQ
   go_wp2
   go_roundw
   case rel=>exact⟨k+1,by omega,by go_num,(qtr hB ac)⟩
   case measure=>simp[intOf];omega
  ·have e:k=l.length:=by omega
   subst e
   go_wp2
   go_ret
   exact⟨rfl,hB⟩
structure RelD where
 rules:List RuleD
 zones:List ZoneD
 links:List LinkD
def RelD.ok(r:RelD):Prop:=(r.rules.length<=maxLen/\∀x∈r.rules,x.ok)/\(r.zones.length<=maxLen/\∀x∈r.zones,x.ok)/\(r.links.length<=maxLen/\∀x∈r.links,x.ok)
def RelD.sz(r:RelD):Nat:=(r.rules.length+rsz r.rules)+(r.zones.length+zsz r.zones)+(r.links.length+lsz r.links)
structure Zd(w:World)(v:Value)(r:RelD):Prop where
 form:∃a b c ca cb cc,v=.agg #[.slice a r.rules.length ca,.slice b r.zones.length cb,.slice c r.links.length cc]/\Za w a 9 (r.rules.map RuleD.cs)/\Zo w b r.zones/\Za w c 2 (r.links.map LinkD.cs)
theorem Zd.below{w w':World}{v:Value}{r:RelD}(h:Zd w v r)(hb:Bw w w'):Zd w' v r:=by
 obtain⟨a,b,c,ca,cb,cc,hv,h1,h2,h3⟩:=h.form
 exact⟨a,b,c,ca,cb,cc,hv,h1.below hb,h2.below hb,h3.below hb⟩
theorem jey(r:RelD)(v:Value)(n:Int)(w:World)(hv:Zd w v r)(hm:r.ok)(h0:0<=n)(h1:n<=1048576):
  Cl 9 #[v,iv n] w fun e w'=>e=.returned (iv (clip (n-r.sz)))/\Bw w w':=by
 obtain⟨a,b,c,ca,cb,cc,rfl,hA,hB,hC⟩:=hv.form
 obtain⟨⟨p1,p2⟩,⟨q1,q2⟩,⟨s1,s2⟩⟩:=hm
 obtain⟨rs,zs,ls⟩:=r
 simp only[RelD.sz]at *
 have bg:∀o,Bw w (w.alloc o):=fun o=>qal _ o
 have hR:=fun w (h:Za w a 9 (rs.map RuleD.cs))=>jn1 rs a ca n w h p2 p1 h0 h1
 by_cases g1:n-(rs.length+rsz rs)<0
 ·have HR:Hid (clip (n-↑(rs.length+rsz rs+(zs.length+zsz zs)+(ls.length+lsz ls)))= -1):=jal (by omega)
  rw[jal g1]at hR
  unfold Cl;go_in
  go_wp2_with fail
  refine(hR _ (hA.below (bg _))).mono ?_
  rintro e w1 ⟨rfl,hb1⟩
  go_wp2
  go_ret
  exact⟨ret_int HR.out.symm,(bg _).trans (hb1.mono (by simp))⟩
 rw[jbb (by omega)]at hR
 have hZ:=fun w (h:Zo w b zs)=>jnz zs b cb (n-(rs.length+rsz rs)) w h q2 q1 (by omega) (by omega)
 by_cases g2:n-(rs.length+rsz rs)-(zs.length+zsz zs)<0
 ·have HR:Hid (clip (n-↑(rs.length+rsz rs+(zs.length+zsz zs)+(ls.length+lsz ls)))= -1):=jal (by omega)
  rw[jal g2]at hZ
  unfold Cl;go_in
  go_wp2_with fail
  refine(hR _ (hA.below (bg _))).mono ?_
  rintro e w1 ⟨rfl,hb1⟩
  have aj:=(bg _).trans (hb1.mono (by simp))
  obtain⟨hc,_⟩:=jaf hb1
  have hlt:w.heap.size<w1.heap.size:=by have:=hb1.size;simp at this;omega
  go_wp2_with fail
  refine(hZ _ (hB.below aj)).mono ?_
  rintro e w2 ⟨rfl,ac⟩
  go_wp2
  go_ret
  exact⟨ret_int HR.out.symm,(qtr aj ac)⟩
 rw[jbb (by omega)]at hZ
 have hL:=fun w (h:Za w c 2 (ls.map LinkD.cs))=>jn2 ls c cc (n-(rs.length+rsz rs)-(zs.length+zsz zs)) w h s2 s1 (by omega) (by omega)
 have tail:∀m,clip (n-(rs.length+rsz rs)-(zs.length+zsz zs)-(ls.length+lsz ls))=m->clip (n-↑(rs.length+rsz rs+(zs.length+zsz zs)+(ls.length+lsz ls)))=m:=fun m h=>by rw[<- h];congr 1;omega
 by_cases g3:n-(rs.length+rsz rs)-(zs.length+zsz zs)-(ls.length+lsz ls)<0
 ·have HR:Hid (clip (n-↑(rs.length+rsz rs+(zs.length+zsz zs)+(ls.length+lsz ls)))= -1):=tail _ (jal g3)
  rw[jal g3]at hL
  clear tail
  unfold Cl;go_in
  go_wp2_with fail
  refine(hR _ (hA.below (bg _))).mono ?_
  rintro e w1 ⟨rfl,hb1⟩
  have aj:=(bg _).trans (hb1.mono (by simp))
  obtain⟨hc,_⟩:=jaf hb1
  have hlt:w.heap.size<w1.heap.size:=by have:=hb1.size;simp at this;omega
  go_wp2_with fail
  refine(hZ _ (hB.below aj)).mono ?_
  rintro e w2 ⟨rfl,ac⟩
  have an:=qtr aj ac
  obtain⟨cU,_⟩:=jaf ac
  go_wp2_with fail
  refine(hL _ (hC.below an)).mono ?_
  rintro e w3 ⟨rfl,ar⟩
  go_wp2
  go_ret
  exact⟨ret_int HR.out.symm,(qtr an ar)⟩
 ·have HR:Hid (clip (n-↑(rs.length+rsz rs+(zs.length+zsz zs)+(ls.length+lsz ls)))=n-(rs.length+rsz rs)-(zs.length+zsz zs)-(ls.length+lsz ls)):=tail _ (jbb (by omega))
  rw[jbb (by omega)]at hL
  clear tail
  unfold Cl;go_in
  go_wp2_with fail
  refine(hR _ (hA.below (bg _))).mono ?_
  rintro e w1 ⟨rfl,hb1⟩
  have aj:=(bg _).trans (hb1.mono (by simp))
  obtain⟨hc,_⟩:=jaf hb1
  have hlt:w.heap.size<w1.heap.size:=by have:=hb1.size;simp at this;omega
  go_wp2_with fail
  refine(hZ _ (hB.below aj)).mono ?_
  rintro e w2 ⟨rfl,ac⟩
  have an:=qtr aj ac
  obtain⟨cU,_⟩:=jaf ac
  go_wp2_with fail
  refine(hL _ (hC.below an)).mono ?_
  rintro e w3 ⟨rfl,ar⟩
  go_wp2
  go_ret
  exact⟨ret_int HR.out.symm,(qtr an ar)⟩
def Jj(B:Nat)(w w':World):Prop:=∀g x,B<=g->w'.cell? (ad g x)=w.cell? (ad g x)/\w'.frozen? (ad g x)=w.frozen? (ad g x)
theorem Jj.set{B:Nat}{w w':World}(h:Jj B w w'){p i:Nat}(hp:p<B)(v:Value):Jj B w (w'.setCell (ad p i) v):=fun g x hg=>
 ⟨by rw[wco _ _ _ _ (jcv (by omega))];exact(h g x hg).1,by rw[World.frozen?_setCell];exact(h g x hg).2⟩
theorem Jj.refl(B:Nat)(w:World):Jj B w w:=fun _ _ _=>⟨rfl,rfl⟩
theorem Za.from{B g k:Nat}{w w':World}{rows:List (List Value)}(h:Za w (some (ad g 0)) k rows)(hf:Jj B w w')(hg:B<=g):Za w' (some (ad g 0)) k rows:=h.keep fun x=>(hf g x hg).1
theorem Zg.from{B g m:Nat}{w w':World}(h:Zg w g m)(hf:Jj B w w')(hg:B<=g):Zg w' g m:=h.keep (fun x=>(hf g x hg).1) (fun x=>(hf g x hg).2)
theorem Zu.from{B g k:Nat}{w w':World}{zs:List ZoneD}(h:Zu w g k zs)(hf:Jj B w w')(hg:B<=g):Zu w' g k zs:=fun i z hi hz=>by
 obtain⟨c0,q,hq,c1,hs,hr⟩:=h i z hi hz
 exact⟨by rw[(hf g _ hg).1];exact c0,q,hq,by rw[(hf g _ hg).1];exact c1,hs.from hf (by omega),hr.from hf (by omega)⟩
structure Zq(w:World)(B:Nat)(v:Value)(r:RelD):Prop where
 form:∃a b c,v=.agg #[so a r.rules.length r.rules.length,so b r.zones.length r.zones.length,so c r.links.length r.links.length]/\
  (B<=a/\B<=b/\B<=c)/\(Za w (some (ad a 0)) 9 (r.rules.map RuleD.cs)/\Zg w a (r.rules.length*9))/\(Zu w b r.zones.length r.zones/\Zg w b (r.zones.length*2))/\(Za w (some (ad c 0)) 2 (r.links.map LinkD.cs)/\Zg w c (r.links.length*2))
theorem Zq.rel{w:World}{B:Nat}{v:Value}{r:RelD}(h:Zq w B v r):Zd w v r:=by
 obtain⟨a,b,c,hv,_,⟨h1,_⟩,⟨h2,_⟩,⟨h3,_⟩⟩:=h.form
 exact⟨_,_,_,_,_,_,hv,h1,h2.zones,h3⟩
theorem Zq.below{w w':World}{B:Nat}{v:Value}{r:RelD}(h:Zq w B v r)(hb:Bw w w'):Zq w' B v r:=by
 obtain⟨a,b,c,hv,hB,⟨h1,k1⟩,⟨h2,k2⟩,⟨h3,k3⟩⟩:=h.form
 exact⟨a,b,c,hv,hB,⟨h1.below hb,k1.below hb⟩,⟨h2.below hb,k2.below hb⟩,⟨h3.below hb,k3.below hb⟩⟩
theorem jne{w:World}{b:Nat}{x0 x1 x2 v0 v1 v2:Value}(h0:w.cell? (ad b 0)=some x0)(h1:w.cell? (ad b 1)=some x1)(h2:w.cell? (ad b 2)=some x2):
  (((w.setCell (ad b 0) v0).setCell (ad b 1) v1).setCell (ad b 2) v2).cell? (ad b 0)=some v0/\(((w.setCell (ad b 0) v0).setCell (ad b 1) v1).setCell (ad b 2) v2).cell? (ad b 1)=some v1/\(((w.setCell (ad b 0) v0).setCell (ad b 1) v1).setCell (ad b 2) v2).cell? (ad b 2)=some v2:=by
 refine⟨?_,?_,?_⟩
 ·rw[wco _ _ _ _ (by simp),wco _ _ _ _ (by simp),wcs _ _ _ h0]
 ·rw[wco _ _ _ _ (by simp)]
  refine wcs _ _ _ (u:=x1) ?_
  rw[wco _ _ _ _ (by simp)];exact h1
 ·refine wcs _ _ _ (u:=x2) ?_
  rw[wco _ _ _ _ (by simp),wco _ _ _ _ (by simp)];exact h2
def RelD.small(r:RelD):Prop:=r.rules.length<=1048576/\r.zones.length<=1048576/\r.links.length<=1048576/\∀z∈r.zones,z.eras.length<=1048576
theorem jex(r:RelD)(v:Value)(w:World)(hv:Zd w v r)(hm:r.small):
  Cl 19 #[v] w fun e w'=>∃v',e=.returned v'/\Zq w' w.heap.size v' r/\Bw w w':=by
 obtain⟨a,b,c,ca,cb,cc,rfl,hA,hB,hC⟩:=hv.form
 obtain⟨m1,m2,m3,m4⟩:=hm
 obtain⟨rs,zs,ls⟩:=r
 simp only at *
 have hR:=fun w (h:Za w a 9 (rs.map RuleD.cs))=>jnv rs a ca w h m1
 have hZ:=fun w (h:Zo w b zs)=>jnt zs b cb w h m2 m4
 have hL:=fun w (h:Za w c 2 (ls.map LinkD.cs))=>jnw ls c cc w h m3
 unfold Cl;go_in
 go_wp2_with fail
 refine(hR _ (hA.below (jcz _ _ _ _))).mono ?_
 rintro e w1 ⟨rfl,q1,k1,hb1⟩
 obtain⟨aX,dg⟩:=jaf hb1
 have aj:Bw w w1:=(jcz w _ _ _).trans (hb1.mono (by simp;omega))
 have aH:w.heap.size+3<=w1.heap.size:=by have:=hb1.size;simp at this;omega
 simp only[j3q]at q1 k1
 have x1:w1.cell? (ad w.heap.size 1)=some (.slice b zs.length cb):=(aX _ _ (by simp;omega)).trans (by simp[go_sem])
 have x2:w1.cell? (ad w.heap.size 2)=some (.slice c ls.length cc):=(aX _ _ (by simp;omega)).trans (by simp[go_sem])
 have o0:w1.cell? (ad (w.heap.size+1+1) 0)=some nS:=(aX _ _ (by simp)).trans (by simp[go_sem])
 have o1:w1.cell? (ad (w.heap.size+1+1) 1)=some nS:=(aX _ _ (by simp)).trans (by simp[go_sem])
 have o2:w1.cell? (ad (w.heap.size+1+1) 2)=some nS:=(aX _ _ (by simp)).trans (by simp[go_sem])
 have s0:w1.cell? (ad (w.heap.size+1) 0)=some nS:=(aX _ _ (by simp)).trans (by simp[go_sem])
 have s1:w1.cell? (ad (w.heap.size+1) 1)=some nS:=(aX _ _ (by simp)).trans (by simp[go_sem])
 have s2:w1.cell? (ad (w.heap.size+1) 2)=some nS:=(aX _ _ (by simp)).trans (by simp[go_sem])
 have f2:∀i,w1.frozen? (ad (w.heap.size+1+1) i)=false:=fun i=>(dg _ _ (by simp)).trans (by simp[go_sem])
 have f1:∀i,w1.frozen? (ad (w.heap.size+1) i)=false:=fun i=>(dg _ _ (by simp)).trans (by simp[go_sem])
 clear aX dg hb1
 generalize cQ:w.heap.size+1+1+1=g1 at *
 go_wp2_with fail
 have lY:Bw w (w1.setCell (ad (w.heap.size+1+1) 0) (so g1 rs.length rs.length)):=aj.setCell (show w.heap.size<=w.heap.size+1+1 by omega) _
 refine(hZ _ (hB.below lY)).mono ?_
 rintro e w2 ⟨rfl,q2,k2,ac⟩
 obtain⟨cU,eE⟩:=jaf ac
 have an:=qtr lY ac
 have hsz:(w1.setCell (ad (w.heap.size+1+1) 0) (so g1 rs.length rs.length)).heap.size=w1.heap.size:=by simp
 have E4:Jj g1 w1 (w1.setCell (ad (w.heap.size+1+1) 0) (so g1 rs.length rs.length)):=(Jj.refl g1 w1).set (by omega) _
 have T8:=(q1.from E4 (nlr _)).below ac
 have S4:=(k1.from E4 (nlr _)).below ac
 have C2:∀p i,p<w1.heap.size->(p,i)≠(w.heap.size+1+1,0)->w2.cell? (ad p i)=w1.cell? (ad p i):=fun p i hp az=>by
  rw[cU _ _ (by rw[hsz];exact hp),wco]
  intro e;injection e with e1 e2;subst e1 e2;exact az rfl
 have F2:∀p i,p<w1.heap.size->w2.frozen? (ad p i)=w1.frozen? (ad p i):=fun p i hp=>by
  rw[eE _ _ (by rw[hsz];exact hp),World.frozen?_setCell]
 have y2:w2.cell? (ad w.heap.size 2)=some (.slice c ls.length cc):=(C2 _ _ (by omega) (by simp)).trans x2
 have O0:w2.cell? (ad (w.heap.size+1+1) 0)=some (so g1 rs.length rs.length):=(cU _ _ (by rw[hsz];omega)).trans (wcs _ _ _ o0)
 have O1:w2.cell? (ad (w.heap.size+1+1) 1)=some nS:=(C2 _ _ (by omega) (by simp)).trans o1
 have O2:w2.cell? (ad (w.heap.size+1+1) 2)=some nS:=(C2 _ _ (by omega) (by simp)).trans o2
 have S0:w2.cell? (ad (w.heap.size+1) 0)=some nS:=(C2 _ _ (by omega) (by simp)).trans s0
 have S1:w2.cell? (ad (w.heap.size+1) 1)=some nS:=(C2 _ _ (by omega) (by simp)).trans s1
 have S2:w2.cell? (ad (w.heap.size+1) 2)=some nS:=(C2 _ _ (by omega) (by simp)).trans s2
 have f4:∀i,w2.frozen? (ad (w.heap.size+1+1) i)=false:=fun i=>(F2 _ _ (by omega)).trans (f2 i)
 have f3:∀i,w2.frozen? (ad (w.heap.size+1) i)=false:=fun i=>(F2 _ _ (by omega)).trans (f1 i)
 rw[hsz]at q2 k2
 have aF:w1.heap.size<=w2.heap.size:=by have:=ac.size;rw[hsz]at this;exact this
 clear cU eE ac C2 F2 x1 x2 o0 o1 o2 s0 s1 s2 f1 f2 E4 q1 k1 lY
 generalize bR:w1.heap.size=g2 at *
 have Tr:=f4 1
 have Ts:=f4 2
 go_wp2_with fail
 have B6:Bw w (w2.setCell (ad (w.heap.size+1+1) 1) (so g2 zs.length zs.length)):=an.setCell (show w.heap.size<=w.heap.size+1+1 by omega) _
 refine(hL _ (hC.below B6)).mono ?_
 rintro e w3 ⟨rfl,q3,k3,ar⟩
 obtain⟨fw,gE⟩:=jaf ar
 have ax:=qtr B6 ar
 have NC:(w2.setCell (ad (w.heap.size+1+1) 1) (so g2 zs.length zs.length)).heap.size=w2.heap.size:=by simp
 have ch:Jj g1 w2 (w2.setCell (ad (w.heap.size+1+1) 1) (so g2 zs.length zs.length)):=(Jj.refl g1 w2).set (by omega) _
 have U1:=(T8.from ch (nlr _)).below ar
 have CT:=(S4.from ch (nlr _)).below ar
 have U2:=(q2.from ch (by omega)).below ar
 have TI:=(k2.from ch (by omega)).below ar
 have C3:∀p i,p<w2.heap.size->(p,i)≠(w.heap.size+1+1,1)->w3.cell? (ad p i)=w2.cell? (ad p i):=fun p i hp az=>by
  rw[fw _ _ (by rw[NC];exact hp),wco]
  intro e;injection e with e1 e2;subst e1 e2;exact az rfl
 have F3:∀p i,p<w2.heap.size->w3.frozen? (ad p i)=w2.frozen? (ad p i):=fun p i hp=>by
  rw[gE _ _ (by rw[NC];exact hp),World.frozen?_setCell]
 have P0:w3.cell? (ad (w.heap.size+1+1) 0)=some (so g1 rs.length rs.length):=(C3 _ _ (by omega) (by simp)).trans O0
 have P1:w3.cell? (ad (w.heap.size+1+1) 1)=some (so g2 zs.length zs.length):=(fw _ _ (by rw[NC];omega)).trans (wcs _ _ _ O1)
 have P2:w3.cell? (ad (w.heap.size+1+1) 2)=some nS:=(C3 _ _ (by omega) (by simp)).trans O2
 have T0:w3.cell? (ad (w.heap.size+1) 0)=some nS:=(C3 _ _ (by omega) (by simp)).trans S0
 have T1:w3.cell? (ad (w.heap.size+1) 1)=some nS:=(C3 _ _ (by omega) (by simp)).trans S1
 have T2:w3.cell? (ad (w.heap.size+1) 2)=some nS:=(C3 _ _ (by omega) (by simp)).trans S2
 have e2:w3.frozen? (ad (w.heap.size+1+1) 2)=false:=(F3 _ _ (by omega)).trans (f4 2)
 have UI:w3.frozen? (ad (w.heap.size+1) 0)=false:=(F3 _ _ (by omega)).trans (f3 0)
 have UJ:w3.frozen? (ad (w.heap.size+1) 1)=false:=(F3 _ _ (by omega)).trans (f3 1)
 have UK:w3.frozen? (ad (w.heap.size+1) 2)=false:=(F3 _ _ (by omega)).trans (f3 2)
 rw[NC]at q3 k3
 clear fw gE ar C3 F3 O0 O1 O2 S0 S1 S2 f3 f4 Tr Ts y2 ch T8 S4 q2 k2 B6 an
 have Fa:g2<=w2.heap.size:=aF
 generalize nK:w2.heap.size=g3 at *
 have X0:(w3.setCell (ad (w.heap.size+1+1) 2) (so g3 ls.length ls.length)).cell? (ad (w.heap.size+1) 0)=some nS:=by rw[wco _ _ _ _ (jcv (by omega))];exact T0
 have X1:(w3.setCell (ad (w.heap.size+1+1) 2) (so g3 ls.length ls.length)).cell? (ad (w.heap.size+1) 1)=some nS:=by rw[wco _ _ _ _ (jcv (by omega))];exact T1
 have X2:(w3.setCell (ad (w.heap.size+1+1) 2) (so g3 ls.length ls.length)).cell? (ad (w.heap.size+1) 2)=some nS:=by rw[wco _ _ _ _ (jcv (by omega))];exact T2
 obtain⟨r0,r1,r2⟩:=jne (v0:=so g1 rs.length rs.length) (v1:=so g2 zs.length zs.length) (v2:=so g3 ls.length ls.length) X0 X1 X2
 have eN:Jj g1 w3 ((((w3.setCell (ad (w.heap.size+1+1) 2) (so g3 ls.length ls.length)).setCell (ad (w.heap.size+1) 0) (so g1 rs.length rs.length)).setCell (ad (w.heap.size+1) 1) (so g2 zs.length zs.length)).setCell (ad (w.heap.size+1) 2) (so g3 ls.length ls.length)):=
  ((((Jj.refl g1 w3).set (by omega) _).set (by omega) _).set (by omega) _).set (by omega) _
 go_wp2
 refine bpr (v:=.agg #[so g1 rs.length rs.length,so g2 zs.length zs.length,so g3 ls.length ls.length]) (by simp[results,Tryz.results19,go_sem,r0,r1,r2]) rfl ⟨_,rfl,⟨g1,g2,g3,rfl,⟨by omega,by omega,by omega⟩,⟨U1.from eN (nlr _),CT.from eN (nlr _)⟩,⟨U2.from eN (by omega),TI.from eN (by omega)⟩,⟨q3.from eN (by omega),k3.from eN (by omega)⟩⟩,(((ax.setCell (show w.heap.size<=w.heap.size+1+1 by omega) _).setCell (show w.heap.size<=w.heap.size+1 by omega) _).setCell (show w.heap.size<=w.heap.size+1 by omega) _).setCell (show w.heap.size<=w.heap.size+1 by omega) _⟩
theorem jez(r:RelD)(v v2:Value)(w:World)(hv:Zd w v r)(eQ:Zd w v2 r)(hm:r.small):
  Cl 23 #[v,v2] w fun e w'=>e=.returned (.bool true)/\Bw w w':=by
 obtain⟨a,b,c,ca,cb,cc,rfl,hA,hB,hC⟩:=hv.form
 obtain⟨a2,b2,c2,fJ,l4,lg,rfl,cY,an,lx⟩:=eQ.form
 obtain⟨m1,m2,m3,m4⟩:=hm
 obtain⟨rs,zs,ls⟩:=r
 simp only at *
 have hR:=fun w (h:Za w a 9 (rs.map RuleD.cs)) (h2:Za w a2 9 (rs.map RuleD.cs))=>jn6 rs a a2 ca fJ w h h2 m1
 have hZ:=fun w (h:Zo w b zs) (h2:Zo w b2 zs)=>jn4 zs b b2 cb l4 w h h2 m2 m4
 have hL:=fun w (h:Za w c 2 (ls.map LinkD.cs)) (h2:Za w c2 2 (ls.map LinkD.cs))=>jn7 ls c c2 cc lg w h h2 m3
 have bg:∀o o2,Bw w ((w.alloc o).alloc o2):=fun o o2=>(qal _ o).alloc (by simp) o2
 clear hv eQ
 unfold Cl;go_in
 go_wp2_with fail
 refine(hR _ (hA.below (bg _ _)) (cY.below (bg _ _))).mono ?_
 rintro e w1 ⟨rfl,hb1⟩
 obtain⟨aX,_⟩:=jaf hb1
 have aj:=(bg _ _).trans (hb1.mono (by simp;omega))
 have aH:w.heap.size+1<w1.heap.size:=by have:=hb1.size;simp at this;omega
 have aG:w.heap.size<w1.heap.size:=by omega
 go_wp2_with fail
 refine(hZ _ (hB.below aj) (an.below aj)).mono ?_
 rintro e w2 ⟨rfl,ac⟩
 obtain⟨cU,_⟩:=jaf ac
 have dr:=qtr aj ac
 go_wp2_with fail
 refine(hL _ (hC.below dr) (lx.below dr)).mono ?_
 rintro e w3 ⟨rfl,ar⟩
 go_wp2
 go_ret
 exact⟨rfl,(qtr dr ar)⟩
structure EventD where
 id:Int
 name:ByteArray
 zone:ByteArray
 wall:Int
 gap:Int
 fold:Int
def EventD.cs(r:EventD):List Value:=[iv r.id,.string r.name,.string r.zone,iv r.wall,iv r.gap,iv r.fold]
def EventD.v(r:EventD):Value:=.agg #[iv r.id,.string r.name,.string r.zone,iv r.wall,iv r.gap,iv r.fold]
def EventD.sz(r:EventD):Nat:=r.name.size+r.zone.size
def EventD.ok(r:EventD):Prop:=r.name.size<=maxLen/\r.zone.size<=maxLen
theorem jn3(r:EventD)(n:Int)(w:World)(h0:0<=n)(h1:n<=1048576)(hm:r.ok):
  Cl 60 #[r.v,iv n] w fun e w'=>e=.returned (iv (clip (n-r.sz)))/\Bw w w':=by
 obtain⟨id,name,zone,wall,gap,fold⟩:=r
 simp only[EventD.v,EventD.sz,EventD.ok]at *
 unfold maxLen at *
 by_cases g1:n<name.size
 ·have HR:Hid (clip (n-↑(name.size+zone.size))= -1):=jal (by omega)
  unfold Cl;go_in
  go_wp2
  go_ret
  exact⟨ret_int HR.out.symm,qal _ _⟩
 by_cases g2:n<name.size+zone.size
 ·have HR:Hid (clip (n-↑(name.size+zone.size))= -1):=jal (by omega)
  unfold Cl;go_in
  go_wp2
  go_ret
  exact⟨ret_int HR.out.symm,qal _ _⟩
 unfold Cl;go_in
 go_wp2
 go_ret
 exact⟨ret_int (by rw[jbb (by omega)];try omega),qal _ _⟩
theorem jnx(r:EventD)(w:World):
  Cl 75 #[r.v] w fun e w'=>e=.returned r.v/\Bw w w':=by
 obtain⟨id,name,zone,wall,gap,fold⟩:=r
 simp only[EventD.v]at *
 unfold Cl;go_in
 go_wp2
 exact bpr (v:=.agg #[iv id,.string name,.string zone,iv wall,iv gap,iv fold]) (by simp[results,Tryz.results75,go_sem]) rfl ⟨rfl,((qal _ _).alloc (by simp) _).alloc (by simp;omega) _⟩
theorem jn8(r:EventD)(w:World):
  Cl 88 #[r.v,r.v] w fun e w'=>e=.returned (.bool true)/\Bw w w':=by
 obtain⟨id,name,zone,wall,gap,fold⟩:=r
 simp only[EventD.v]at *
 unfold Cl;go_in
 go_wp2
 go_ret
 exact⟨rfl,(qal _ _).alloc (by simp) _⟩
structure VersionD where
 tx:Int
 gone:Bool
 id:Int
 name:ByteArray
 zone:ByteArray
 wall:Int
 gap:Int
 fold:Int
def VersionD.cs(r:VersionD):List Value:=[iv r.tx,.bool r.gone,iv r.id,.string r.name,.string r.zone,iv r.wall,iv r.gap,iv r.fold]
def VersionD.v(r:VersionD):Value:=.agg #[iv r.tx,.bool r.gone,iv r.id,.string r.name,.string r.zone,iv r.wall,iv r.gap,iv r.fold]
def VersionD.sz(r:VersionD):Nat:=r.name.size+r.zone.size
def VersionD.ok(r:VersionD):Prop:=r.name.size<=maxLen/\r.zone.size<=maxLen
theorem jj1(r:VersionD)(n:Int)(w:World)(h0:0<=n)(h1:n<=1048576)(hm:r.ok):
  Cl 29 #[r.v,iv n] w fun e w'=>e=.returned (iv (clip (n-r.sz)))/\Bw w w':=by
 obtain⟨tx,gone,id,name,zone,wall,gap,fold⟩:=r
 have hE:=fun w=>jn3 ⟨id,name,zone,wall,gap,fold⟩ n w h0 h1 hm
 simp only[VersionD.v,VersionD.sz,EventD.v,EventD.sz]at *
 by_cases g:n-((name.size+zone.size:Nat):Int)<0
 ·rw[jal g]at hE ⊢
  unfold Cl;go_in
  go_wp2_with fail
  refine(hE _).mono ?_
  rintro e w1 ⟨rfl,hb⟩
  go_wp2
  go_ret
  exact⟨rfl,(qal _ _).trans (hb.mono (by simp))⟩
 ·rw[jbb (by omega)]at hE ⊢
  generalize n-((name.size+zone.size:Nat):Int)=m at *
  unfold Cl;go_in
  go_wp2_with fail
  refine(hE _).mono ?_
  rintro e w1 ⟨rfl,hb⟩
  go_wp2
  go_ret
  exact⟨rfl,(qal _ _).trans (hb.mono (by simp))⟩
def vsz(l:List VersionD):Nat:=(l.map VersionD.sz).sum
theorem jyb{l:List VersionD}{k:Nat}{r:VersionD}(h:l[k]? =some r):vsz (l.take (k+1))=vsz (l.take k)+r.sz:=by
 unfold vsz
 rw[List.take_add_one,h]
 simp
theorem j2y(l:List VersionD)(k:Nat):vsz (l.take k)<=vsz l:=by
 have:=congrArg (fun l=>(l.map VersionD.sz).sum) (List.take_append_drop k l)
 simp only[lma,List.sum_append]at this
 unfold vsz
 omega
theorem jiv(l:List VersionD)(a:Option Addr)(cap:Nat)(n:Int)(w:World)(hA:Za w a 8 (l.map VersionD.cs))(gW:∀r∈l,r.ok)(hl:l.length<=maxLen)(h0:0<=n)(h1:n<=1048576):
  Cl 10 #[.slice a l.length cap,iv n] w fun e w'=>e=.returned (iv (clip (n-(l.length+vsz l))))/\Bw w w':=by
 unfold maxLen at hl
 by_cases g0:n<l.length
 ·have HR:Hid (clip (n-(l.length+vsz l))= -1):=jal (by omega)
  unfold Cl;go_in
  go_wp2
  go_ret
  exact⟨ret_int HR.out.symm,brf _ _⟩
 unfold Cl;go_in
 go_wp2
 go_loopw [1,5] (fun x i wr=>∃k:Nat,k<=l.length/\i=iv k/\x=iv (n-l.length-vsz (l.take k))/\Hid (0<=n-l.length-vsz (l.take k))/\Bw w wr) (fun _ i _=>l.length-(intOf i).toNat)
 case atStart=>exact⟨0,by omega,rfl,by simp[vsz],by simp[vsz,Hid];omega,brf _ _⟩
 case round=>
  obtain⟨k,hk,rfl,rfl,hp,hB⟩:=hrel
  by_cases hlt:k<l.length
  ·obtain⟨r,hr⟩:=qgg hlt
   obtain⟨b,o,rfl,hc⟩:=(hA.below hB).at (i:=k) (r:=r.cs) (by rw[lgm,hr];rfl)
   have ok:=gW r (lmg hr)
   have lG:=hp.out
   have ht:=jyb hr
   have cr:=j2y l (k+1)
   have hS:=fun w=>jj1 r (n-l.length-vsz (l.take k)) w (by omega) (by omega) ok
   have c0:wr.cell? (ad b (o+k*8))=some (iv r.tx):=hc 0 _ rfl
   have c1:=hc 1 _ rfl
   have c2:=hc 2 _ rfl
   have c3:=hc 3 _ rfl
   have c4:=hc 4 _ rfl
   have c5:=hc 5 _ rfl
   have c6:=hc 6 _ rfl
   have c7:=hc 7 _ rfl
   clear hc
   unfold VersionD.v at hS
   by_cases g:n-l.length-vsz (l.take k)-r.sz<0
   ·have HR:Hid (clip (n-(l.length+vsz l))= -1):=jal (by omega)
    rw[jal g]at hS
    go_wp2_with fail
    refine(hS _).mono ?_
    rintro e w2 ⟨rfl,ac⟩
    go_wp2
    go_ret
    exact⟨ret_int HR.out.symm,(qtr hB ac)⟩
   ·rw[jbb (by omega)]at hS
    have HN:Hid (n-l.length-vsz (l.take k)-r.sz=n-l.length-vsz (l.take (k+1))):=by simp only[Hid];omega
    go_wp2_with fail
    refine(hS _).mono ?_
    rintro e w2 ⟨rfl,ac⟩
    go_wp2
    go_roundw
    case rel=>exact⟨k+1,by omega,by go_num,by rw[HN.out],by have:=HN.out;simp only[Hid];omega,(qtr hB ac)⟩
    case measure=>simp[intOf];omega
  ·have e:k=l.length:=by omega
   subst e
   have HR:Hid (clip (n-(l.length+vsz l))=n-l.length-vsz (l.take l.length)):=by
    have:=hp.out
    simp only[Hid]
    rw[List.take_length]at this ⊢
    rw[jbb (by omega)];omega
   go_wp2
   go_ret
   exact⟨ret_int HR.out.symm,hB⟩
theorem jj0(r:VersionD)(w:World):
  Cl 42 #[r.v] w fun e w'=>e=.returned r.v/\Bw w w':=by
 obtain⟨tx,gone,id,name,zone,wall,gap,fold⟩:=r
 have hE:=fun w=>jnx ⟨id,name,zone,wall,gap,fold⟩ w
 simp only[VersionD.v,EventD.v]at *
 unfold Cl;go_in
 go_wp2_with fail
 refine(hE _).mono ?_
 rintro e w1 ⟨rfl,hb⟩
 obtain⟨hc,hf⟩:=jaf hb
 have hz:=hb.size
 simp at hz
 go_wp2
 have B1:Bw w w1:=(((qal w _).alloc (by simp) _).alloc (by simp;omega) _).trans (hb.mono (by simp;omega))
 exact bpr (v:=.agg #[iv tx,.bool gone,iv id,.string name,.string zone,iv wall,iv gap,iv fold]) (by simp[results,Tryz.results42,go_sem,hc]) rfl ⟨rfl,((((((((((((((B1.setCell (by simp<;>omega) _).setCell (by simp<;>omega) _).setCell (by simp<;>omega) _).setCell (by simp<;>omega) _).setCell (by simp<;>omega) _).setCell (by simp<;>omega) _).setCell (by simp<;>omega) _).setCell (by simp<;>omega) _).setCell (by simp<;>omega) _).setCell (by simp<;>omega) _).setCell (by simp<;>omega) _).setCell (by simp<;>omega) _).setCell (by simp<;>omega) _).setCell (by simp<;>omega) _)⟩
theorem ji0:∃i:TypeInfo,Tryz.prog.info? 87=some i/\i.zero=some (.agg #[iv 0,.bool false,iv 0,.string ⟨#[]⟩,.string ⟨#[]⟩,iv 0,iv 0,iv 0])/\i.size=8/\i.bytes=80:=⟨_,rfl,rfl,rfl,rfl⟩
theorem jiu(l:List VersionD)(a:Option Addr)(cap:Nat)(w:World)(hA:Za w a 8 (l.map VersionD.cs))(hl:l.length<=1048576):
  Cl 20 #[.slice a l.length cap] w fun e w'=>e=.returned (.slice (some (ad w.heap.size 0)) l.length l.length)/\Za w' (some (ad w.heap.size 0)) 8 (l.map VersionD.cs)/\Zg w' w.heap.size (l.length*8)/\Bw w w':=by
 obtain⟨i0,hi,aG,aH,aF⟩:=ji0
 obtain⟨w1,dk,ai,dp⟩:=run_make_full (P:=Tryz.prog) w w.heap.size 38 87 i0 _ 8 Tryz.underlying38 hi aG aH .i64 .i64 l.length (by rw[aF];omega) (by unfold maxLen;omega) (nlr _)
 have hR:=jd4 ai
 have hB:Bw w w1:=(brf _ _).grown dp (nlr _) (fun k hk=>by cases hk)
 have fk:(l.map VersionD.cs).length=l.length:=by simp
 have au:∀r∈l.map VersionD.cs,r.length=8:=fun r hr=>by
  obtain⟨x,_,rfl⟩:=List.mem_map.mp hr;rfl
 clear hi aG aH aF ai dp
 unfold Cl;go_in
 go_wp2
 go_loopw [4] (fun i wr=>∃k:Nat,k<=l.length/\i=iv k/\Zg wr w.heap.size (l.length*8)/\Ze wr w.heap.size 8 k (l.map VersionD.cs)/\Bw w wr) (fun i _=>l.length-(intOf i).toNat)
 case atStart=>exact⟨0,by omega,rfl,hR,fun i j r c h=>by omega,hB⟩
 case round=>
  clear hR hB dk
  obtain⟨k,hk,rfl,hR,hF,hB⟩:=hrel
  by_cases hlt:k<l.length
  ·obtain⟨r,hr⟩:=qgg hlt
   have ap:(l.map VersionD.cs)[k]? =some r.cs:=by rw[lgm,hr];rfl
   obtain⟨b,o,rfl,hc⟩:=(hA.below hB).at (i:=k) ap
   have hS:=fun w=>jj0 r w
   have c0:wr.cell? (ad b (o+k*8))=some (iv r.tx):=hc 0 _ rfl
   have c1:=hc 1 _ rfl
   have c2:=hc 2 _ rfl
   have c3:=hc 3 _ rfl
   have c4:=hc 4 _ rfl
   have c5:=hc 5 _ rfl
   have c6:=hc 6 _ rfl
   have c7:=hc 7 _ rfl
   clear hc
   unfold VersionD.v at hS
   go_wp2_with fail
   refine(hS _).mono ?_
   rintro e w2 ⟨rfl,ac⟩
   have aM:=hR.below ac
   have ch:=hF.below ac
   have an:=qtr hB ac
   have je:k*8+8<=l.length*8:=by omega
   obtain⟨⟨u0,iR⟩,gC⟩:=aM (k*8) (by omega)
   obtain⟨⟨u1,wl⟩,dg⟩:=aM (k*8+1) (by omega)
   obtain⟨⟨u2,Q9⟩,eE⟩:=aM (k*8+2) (by omega)
   obtain⟨⟨u3,R9⟩,gE⟩:=aM (k*8+3) (by omega)
   obtain⟨⟨u4,Rs⟩,oy⟩:=aM (k*8+4) (by omega)
   obtain⟨⟨u5,S3⟩,Q8⟩:=aM (k*8+5) (by omega)
   obtain⟨⟨u6,TC⟩,Tx⟩:=aM (k*8+6) (by omega)
   obtain⟨⟨u7,TD⟩,Ty⟩:=aM (k*8+7) (by omega)
   have hW:jbk w2 w.heap.size (k*8) r.cs=((((((((w2.setCell (ad w.heap.size (k*8)) (iv r.tx)).setCell (ad w.heap.size (k*8+1)) (.bool r.gone)).setCell (ad w.heap.size (k*8+2)) (iv r.id)).setCell (ad w.heap.size (k*8+3)) (.string r.name)).setCell (ad w.heap.size (k*8+4)) (.string r.zone)).setCell (ad w.heap.size (k*8+5)) (iv r.wall)).setCell (ad w.heap.size (k*8+6)) (iv r.gap)).setCell (ad w.heap.size (k*8+7)) (iv r.fold)):=by simp only[jbk,VersionD.cs,Nat.add_assoc,Nat.reduceAdd]
   have R3:=jb9 (cs:=r.cs) (o:=k*8) aM
   have F3:=ch.put aM ap rfl je au
   have B3:=jb3 (cs:=r.cs) (o:=k*8) an (nlr _)
   rw[hW]at R3 F3 B3
   clear hW aM ch an
   go_wp2
   go_roundw
   case rel=>exact⟨k+1,by omega,by go_num,R3,F3,B3⟩
   case measure=>simp[intOf];omega
  ·have e:k=l.length:=by omega
   subst e
   go_wp2
   go_ret
   exact⟨rfl,Ze.seq (by rw[fk];exact hF),hR,hB⟩
theorem jj6(r:VersionD)(w:World):
  Cl 55 #[r.v,r.v] w fun e w'=>e=.returned (.bool true)/\Bw w w':=by
 obtain⟨tx,gone,id,name,zone,wall,gap,fold⟩:=r
 have hE:=fun w=>jn8 ⟨id,name,zone,wall,gap,fold⟩ w
 simp only[VersionD.v,EventD.v]at *
 unfold Cl;go_in
 go_wp2_with fail
 refine(hE _).mono ?_
 rintro e w1 ⟨rfl,hb⟩
 go_wp2
 go_ret
 exact⟨rfl,((qal _ _).alloc (by simp) _).trans (hb.mono (by simp;omega))⟩
theorem jiy(l:List VersionD)(a a2:Option Addr)(cap bL:Nat)(w:World)(hA:Za w a 8 (l.map VersionD.cs))(cY:Za w a2 8 (l.map VersionD.cs))(hl:l.length<=1048576):
  Cl 24 #[.slice a l.length cap,.slice a2 l.length bL] w fun e w'=>e=.returned (.bool true)/\Bw w w':=by
 unfold Cl;go_in
 go_wp2
 go_loopw [5] (fun i wr=>∃k:Nat,k<=l.length/\i=iv k/\Bw w wr) (fun i _=>l.length-(intOf i).toNat)
 case atStart=>exact⟨0,by omega,rfl,brf _ _⟩
 case round=>
  obtain⟨k,hk,rfl,hB⟩:=hrel
  by_cases hlt:k<l.length
  ·obtain⟨r,hr⟩:=qgg hlt
   have ap:(l.map VersionD.cs)[k]? =some r.cs:=by rw[lgm,hr];rfl
   obtain⟨b,o,rfl,hc⟩:=(hA.below hB).at (i:=k) ap
   obtain⟨b2,o2,rfl,hd⟩:=(cY.below hB).at (i:=k) ap
   have hS:=fun w=>jj6 r w
   have c0:wr.cell? (ad b (o+k*8))=some (iv r.tx):=hc 0 _ rfl
   have d0:wr.cell? (ad b2 (o2+k*8))=some (iv r.tx):=hd 0 _ rfl
   have c1:=hc 1 _ rfl
   have d1:=hd 1 _ rfl
   have c2:=hc 2 _ rfl
   have d2:=hd 2 _ rfl
   have c3:=hc 3 _ rfl
   have d3:=hd 3 _ rfl
   have c4:=hc 4 _ rfl
   have d4:=hd 4 _ rfl
   have c5:=hc 5 _ rfl
   have d5:=hd 5 _ rfl
   have c6:=hc 6 _ rfl
   have d6:=hd 6 _ rfl
   have c7:=hc 7 _ rfl
   have d7:=hd 7 _ rfl
   clear hc hd
   unfold VersionD.v at hS
   have cE:∀dd os,Cl _ _ (grow (redrawn wr dd) os) fun e cW=>e=.returned (.bool true)/\∃p:Regrown,cW=grow (redrawn wr p.d) p.os:=fun _ _=>Calls.regrown_of (hS _)
   have qT:=cell_regrown c0
   have ws:=cell_regrown d0
   have qU:=cell_regrown c1
   have xc:=cell_regrown d1
   have S5:=cell_regrown c2
   have SX:=cell_regrown d2
   have SF:=cell_regrown c3
   have SY:=cell_regrown d3
   have SV:=cell_regrown c4
   have SZ:=cell_regrown d4
   have SW:=cell_regrown c5
   have T3:=cell_regrown d5
   have TJ:=cell_regrown c6
   have TL:=cell_regrown d6
   have TK:=cell_regrown c7
   have TM:=cell_regrown d7
   go_wp2_with fail
   refine wp_region_quiet_below (by kernel_rfl) (by kernel_rfl) ?_
   repeat (quiet_step ((go_at_call 55;exact cE _ _)))
   refine wpQuiet_nil ?_
   intro _ bM
   obtain⟨⟨dq,aQ⟩,aO⟩:=bM
   subst aO
   have ac:=below_regrown wr dq aQ
   go_wp2
   go_roundw
   case rel=>exact⟨k+1,by omega,by go_num,(qtr hB ac)⟩
   case measure=>simp[intOf];omega
  ·have e:k=l.length:=by omega
   subst e
   go_wp2
   go_ret
   exact⟨rfl,hB⟩
structure EntryD where
 at_:Int
 id:Int
def EntryD.cs(r:EntryD):List Value:=[iv r.at_,iv r.id]
def EntryD.v(r:EntryD):Value:=.agg #[iv r.at_,iv r.id]
theorem jny(r:EntryD)(w:World):
  Cl 43 #[r.v] w fun e w'=>e=.returned r.v/\Bw w w':=by
 obtain⟨at_,id⟩:=r
 simp only[EntryD.v]at *
 unfold Cl;go_in
 go_wp2
 exact bpr (v:=.agg #[iv at_,iv id]) (by simp[results,Tryz.results43,go_sem]) rfl ⟨rfl,((qal _ _).alloc (by simp) _).alloc (by simp;omega) _⟩
theorem jft:∃i:TypeInfo,Tryz.prog.info? 57=some i/\i.zero=some (.agg #[iv 0,iv 0])/\i.size=2/\i.bytes=16:=⟨_,rfl,rfl,rfl,rfl⟩
theorem jl6(l:List EntryD)(a:Option Addr)(cap:Nat)(w:World)(hA:Za w a 2 (l.map EntryD.cs))(hl:l.length<=1048576):
  Cl 21 #[.slice a l.length cap] w fun e w'=>e=.returned (.slice (some (ad w.heap.size 0)) l.length l.length)/\Za w' (some (ad w.heap.size 0)) 2 (l.map EntryD.cs)/\Zg w' w.heap.size (l.length*2)/\Bw w w':=by
 obtain⟨i0,hi,aG,aH,aF⟩:=jft
 obtain⟨w1,dk,ai,dp⟩:=run_make_full (P:=Tryz.prog) w w.heap.size 39 57 i0 _ 2 Tryz.underlying39 hi aG aH .i64 .i64 l.length (by rw[aF];omega) (by unfold maxLen;omega) (nlr _)
 have hR:=jd4 ai
 have hB:Bw w w1:=(brf _ _).grown dp (nlr _) (fun k hk=>by cases hk)
 have fk:(l.map EntryD.cs).length=l.length:=by simp
 have au:∀r∈l.map EntryD.cs,r.length=2:=fun r hr=>by
  obtain⟨x,_,rfl⟩:=List.mem_map.mp hr;rfl
 clear hi aG aH aF ai dp
 unfold Cl;go_in
 go_wp2
 go_loopw [4] (fun i wr=>∃k:Nat,k<=l.length/\i=iv k/\Zg wr w.heap.size (l.length*2)/\Ze wr w.heap.size 2 k (l.map EntryD.cs)/\Bw w wr) (fun i _=>l.length-(intOf i).toNat)
 case atStart=>exact⟨0,by omega,rfl,hR,fun i j r c h=>by omega,hB⟩
 case round=>
  clear hR hB dk
  obtain⟨k,hk,rfl,hR,hF,hB⟩:=hrel
  by_cases hlt:k<l.length
  ·obtain⟨r,hr⟩:=qgg hlt
   have ap:(l.map EntryD.cs)[k]? =some r.cs:=by rw[lgm,hr];rfl
   obtain⟨b,o,rfl,hc⟩:=(hA.below hB).at (i:=k) ap
   have hS:=fun w=>jny r w
   have c0:wr.cell? (ad b (o+k*2))=some (iv r.at_):=hc 0 _ rfl
   have c1:=hc 1 _ rfl
   clear hc
   unfold EntryD.v at hS
   go_wp2_with fail
   refine(hS _).mono ?_
   rintro e w2 ⟨rfl,ac⟩
   have aM:=hR.below ac
   have ch:=hF.below ac
   have an:=qtr hB ac
   have je:k*2+2<=l.length*2:=by omega
   obtain⟨⟨u0,iR⟩,gC⟩:=aM (k*2) (by omega)
   obtain⟨⟨u1,wl⟩,dg⟩:=aM (k*2+1) (by omega)
   have hW:jbk w2 w.heap.size (k*2) r.cs=((w2.setCell (ad w.heap.size (k*2)) (iv r.at_)).setCell (ad w.heap.size (k*2+1)) (iv r.id)):=by simp only[jbk,EntryD.cs]
   have R3:=jb9 (cs:=r.cs) (o:=k*2) aM
   have F3:=ch.put aM ap rfl je au
   have B3:=jb3 (cs:=r.cs) (o:=k*2) an (nlr _)
   rw[hW]at R3 F3 B3
   clear hW aM ch an
   go_wp2
   go_roundw
   case rel=>exact⟨k+1,by omega,by go_num,R3,F3,B3⟩
   case measure=>simp[intOf];omega
  ·have e:k=l.length:=by omega
   subst e
   go_wp2
   go_ret
   exact⟨rfl,Ze.seq (by rw[fk];exact hF),hR,hB⟩
theorem jn9(r:EntryD)(w:World):
  Cl 56 #[r.v,r.v] w fun e w'=>e=.returned (.bool true)/\Bw w w':=by
 obtain⟨at_,id⟩:=r
 simp only[EntryD.v]at *
 unfold Cl;go_in
 go_wp2
 go_ret
 exact⟨rfl,(qal _ _).alloc (by simp) _⟩
theorem jfs(l:List EntryD)(a a2:Option Addr)(cap bL:Nat)(w:World)(hA:Za w a 2 (l.map EntryD.cs))(cY:Za w a2 2 (l.map EntryD.cs))(hl:l.length<=1048576):
  Cl 25 #[.slice a l.length cap,.slice a2 l.length bL] w fun e w'=>e=.returned (.bool true)/\Bw w w':=by
 unfold Cl;go_in
 go_wp2
 go_loopw [5] (fun i wr=>∃k:Nat,k<=l.length/\i=iv k/\Bw w wr) (fun i _=>l.length-(intOf i).toNat)
 case atStart=>exact⟨0,by omega,rfl,brf _ _⟩
 case round=>
  obtain⟨k,hk,rfl,hB⟩:=hrel
  by_cases hlt:k<l.length
  ·obtain⟨r,hr⟩:=qgg hlt
   have ap:(l.map EntryD.cs)[k]? =some r.cs:=by rw[lgm,hr];rfl
   obtain⟨b,o,rfl,hc⟩:=(hA.below hB).at (i:=k) ap
   obtain⟨b2,o2,rfl,hd⟩:=(cY.below hB).at (i:=k) ap
   have hS:=fun w=>jn9 r w
   have c0:wr.cell? (ad b (o+k*2))=some (iv r.at_):=hc 0 _ rfl
   have d0:wr.cell? (ad b2 (o2+k*2))=some (iv r.at_):=hd 0 _ rfl
   have c1:=hc 1 _ rfl
   have d1:=hd 1 _ rfl
   clear hc hd
   unfold EntryD.v at hS
   have cE:∀dd os,Cl _ _ (grow (redrawn wr dd) os) fun e cW=>e=.returned (.bool true)/\∃p:Regrown,cW=grow (redrawn wr p.d) p.os:=fun _ _=>Calls.regrown_of (hS _)
   have qT:=cell_regrown c0
   have ws:=cell_regrown d0
   have qU:=cell_regrown c1
   have xc:=cell_regrown d1
   go_wp2_with fail
   refine wp_region_quiet_below (by kernel_rfl) (by kernel_rfl) ?_
   repeat (quiet_step ((go_at_call 56;exact cE _ _)))
   refine wpQuiet_nil ?_
   intro _ bM
   obtain⟨⟨dq,aQ⟩,aO⟩:=bM
   subst aO
   have ac:=below_regrown wr dq aQ
   go_wp2
   go_roundw
   case rel=>exact⟨k+1,by omega,by go_num,(qtr hB ac)⟩
   case measure=>simp[intOf];omega
  ·have e:k=l.length:=by omega
   subst e
   go_wp2
   go_ret
   exact⟨rfl,hB⟩
structure TurnD where
 at_:Int
 offset:Int
 save:Int
 abbr:ByteArray
def TurnD.cs(r:TurnD):List Value:=[iv r.at_,iv r.offset,iv r.save,.string r.abbr]
def TurnD.v(r:TurnD):Value:=.agg #[iv r.at_,iv r.offset,iv r.save,.string r.abbr]
def TurnD.ok(r:TurnD):Prop:=r.abbr.size<=maxLen
structure HapD where
 at_:Int
 save:Int
 letter:ByteArray
def HapD.cs(r:HapD):List Value:=[iv r.at_,iv r.save,.string r.letter]
def HapD.v(r:HapD):Value:=.agg #[iv r.at_,iv r.save,.string r.letter]
def HapD.sz(r:HapD):Nat:=r.letter.size
def hsz(l:List HapD):Nat:=(l.map HapD.sz).sum
