/- Packed. -/
import Derived.Test.YtofdpfpdocpbpaaGreatDoorBasePd
import Derived.Test.YtofdpfpdocpbpaaGreatDoorShelfK
import Derived.Lib.Replace
import Derived.Test.YtofdpfpdocpbpaaGreatDoorTabPd
import Derived.Test.YtofdpfpdocpbpaaGreatDoorSAd
import Derived.Lib.MinMax
import Derived.Deep.RegionHeld3
import Derived.Laws.StructEq
import Derived.Test.YtofdpfpdocpbpaaGreatDoorHpPd
import Derived.Deep.AppendLies
import Derived.OwnWalk
import Derived.Test.YtofdpfpdocpbpaaGreatDoorShelfK
import Derived.Lib.OwnBridge
import Derived.Test.YtofdpfpdocpbpaaGreatDoorHpRd
import Derived.Test.YtofdpfpdocpbpaaGreatDoorHpUd
set_option maxRecDepth 100000
set_option maxHeartbeats 20000000
set_option linter.unusedSimpArgs false
namespace Go.Proofs.YtofdpfpdocpbpaaGreatDoor
section
open Go.RowKit
theorem jee(s:ByteArray):s.toList=s.data.toList:=by rw[ByteArray.toList_eq]
theorem j3c{s:ByteArray}{l:List UInt8}(h:s.data.toList=l):s=⟨l.toArray⟩:=by
 subst h
 apply ByteArray.ext
 simp
theorem jc2(s:ByteArray):s.data.toList.length=s.size:=by rw[Array.length_toList];rfl
def jiq(d:List UInt8)(save:Int):List UInt8:=
 if 0<=Lib.index d [47]then(if save=0 then d.take (Lib.index d [47]).toNat else d.drop ((Lib.index d [47]).toNat+1))else d
def jg4(p l:List UInt8):List UInt8:=
 if 0<=Lib.index p [37,115]then p.take (Lib.index p [37,115]).toNat++l++p.drop ((Lib.index p [37,115]).toNat+2)else p
theorem j5i{d:List UInt8}{save:Int}(h:Lib.index d [47]= -1):jiq d save=d:=by unfold jiq;rw[if_neg (by omega)]
theorem j8a{d:List UInt8}{i:Nat}(h:Lib.index d [47]=i):jiq d 0=d.take i:=by unfold jiq;rw[if_pos (by omega),if_pos rfl,h];simp
theorem j79{d:List UInt8}{save:Int}{i:Nat}(h:Lib.index d [47]=i)(hs:save≠0):jiq d save=d.drop (i+1):=by unfold jiq;rw[if_pos (by omega),if_neg hs,h];simp
theorem j69{p l:List UInt8}(h:Lib.index p [37,115]= -1):jg4 p l=p:=by unfold jg4;rw[if_neg (by omega)]
theorem j7a{p l:List UInt8}{i:Nat}(h:Lib.index p [37,115]=i):jg4 p l=p.take i++l++p.drop (i+2):=by unfold jg4;rw[if_pos (by omega),h];simp
theorem jrm(d:List UInt8)(save:Int):(jiq d save).length<=d.length:=by
 unfold jiq
 split
 ·split
  ·rw[List.length_take];omega
  ·rw[List.length_drop];omega
 ·exact Nat.le_refl _
theorem jw1{p:List UInt8}{i:Nat}(h:Lib.occAt p [37,115] i=true):p.take i++[37,115]++p.drop (i+2)=p:=by
 unfold Lib.occAt at h
 obtain⟨r,hr⟩:=List.isPrefixOf_iff_prefix.1 h
 have e:p.drop (i+2)=r:=by rw[<- List.drop_drop, <- hr];rfl
 rw[e,List.append_assoc,hr,List.take_append_drop]
theorem jpq(p l:List UInt8):Lib.replace p [37,115] l 1=jg4 p l:=by
 rcases Lib.index_spec p [37,115]with⟨h1,_⟩|⟨i,h1,_,h3,_⟩
 ·rw[j69 h1]
  unfold Lib.replace Lib.replaceNum
  rw[Lib.count_miss h1]
  split
  ·rfl
  ·rw[if_pos (Or.inr (by omega))];rfl
 ·rw[j7a h1]
  unfold Lib.replace
  split
  ·rename_i hl
   rw[<- (beq_iff_eq.mp hl)]
   exact(jw1 h3).symm
  ·have hc:0<Lib.count p [37,115]:=by
    unfold Lib.count Lib.countFrom
    rw[if_neg (by simp;omega)]
    omega
   unfold Lib.replaceNum
   rw[if_neg (by omega)]
   exact Lib.replaceK_hit _ _ 0 p i h1
theorem j9b{d:List UInt8}(h:Lib.index d [47]= -1):Lib.cut d [47]=(d,[],false):=by unfold Lib.cut;rw[if_neg (by omega)]
theorem j9c{d:List UInt8}{i:Nat}(h:Lib.index d [47]=i):Lib.cut d [47]=(d.take i,d.drop (i+1),true):=by unfold Lib.cut;rw[if_pos (by omega),h];simp
end
section
open Go.RowKit
theorem ret_strA{a b:ByteArray}(h:a=b):Ending.returned (.string a)=.returned (.string b):=by rw[h]
def jq8(f l:ByteArray)(save:Int):ByteArray:=if f.size<=8000/\l.size<=8000 then⟨(jg4 (jiq f.data.toList save) l.data.toList).toArray⟩else⟨#[]⟩
theorem js0{f l:ByteArray}{save:Int}(h:¬(f.size<=8000/\l.size<=8000)):jq8 f l save=⟨#[]⟩:=if_neg h
theorem jpc{f l:ByteArray}{save:Int}(h:f.size<=8000/\l.size<=8000):jq8 f l save=⟨(jg4 (jiq f.data.toList save) l.data.toList).toArray⟩:=if_pos h
def MxA(w:World):Prop:=∃m:Int,w.cell? ⟨2,0,none⟩=some (.int .i64 m)
theorem MxA.of_below{w w':World}(h:MxA w)(hb:Below w.heap.size w w'):MxA w':=by
 obtain⟨m,hm⟩:=h
 exact⟨m,(qce hb hm hm)⟩
theorem jy7(s sub:ByteArray)(h:1<=sub.size):Lib.countB s sub<=s.size:=by
 have:=Lib.countB_mul_le sub h s.size s (Nat.le_refl _)
 exact Nat.le_trans (Nat.le_mul_of_pos_right _ h) this
theorem jqj(f l:ByteArray)(save:Int)(w:World)(hM:MxA w)(hf:f.size<=1048576)(hl:l.size<=1048576):
  Calls Tryz.prog 286 #[.string f,.string l,.int .i64 save] w fun e w'=>e=.returned (.string (jq8 f l save))/\Below w.heap.size w w':=by
 by_cases h1:f.size<=8000
 ·by_cases h2:l.size<=8000
  ·obtain⟨m,hm⟩:=hM
   have hC:=Tryz.strings_Cut f ⟨#[47]⟩ m w (by omega) hm
   have hRp:∀(p:ByteArray) w',p.data.toList.length<=8000->Below w.heap.size w w'->Calls Tryz.prog 302 #[.string p,.string ⟨#[37,115]⟩,.string l,.int .i64 1] w' fun e w''=>e=.returned (.string ⟨(jg4 p.data.toList l.data.toList).toArray⟩)/\Below w'.heap.size w' w'':=fun p w' hp hb=>by
    rw[jc2]at hp
    have hcb:=jy7 p ⟨#[37,115]⟩ (by decide)
    have:=Tryz.strings_Replace p ⟨#[37,115]⟩ l 1 m w' (by omega) (qce hb hm hm) (by decide) (by
     have:=Nat.mul_le_mul (Nat.le_trans hcb hp) h2
     omega)
    rw[show(ByteArray.mk #[37,115]).data.toList=[37,115]from rfl,jpq]at this
    exact this
   rw[jpc ⟨h1,h2⟩]
   rw[show(ByteArray.mk #[47]).data.toList=[47]from rfl]at hC
   have hplen:=jrm f.data.toList save
   rw[jc2]at hplen
   have hd:=jc2 f
   rcases Lib.index_spec f.data.toList [47]with⟨e1,_⟩|⟨i,e1,hi,ho1,_⟩
   ·rw[j9b e1]at hC
    rw[j5i e1]
    have hR2:=fun w' hb=>hRp ⟨f.data.toList.toArray⟩ w' (by simp;omega) hb
    simp only at hR2
    generalize (jg4 f.data.toList l.data.toList).toArray=x at *
    generalize f.data.toList.toArray=d at *
    clear hRp e1 hplen hd
    go_enter Tryz.func286,Tryz.ntmps286
    go_wp2_with fail
    refine hC.mono ?_
    rintro e w' ⟨rfl,n,rfl⟩
    go_wp2_with fail
    refine(hR2 _ (below_drewN (Below.refl _ _) _)).mono ?_
    rintro e w' ⟨rfl,hb⟩
    go_wp2
    go_ret
    exact⟨rfl,(below_drewN (Below.refl _ _) n).trans hb⟩
   ·rw[j9c e1]at hC
    by_cases hs:save=0
    ·subst hs
     rw[j8a e1]
     have hR2:=fun w' hb=>hRp ⟨(f.data.toList.take i).toArray⟩ w' (by simp;omega) hb
     simp only at hR2
     generalize (jg4 (f.data.toList.take i) l.data.toList).toArray=x at *
     generalize (f.data.toList.take i).toArray=d at *
     generalize (f.data.toList.drop (i+1)).toArray=d2 at *
     clear hRp e1 hplen hd
     go_enter Tryz.func286,Tryz.ntmps286
     go_wp2_with fail
     refine hC.mono ?_
     rintro e w' ⟨rfl,n,rfl⟩
     go_wp2_with fail
     refine(hR2 _ (below_drewN (Below.refl _ _) _)).mono ?_
     rintro e w' ⟨rfl,hb⟩
     go_wp2
     go_ret
     exact⟨rfl,(below_drewN (Below.refl _ _) n).trans hb⟩
    ·rw[j79 e1 hs]
     have hR2:=fun w' hb=>hRp ⟨(f.data.toList.drop (i+1)).toArray⟩ w' (by simp;omega) hb
     simp only at hR2
     generalize (jg4 (f.data.toList.drop (i+1)) l.data.toList).toArray=x at *
     generalize (f.data.toList.take i).toArray=d at *
     generalize (f.data.toList.drop (i+1)).toArray=d2 at *
     clear hRp e1 hplen hd
     go_enter Tryz.func286,Tryz.ntmps286
     go_wp2_with fail
     refine hC.mono ?_
     rintro e w' ⟨rfl,n,rfl⟩
     go_wp2_with fail
     refine(hR2 _ (below_drewN (Below.refl _ _) _)).mono ?_
     rintro e w' ⟨rfl,hb⟩
     go_wp2
     go_ret
     exact⟨rfl,(below_drewN (Below.refl _ _) n).trans hb⟩
  ·rw[js0 (by omega)]
   go_enter Tryz.func286,Tryz.ntmps286
   go_wp2
   go_ret
   exact⟨rfl,Below.refl _ _⟩
 ·rw[js0 (by omega)]
  go_enter Tryz.func286,Tryz.ntmps286
  go_wp2
  go_ret
  exact⟨rfl,Below.refl _ _⟩
end
section
open Go.RowKit
def jcv:List HapD->ByteArray
 |[]=>⟨#[]⟩
 |h::t=>if h.save=0 then h.letter else jcv t
theorem jqr{l:List HapD}(h:∀x∈l,x.save≠0):jcv l=⟨#[]⟩:=by
 induction l with
 |nil=>rfl
 |cons x l ih=>rw[jcv,if_neg (h x (by simp))];exact ih fun y hy=>h y (List.mem_cons_of_mem _ hy)
theorem jyq{l:List HapD}{k:Nat}{x:HapD}(hx:l[k]? =some x)(h0:x.save=0)(hb:∀j y,j<k->l[j]? =some y->y.save≠0):jcv l=x.letter:=by
 induction l generalizing k with
 |nil=>simp at hx
 | cons a l ih=>
  cases k with
  |zero=>simp at hx;subst hx;rw[jcv,if_pos h0]
  |succ k=>
   rw[jcv,if_neg (hb 0 a (by omega) (by simp))]
   exact ih (by simpa using hx) fun j y hj hy=>hb (j+1) y (by omega) (by simpa using hy)
def jkv(H:List HapD)(t:Int):Nat->Nat
 |0=>0
 |k+1=>match H[k]? with
  |some h=>if h.at_<=t then k+1 else jkv H t k
  |none=>jkv H t k
def hcnt(H:List HapD)(t:Int):Nat:=jkv H t H.length
theorem jyb{H:List HapD}{t:Int}{k:Nat}{h:HapD}(hh:H[k]? =some h)(ht:h.at_<=t):jkv H t (k+1)=k+1:=by rw[jkv,hh];simp only;rw[if_pos ht]
theorem j15(H:List HapD)(t:Int):∀k,jkv H t k<=k:=by
 intro k
 induction k with
 |zero=>exact Nat.le_refl _
 |succ k ih=>
  rw[jkv]
  split
  ·split<;>omega
  ·omega
theorem jya(H:List HapD)(t:Int):hcnt H t<=H.length:=j15 H t _
theorem j1z{H:List HapD}{t:Int}{n:Nat}:∀{k:Nat},n<=k->(∀i h,n<=i->i<k->H[i]? =some h->t<h.at_)->jkv H t k=jkv H t n:=by
 intro k
 induction k with
 |zero=>intro h _;rw[Nat.le_zero.mp h]
 |succ k ih=>
  intro hn h
  by_cases e:n=k+1
  ·rw[e]
  ·rw[jkv]
   split
   ·rename_i x hx
    rw[if_neg (by have:=h k x (by omega) (by omega) hx;omega)]
    exact ih (by omega) fun i y h1 h2 h3=>h i y h1 (by omega) h3
   ·exact ih (by omega) fun i y h1 h2 h3=>h i y h1 (by omega) h3
theorem j1y{H:List HapD}{t:Int}{n:Nat}(h1:n<=H.length)(h2:∀i h,n<=i->H[i]? =some h->t<h.at_)(h3:∀m h,n=m+1->H[m]? =some h->h.at_<=t):hcnt H t=n:=by
 unfold hcnt
 rw[j1z h1 fun i h hi _ hh=>h2 i h hi hh]
 cases n with
 |zero=>rfl
 |succ m=>
  obtain⟨x,hx⟩:∃x,H[m]? =some x:=⟨_,List.getElem?_eq_getElem (by omega)⟩
  exact jyb hx (h3 m x rfl hx)
def jju(H:List HapD):Nat->HapD
 |0=>⟨0,0,jcv H⟩
 |m+1=>H[m]?.getD ⟨0,0,⟨#[]⟩⟩
def jbd(e:EraD)(H:List HapD)(t:Int):HapD:=if e.rules.size=0 then⟨0,e.save,⟨#[]⟩⟩else jju H (hcnt H t)
theorem jou{e:EraD}{H:List HapD}{t:Int}(h:e.rules.size=0):jbd e H t=⟨0,e.save,⟨#[]⟩⟩:=if_pos h
theorem jlj{e:EraD}{H:List HapD}{t:Int}(h:¬e.rules.size=0):jbd e H t=jju H (hcnt H t):=if_neg h
def jj9(e:EraD)(F:HapD)(t:Int):TurnD:=⟨t,e.offset+F.save,F.save,jq8 e.format F.letter F.save⟩
def jbg(e:EraD)(H:List HapD)(t:Int):TurnD:=jj9 e (jbd e H t) t
def endU(e:EraD)(H:List HapD):Int:=if e.of.toList==[115]then e.until_-e.offset else if e.of.toList==[119]then e.until_-e.offset-(jbd e H (e.until_-e.offset-1)).save else e.until_
def endE(e:EraD)(H:List HapD)(b:Int):Int:=max b (min (endU e H) 253402300799)
def jft(y x:TurnD):Bool:=decide (y.offset=x.offset)&&(decide (y.save=x.save)&&(y.abbr.toList==x.abbr.toList))
theorem jts(x:TurnD):jft x x=true:=by simp[jft]
def addT(T:List TurnD)(x:TurnD):List TurnD:=match T.getLast? with
 |some y=>if jft y x=true then T else T++[x]
 |none=>T++[x]
theorem jgh{T:List TurnD}{y x:TurnD}(h:T.getLast? =some y)(hl:jft y x=true):addT T x=T:=by rw[addT,h];simp only;rw[if_pos hl]
theorem jsz{T:List TurnD}{y x:TurnD}(h:T.getLast? =some y)(hl:jft y x=false):addT T x=T++[x]:=by rw[addT,h];simp only;rw[if_neg (by rw[hl];simp)]
theorem ju1(T:List TurnD)(x:TurnD):addT (addT T x) x=addT T x:=by
 have hn:addT (T++[x]) x=T++[x]:=jgh (y:=x) (by simp) (jts x)
 cases h:T.getLast? with
 |none=>
  have e:addT T x=T++[x]:=by rw[addT,h]
  rw[e,hn]
 |some y=>
  cases hl:jft y x
  ·rw[jsz h hl,hn]
  ·rw[jgh h hl,jgh h hl]
theorem j3g(T:List TurnD)(x:TurnD):(addT T x).length<=T.length+1:=by
 unfold addT
 split
 ·split
  ·omega
  ·simp
 ·simp
def jbi(f:Int->TurnD)(L:List Int)(T:List TurnD):List TurnD:=L.foldl (fun T t=>addT T (f t)) T
theorem foldT_cons(f:Int->TurnD)(t:Int)(L:List Int)(T:List TurnD):jbi f (t::L) T=jbi f L (addT T (f t)):=rfl
theorem jlk(f:Int->TurnD)(t:Int)(L:List Int)(T:List TurnD):jbi f (L++[t]) T=addT (jbi f L T) (f t):=by unfold jbi;rw[List.foldl_append];rfl
theorem jf9(f:Int->TurnD):∀(L:List Int) (T:List TurnD),(jbi f L T).length<=T.length+L.length:=by
 intro L
 induction L with
 |nil=>intro T;simp[jbi]
 |cons t L ih=>
  intro T
  rw[foldT_cons]
  have:=ih (addT T (f t))
  have:=j3g T (f t)
  simp only[List.length_cons]
  omega
theorem jub(f:Int->TurnD):∀{L A:List Int},L.Pairwise (· <= ·)->A.Pairwise (· < ·)->(∀t,t∈L↔t∈A)->∀T,jbi f L T=jbi f A T:=by
 intro L
 induction L with
 |nil=>
  intro A _ _ h T
  cases A with
  |nil=>rfl
  |cons y A=>exact absurd ((h y).mpr (by simp)) (by simp)
 |cons x L ih=>
  intro A hL hA h T
  cases A with
  |nil=>exact absurd ((h x).mp (by simp)) (by simp)
  |cons y A=>
   have hL':=List.pairwise_cons.mp hL
   have hA':=List.pairwise_cons.mp hA
   have hxy:x=y:=by
    have e1:x<=y:=by
     rcases List.mem_cons.mp ((h y).mpr (by simp))with e|e
     ·omega
     ·exact hL'.1 y e
    have e2:y<=x:=by
     rcases List.mem_cons.mp ((h x).mp (by simp))with e|e
     ·omega
     ·have:=hA'.1 x e;omega
    omega
   subst hxy
   rw[foldT_cons,foldT_cons]
   by_cases hm:x∈L
   ·have h2:∀t,t∈L↔t∈x::A:=fun t=>by
     rw[<- h t,List.mem_cons]
     exact⟨.inr,fun e=>e.elim (fun e=>by rw[e];exact hm) id⟩
    rw[ih hL'.2 hA h2 (addT T (f x)),foldT_cons,ju1]
   ·refine ih hL'.2 hA'.2 (fun t=>?_) _
    have ht:=h t
    rw[List.mem_cons,List.mem_cons]at ht
    constructor
    ·intro hl
     rcases ht.mp (.inr hl)with e|e
     ·rw[e]at hl;exact absurd hl hm
     ·exact e
    ·intro ha
     rcases ht.mpr (.inr ha)with e|e
     ·have:=hA'.1 t ha;omega
     ·exact e
def insA:List Int->Int->List Int
 |[],n=>[n]
 |a::l,n=>if a<n then a::insA l n else if a=n then a::l else n::a::l
theorem insA_mem{n t:Int}:∀{l:List Int},t∈insA l n↔t∈l\/t=n:=by
 intro l
 induction l with
 |nil=>simp[insA]
 |cons a l ih=>
  rw[insA]
  split
  ·rw[List.mem_cons,ih,List.mem_cons,or_assoc]
  ·split
   ·rename_i h1 h2
    rw[List.mem_cons]
    constructor
    ·exact .inl
    ·rintro(e|e)
     ·exact e
     ·left;omega
   ·rw[List.mem_cons]
    constructor
    ·rintro(e|e)
     ·exact .inr e
     ·exact .inl e
    ·rintro(e|e)
     ·exact .inr e
     ·exact .inl e
theorem j6a{n:Int}:∀{l:List Int},l.Pairwise (· < ·)->(insA l n).Pairwise (· < ·):=by
 intro l
 induction l with
 |nil=>intro _;simp[insA]
 |cons a l ih=>
  intro h
  have h':=List.pairwise_cons.mp h
  rw[insA]
  split
  ·rename_i ha
   refine List.pairwise_cons.mpr ⟨fun t ht=>?_,ih h'.2⟩
   rcases insA_mem.mp ht with e|e
   ·exact h'.1 t e
   ·omega
  ·split
   ·exact h
   ·rename_i h1 h2
    refine List.pairwise_cons.mpr ⟨fun t ht=>?_,h⟩
    rcases List.mem_cons.mp ht with e|e
    ·omega
    ·have:=h'.1 t e;omega
def atsF(b:Int)(X:List Int):List Int:=X.foldl insA [b]
theorem j4b{X A:List Int}(h:A.Pairwise (· < ·)):(X.foldl insA A).Pairwise (· < ·)/\∀t,t∈X.foldl insA A↔t∈A\/t∈X:=by
 induction X generalizing A with
 |nil=>exact⟨h,fun t=>by simp⟩
 |cons x X ih=>
  obtain⟨h1,h2⟩:=ih (j6a (n:=x) h)
  refine⟨h1,fun t=>?_⟩
  rw[List.foldl_cons,h2 t,insA_mem,List.mem_cons,or_assoc]
theorem j1o(l:List Int)(n:Int):(insA l n).length<=l.length+1:=by
 induction l with
 |nil=>simp[insA]
 |cons a l ih=>
  rw[insA]
  split
  ·simp only[List.length_cons];omega
  ·split<;>simp
theorem jq6(b:Int)(X:List Int):(atsF b X).length<=X.length+1:=by
 unfold atsF
 have:∀(X A:List Int),(X.foldl insA A).length<=A.length+X.length:=by
  intro X
  induction X with
  |nil=>intro A;simp
  |cons x X ih=>intro A;rw[List.foldl_cons];have:=ih (insA A x);have:=j1o A x;simp only[List.length_cons];omega
 have:=this X [b]
 simp at this
 omega
def inX(H:List HapD)(b e:Int):List Int:=(H.map HapD.at_).filter fun t=>decide (b<t)&&decide (t<e)
theorem jkz(f:Int->TurnD){H:List HapD}{b e:Int}{L:List Int}(h1:L.Pairwise (· <= ·))(h2:L.Perm (b::inX H b e))(T:List TurnD):jbi f L T=jbi f (atsF b (inX H b e)) T:=by
 have h:=j4b (X:=inX H b e) (A:=[b]) (by simp)
 refine jub f h1 h.1 (fun t=>?_) T
 rw[h2.mem_iff,List.mem_cons,h.2 t,List.mem_singleton]
end
section
open Go.RowKit Go.Sort
def sufM:List HapD->List Int
 |[]=>[]
 |h::t=>min ((sufM t).headD 253402300799) h.at_::sufM t
theorem jfn:∀H:List HapD,(sufM H).length=H.length
 |[]=>rfl
 |h::t=>by rw[sufM,List.length_cons,List.length_cons,jfn t]
def jb6(E:List Int)(k:Nat):Int:=E[k]?.getD 253402300799
theorem jnm{E:List Int}{k:Nat}(h:E.length<=k):jb6 E k=253402300799:=by unfold jb6;rw[List.getElem?_eq_none h];rfl
theorem jfs{E:List Int}{k:Nat}{t:Int}(h:E[k]? =some t):jb6 E k=t:=by unfold jb6;rw[h];rfl
theorem sufM_at:∀{H:List HapD} {k:Nat} {h:HapD},H[k]? =some h->(sufM H)[k]? =some (min (jb6 (sufM H) (k+1)) h.at_)
 |[],k,h,hh=>by simp at hh
 |a::t,0,h,hh=>by
  simp at hh
  subst hh
  rw[sufM,List.getElem?_cons_zero]
  congr 2
  unfold jb6
  rw[List.getElem?_cons_succ]
  cases sufM t<;>rfl
 |a::t,k+1,h,hh=>by
  rw[List.getElem?_cons_succ]at hh
  rw[sufM,List.getElem?_cons_succ,sufM_at hh]
  congr 2
theorem j1c{H:List HapD}{k:Nat}(hk:k<H.length):jb6 (sufM H) k<=jb6 (sufM H) (k+1):=by
 obtain⟨x,hx⟩:=qgg hk
 rw[jfs (sufM_at hx)]
 omega
theorem j1d{H:List HapD}{i:Nat}:∀{j:Nat},i<=j->j<=H.length->jb6 (sufM H) i<=jb6 (sufM H) j:=by
 intro j
 induction j with
 |zero=>intro h _;rw[Nat.le_zero.mp h];exact Int.le_refl _
 | succ j ih=>
  intro h hj
  by_cases e:i=j+1
  ·rw[e];exact Int.le_refl _
  ·have:=ih (by omega) (by omega)
   have:=j1c (H:=H) (k:=j) (by omega)
   omega
theorem j5t{H:List HapD}{t:Int}{m:Nat}(hH:∀h∈H,h.at_<=253402300799)(h1:m<=H.length)(h2:∀i,i<m->¬t<jb6 (sufM H) i)(h3:∀i,m<=i->i<H.length->t<jb6 (sufM H) i):hcnt H t=m:=by
 refine j1y h1 (fun i h hi hh=>?_) (fun k h e hh=>?_)
 ·have hil:=(List.getElem?_eq_some_iff.mp hh).1
  have:=h3 i hi hil
  rw[jfs (sufM_at hh)]at this
  omega
 ·have hkl:=(List.getElem?_eq_some_iff.mp hh).1
  have h4:=h2 k (by omega)
  rw[jfs (sufM_at hh)]at h4
  have h5:=hH h (List.mem_of_getElem? hh)
  rcases Nat.lt_or_ge (k+1) H.length with e1|e1
  ·have:=h3 (k+1) (by omega) e1
   omega
  ·rw[jnm (by rw[jfn];exact e1)]at h4
   omega
def Jk(w:World)(g:Nat)(E:List Int)(k:Nat):Prop:=∀i t,k<=i->E[i]? =some t->w.cell? ⟨g,i,none⟩=some (.int .i64 t)
theorem Jk.below{w w':World}{g:Nat}{E:List Int}{k:Nat}(h:Jk w g E k)(hb:Below w.heap.size w w'):Jk w' g E k:=fun i t hk hi=>jab hb (h i t hk hi)
theorem Jk.set{w:World}{g m:Nat}{E:List Int}{k:Nat}{t:Int}(h:Jk w g E (k+1))(hR:Room w g m)(hk:k<m)(ht:E[k]? =some t):Jk (w.setCell ⟨g,k,none⟩ (.int .i64 t)) g E k:=fun i u hi hu=>by
 by_cases e:i=k
 ·subst e
  rw[ht]at hu
  injection hu with hu
  subst hu
  obtain⟨⟨v,hv⟩,_⟩:=hR i hk
  exact World.cell?_setCell_same _ _ _ hv
 ·rw[World.cell?_setCell_other _ _ _ _ (fun h=>e (by injection h with _ h1;exact h1.symm))]
  exact h i u (by omega) hu
theorem j6d:∃i:TypeInfo,Tryz.prog.info? 2=some i/\i.zero=some (.int .i64 0)/\i.size=1/\i.bytes=8:=⟨_,rfl,rfl,rfl,rfl⟩
theorem jgx(H:List HapD)(a:Option Addr)(ca:Nat)(w:World)(hA:Zd w a 3 (H.map HapD.cs))(hl:H.length<=2000):
  Calls Tryz.prog 280 #[.slice a H.length ca] w fun e w'=>e=.returned (.slice (some ⟨w.heap.size,0,none⟩) H.length H.length)/\Jk w' w.heap.size (sufM H) 0/\Below w.heap.size w w':=by
 obtain⟨i0,hi,hz0,hz1,hz2⟩:=j6d
 obtain⟨w1,hrun,hown,hgr⟩:=run_make_full (P:=Tryz.prog) w w.heap.size 260 2 i0 _ 1 Tryz.underlying260 hi hz0 hz1 .i64 .i64 H.length (by rw[hz2];omega) (by unfold maxLen;omega) (Nat.le_refl _)
 have hR:=j5d hown
 rw[Nat.mul_one]at hR
 have hB:Below w.heap.size w w1:=(Below.refl _ _).grown hgr (Nat.le_refl _) (fun k hk=>by cases hk)
 have HE:=@sufM_at H
 have HE2:Hid (∀(k:Nat) (h:HapD),H[k]? =some h->(sufM H)[k]? =some (min (jb6 (sufM H) (k+1)) h.at_)):=fun k h hh=>HE hh
 have h0:jb6 (sufM H) H.length=253402300799:=jnm (by rw[jfn];exact Nat.le_refl _)
 have h00:Jk w1 w.heap.size (sufM H) H.length:=fun i t h1 h2=>by have:=(List.getElem?_eq_some_iff.mp h2).1;rw[jfn]at this;omega
 clear HE
 generalize sufM H=E at *
 clear hi hz0 hz1 hz2 hown hgr
 go_enter Tryz.func280,Tryz.ntmps280
 go_wp2
 go_loopw [4,5] (fun s4 s5 wr=>∃m:Nat,m<=H.length/\s4=.int .i64 (jb6 E m)/\s5=.int .i64 ((m:Int)-1)/\Jk wr w.heap.size E m/\Room wr w.heap.size H.length/\Below w.heap.size w wr) (fun _ s5 _=>(intOf s5+1).toNat)
 case atStart=>exact⟨H.length,Nat.le_refl _,by rw[h0],rfl,h00,hR,hB⟩
 case round=>
  clear hR hB hrun h0 h00
  obtain⟨m,hm,rfl,hs5,hL,hR,hB⟩:=hrel
  cases m with
  |zero=>
   subst hs5
   go_wp2
   go_ret
   exact⟨rfl,hL,hB⟩
  |succ k=>
   rw[show(((k+1:Nat):Int)-1)=(k:Int) by omega]at hs5
   subst hs5
   obtain⟨x,hx⟩:∃x,H[k]? =some x:=⟨_,List.getElem?_eq_getElem (by omega)⟩
   obtain⟨b,o,rfl,hc⟩:=(hA.below hB).at (i:=k) (r:=x.cs) (by rw[List.getElem?_map,hx];rfl)
   have c0:wr.cell? ⟨b,o+k*3,none⟩=some (.int .i64 x.at_):=hc 0 _ rfl
   have hE:=HE2.out k x hx
   have HL:Hid (jb6 E k=min (jb6 E (k+1)) x.at_):=jfs hE
   have hL2:=hL.set hR (by omega) hE
   have hR2:=hR.set ⟨w.heap.size,k,none⟩ (.int .i64 (min (jb6 E (k+1)) x.at_))
   have hB2:Below w.heap.size w (wr.setCell ⟨w.heap.size,k,none⟩ (.int .i64 (min (jb6 E (k+1)) x.at_))):=hB.setCell (Nat.le_refl _) _
   obtain⟨⟨u0,hu0⟩,hf0⟩:=hR k (by omega)
   have hkl:(k:Int)<(H.length:Int):=by omega
   clear hc hx hE hL hR
   generalize jb6 E (k+1)=t at *
   go_wp2
   go_roundw
   case rel=>exact⟨k,by omega,by rw[HL.out],by rfl,hL2,hR2,hB2⟩
   case measure=>simp[intOf]
theorem jhx(H:List HapD)(a:Option Addr)(ca:Nat)(w:World)(hA:Zd w a 3 (H.map HapD.cs))(hl:H.length<=2000):
  Calls Tryz.prog 284 #[.slice a H.length ca] w fun e w'=>e=.returned (.string (jcv H))/\Below w.heap.size w w':=by
 have HA:Hid (∀(k:Nat) (x:HapD),H[k]? =some x->x.save=0->(∀j y,j<k->H[j]? =some y->y.save≠0)->jcv H=x.letter):=fun k x h1 h2 h3=>jyq h1 h2 h3
 have HN:Hid ((∀j y,j<H.length->H[j]? =some y->y.save≠0)->jcv H=⟨#[]⟩):=fun h=>jqr fun x hx=>by
  obtain⟨j,hj⟩:=List.getElem?_of_mem hx
  exact h j x (List.getElem?_eq_some_iff.mp hj).1 hj
 generalize jcv H=R at *
 go_enter Tryz.func284,Tryz.ntmps284
 go_wp2
 go_loopw [7] (fun s wr=>∃k:Nat,k<=H.length/\s=.int .i64 k/\Hid (∀j y,j<k->H[j]? =some y->y.save≠0)/\Below w.heap.size w wr) (fun s _=>H.length-(intOf s).toNat)
 case atStart=>exact⟨0,by omega,rfl,fun j y h=>by omega,Below.refl _ _⟩
 case round=>
  obtain⟨k,hk,rfl,hN,hB⟩:=hrel
  have hsW:=hB.size
  by_cases hlt:k<H.length
  ·obtain⟨x,hx⟩:=qgg hlt
   obtain⟨b,o,rfl,hc⟩:=(hA.below hB).at (i:=k) (r:=x.cs) (by rw[List.getElem?_map,hx];rfl)
   have c0:wr.cell? ⟨b,o+k*3,none⟩=some (.int .i64 x.at_):=hc 0 _ rfl
   have c1:=hc 1 _ rfl
   have c2:=hc 2 _ rfl
   have hkl:(k:Int)<(H.length:Int):=by omega
   have hB2:=hB.alloc hsW (.cells #[.int .i64 x.at_,.int .i64 x.save,.string x.letter] 358)
   by_cases h0:x.save=0
   ·have HR:Hid (R=x.letter):=HA.out k x hx h0 hN.out
    rw[h0]at hB2 c1
    clear hc hx hN
    go_wp2
    go_ret
    exact⟨ret_strA HR.out.symm,hB2⟩
   ·have HR:Hid (∀j y,j<k+1->H[j]? =some y->y.save≠0):=fun j y hj hy=>by
     by_cases e:j=k
     ·subst e;rw[hx]at hy;injection hy with hy;subst hy;exact h0
     ·exact hN.out j y (by omega) hy
    clear hc hx hN
    go_wp2
    go_roundw
    case rel=>exact⟨k+1,by omega,by go_num,HR,hB2⟩
    case measure=>simp[intOf];omega
  ·have HR:Hid (R=⟨#[]⟩):=HN.out fun j y hj hy=>hN.out j y (by omega) hy
   have hkl:¬(k:Int)<(H.length:Int):=by omega
   go_wp2
   go_ret
   exact⟨ret_strA HR.out.symm,hB⟩
end
section
open Go.RowKit Go.Sort
theorem jp9(E:List Int)(g n pe pa i:Nat)(t:Int)(w:World)(hL:Jk w g E 0)(hE:E.length=n)(hi:i<n)(he:w.cell? ⟨pe,0,none⟩=some (.slice (some ⟨g,0,none⟩) n n))(ha:w.cell? ⟨pa,0,none⟩=some (.int .i64 t)):
  Calls Tryz.prog 283 #[.int .i64 i,.pointer (some ⟨pe,0,none⟩),.pointer (some ⟨pa,0,none⟩)] w fun e w'=>e=.returned (.bool (decide (t<jb6 E i)))/\Below w.heap.size w w':=by
 obtain⟨x,hx⟩:∃x,E[i]? =some x:=⟨_,List.getElem?_eq_getElem (by omega)⟩
 have c0:w.cell? ⟨g,i,none⟩=some (.int .i64 x):=hL i x (by omega) hx
 rw[jfs hx]
 have hin:(i:Int)<(n:Int):=by omega
 clear hx hL hE hi
 go_enter Tryz.func283,Tryz.ntmps283
 go_wp2_with fail
 go_quiet (fail)
 go_wp2
 go_ret
 exact⟨rfl,below_drewN (Below.refl _ _) _⟩
theorem jm8(H:List HapD)(g pe pa:Nat)(t:Int)(w:World)(hL:Jk w g (sufM H) 0)(hH:∀h∈H,h.at_<=253402300799)(hl:H.length<=2000)(he:w.cell? ⟨pe,0,none⟩=some (.slice (some ⟨g,0,none⟩) H.length H.length))(ha:w.cell? ⟨pa,0,none⟩=some (.int .i64 t)):
  Calls Tryz.prog 282 #[.int .i64 H.length,.func (.func 283) #[] #[.pointer (some ⟨pe,0,none⟩),.pointer (some ⟨pa,0,none⟩)]] w fun e w'=>e=.returned (.int .i64 (hcnt H t))/\Below w.heap.size w w':=by
 have HC:Hid (∀m,m<=H.length->(∀i,i<m->jb6 (sufM H) i<=t)->(∀i,m<=i->i<H.length->t<jb6 (sufM H) i)->hcnt H t=m):=fun m h1 h2 h3=>j5t hH h1 (fun i hi=>by have:=h2 i hi;omega) h3
 have HM:Hid (∀a b,a<=b->b<H.length->t<jb6 (sufM H) a->t<jb6 (sufM H) b):=fun a b h1 h2 h3=>by have:=j1d (H:=H) h1 (by omega);omega
 have hEl:=jfn H
 generalize hcnt H t=c at *
 clear hH
 generalize sufM H=E at *
 go_enter Tryz.func282,Tryz.ntmps282
 go_wp2
 go_loopw [5,6] (fun s5 s6 wr=>∃lo hi:Nat,lo<=hi/\hi<=H.length/\s5=.int .i64 lo/\s6=.int .i64 hi/\Hid (∀i,i<lo->jb6 E i<=t)/\Hid (∀i,hi<=i->i<H.length->t<jb6 E i)/\Below w.heap.size w wr) (fun s5 s6 _=>(intOf s6).toNat-(intOf s5).toNat)
 case atStart=>exact⟨0,H.length,by omega,by omega,rfl,rfl,fun t ht=>by omega,fun t h1 h2=>by omega,Below.refl _ _⟩
 case round=>
  obtain⟨lo,hi,hlh,hhl,rfl,rfl,h1,h2,hB⟩:=hrel
  by_cases hlt:lo<hi
  ·have hS:=jp9 E g H.length pe pa ((lo+hi) / 2) t wr (hL.below hB) hEl (by omega) (jab hB he) (jab hB ha)
   rw[show(((lo+hi) / 2:Nat):Int)=((lo:Int)+(hi:Int)) / 2 by omega]at hS
   by_cases hp:t<jb6 E ((lo+hi) / 2)
   ·have HR:Hid (∀i,(lo+hi) / 2<=i->i<H.length->t<jb6 E i):=fun i ha hb=>HM.out _ i ha hb hp
    rw[decide_eq_true hp]at hS
    clear hp
    go_wp2_with fail
    refine hS.mono ?_
    rintro e w2 ⟨rfl,hb2⟩
    go_wp2
    go_roundw
    case rel=>exact⟨lo,(lo+hi) / 2,by omega,by omega,rfl,by rw[show((lo:Int)+(hi:Int)) / 2=(((lo+hi) / 2:Nat):Int) by omega],h1,HR,(qtr hB hb2)⟩
    case measure=>simp[intOf];omega
   ·have HR:Hid (∀i,i<(lo+hi) / 2+1->jb6 E i<=t):=fun i hi2=>Int.not_lt.mp fun hc=>hp (HM.out i ((lo+hi) / 2) (by omega) (by omega) hc)
    rw[decide_eq_false hp]at hS
    clear hp
    go_wp2_with fail
    refine hS.mono ?_
    rintro e w2 ⟨rfl,hb2⟩
    go_wp2
    go_roundw
    case rel=>exact⟨(lo+hi) / 2+1,hi,by omega,hhl,by rw[show((lo:Int)+(hi:Int)) / 2+1=(((lo+hi) / 2+1:Nat):Int) by omega],rfl,HR,h2,(qtr hB hb2)⟩
    case measure=>simp[intOf];omega
  ·obtain rfl:hi=lo:=by omega
   have HR:Hid (c=hi):=HC.out hi hhl h1.out h2.out
   go_wp2
   go_ret
   exact⟨ret_int (by rw[HR.out]),hB⟩
theorem jk4{w:World}{b:Nat}{x0 x1 x2 v0 v1 v2:Value}(h0:w.cell? ⟨b,0,none⟩=some x0)(h1:w.cell? ⟨b,1,none⟩=some x1)(h2:w.cell? ⟨b,2,none⟩=some x2):
  (((w.setCell ⟨b,0,none⟩ v0).setCell ⟨b,1,none⟩ v1).setCell ⟨b,2,none⟩ v2).cell? ⟨b,0,none⟩=some v0/\(((w.setCell ⟨b,0,none⟩ v0).setCell ⟨b,1,none⟩ v1).setCell ⟨b,2,none⟩ v2).cell? ⟨b,1,none⟩=some v1/\(((w.setCell ⟨b,0,none⟩ v0).setCell ⟨b,1,none⟩ v1).setCell ⟨b,2,none⟩ v2).cell? ⟨b,2,none⟩=some v2:=by
 refine⟨?_,?_,?_⟩
 ·rw[World.cell?_setCell_other _ _ _ _ (by simp),World.cell?_setCell_other _ _ _ _ (by simp),World.cell?_setCell_same _ _ _ h0]
 ·rw[World.cell?_setCell_other _ _ _ _ (by simp)]
  refine World.cell?_setCell_same _ _ _ (u:=x1) ?_
  rw[World.cell?_setCell_other _ _ _ _ (by simp)];exact h1
 ·refine World.cell?_setCell_same _ _ _ (u:=x2) ?_
  rw[World.cell?_setCell_other _ _ _ _ (by simp),World.cell?_setCell_other _ _ _ _ (by simp)];exact h2
theorem jqd(pz:Nat)(t s:Int)(w:World)(hz:w.cell? ⟨pz,2,none⟩=some (.int .i64 s)):
  Calls Tryz.prog 279 #[.int .i64 t,.pointer (some ⟨pz,0,none⟩)] w fun e w'=>e=.returned (HapD.v ⟨0,s,⟨#[]⟩⟩)/\Below w.heap.size w w':=by
 have hz1:=jab (qal w (.cells #[.int .i64 0,.int .i64 0,.string ⟨#[]⟩] 358)) hz
 simp only[HapD.v]
 go_enter Tryz.func279,Tryz.ntmps279
 go_wp2
 exact bodyPost_ret (v:=.agg #[.int .i64 0,.int .i64 s,.string ⟨#[]⟩]) (by simp[results,Tryz.results279,go_sem]) rfl ⟨rfl,qal _ _⟩
theorem jqc(H:List HapD)(a:Option Addr)(ca g ph pe:Nat)(t:Int)(w:World)(hA:Zd w a 3 (H.map HapD.cs))(hL:Jk w g (sufM H) 0)(hH:∀h∈H,h.at_<=253402300799)(hl:H.length<=2000)(hh:w.cell? ⟨ph,0,none⟩=some (.slice a H.length ca))(he:w.cell? ⟨pe,0,none⟩=some (.slice (some ⟨g,0,none⟩) H.length H.length)):
  Calls Tryz.prog 281 #[.int .i64 t,.pointer (some ⟨ph,0,none⟩),.pointer (some ⟨pe,0,none⟩)] w fun e w'=>e=.returned (jju H (hcnt H t)).v/\Below w.heap.size w w':=by
 have hB0:=(qal w (.cells #[.int .i64 t] 2)).alloc (by simp) (.cells #[.int .i64 0,.int .i64 0,.string ⟨#[]⟩] 358)
 have hF:=fun w (h:Zd w a 3 (H.map HapD.cs))=>jhx H a ca w h hl
 have hc:=jya H t
 have h0:=jab hB0 hh
 have h1:=jab hB0 he
 have ha:((w.alloc (.cells #[.int .i64 t] 2)).alloc (.cells #[.int .i64 0,.int .i64 0,.string ⟨#[]⟩] 358)).cell? ⟨w.heap.size,0,none⟩=some (.int .i64 t):=by simp[go_sem]
 have hS:=jm8 H g pe w.heap.size t ((w.alloc (.cells #[.int .i64 t] 2)).alloc (.cells #[.int .i64 0,.int .i64 0,.string ⟨#[]⟩] 358)) (hL.below hB0) hH hl h1 ha
 obtain⟨m,hm⟩:∃m,hcnt H t=m:=⟨_,rfl⟩
 rw[hm]at hS hc ⊢
 clear hm hH hL
 go_enter Tryz.func281,Tryz.ntmps281
 go_wp2_with fail
 refine hS.mono ?_
 rintro e w1 ⟨rfl,hb1⟩
 obtain⟨hc1,hf1⟩:=jal hb1
 have hB1:=hB0.trans (hb1.mono (by simp;omega))
 have r0:w1.cell? ⟨w.heap.size+1,0,none⟩=some (.int .i64 0):=(hc1 _ _ (by simp)).trans (by simp[go_sem])
 have r1:w1.cell? ⟨w.heap.size+1,1,none⟩=some (.int .i64 0):=(hc1 _ _ (by simp)).trans (by simp[go_sem])
 have r2:w1.cell? ⟨w.heap.size+1,2,none⟩=some (.string ⟨#[]⟩):=(hc1 _ _ (by simp)).trans (by simp[go_sem])
 have f0:w1.frozen? ⟨w.heap.size+1,0,none⟩=false:=(hf1 _ _ (by simp)).trans (by simp[go_sem])
 have f1:w1.frozen? ⟨w.heap.size+1,1,none⟩=false:=(hf1 _ _ (by simp)).trans (by simp[go_sem])
 have f2:w1.frozen? ⟨w.heap.size+1,2,none⟩=false:=(hf1 _ _ (by simp)).trans (by simp[go_sem])
 have y0:=jab hB1 hh
 clear hc1 hf1 hb1 hS ha h0 h1
 cases m with
 |zero=>
  go_wp2_with fail
  refine(hF _ (hA.below hB1)).mono ?_
  rintro e w2 ⟨rfl,hb2⟩
  obtain⟨hc2,hf2⟩:=jal hb2
  have hB2:=qtr hB1 hb2
  have q0:=jab hb2 r0
  have q1:=jab hb2 r1
  have q2:=jab hb2 r2
  have e0:=(hf2 _ _ (qbl r0)).trans f0
  have e1:=(hf2 _ _ (qbl r1)).trans f1
  have e2:=(hf2 _ _ (qbl r2)).trans f2
  obtain⟨s0,s1,s2⟩:=jk4 (v0:=.int .i64 0) (v1:=.int .i64 0) (v2:=.string (jcv H)) q0 q1 q2
  clear hc2 hf2 hb2 r0 r1 r2 f0 f1 f2
  go_wp2
  exact bodyPost_ret (v:=.agg #[.int .i64 0,.int .i64 0,.string (jcv H)]) (by simp[results,Tryz.results281,go_sem,s0,s1,s2]) rfl ⟨rfl,((hB2.setCell (show w.heap.size<=w.heap.size+1 by omega) _).setCell (show w.heap.size<=w.heap.size+1 by omega) _).setCell (show w.heap.size<=w.heap.size+1 by omega) _⟩
 |succ m=>
  obtain⟨x,hx⟩:∃x,H[m]? =some x:=⟨_,List.getElem?_eq_getElem (by omega)⟩
  obtain⟨b,o,rfl,hcc⟩:=(hA.below hB1).at (i:=m) (r:=x.cs) (by rw[List.getElem?_map,hx];rfl)
  have c0:w1.cell? ⟨b,o+m*3,none⟩=some (.int .i64 x.at_):=hcc 0 _ rfl
  have c1:=hcc 1 _ rfl
  have c2:=hcc 2 _ rfl
  have HR:Hid (jju H (m+1)=x):=by simp only[Hid,jju];rw[hx];rfl
  obtain⟨s0,s1,s2⟩:=jk4 (v0:=.int .i64 x.at_) (v1:=.int .i64 x.save) (v2:=.string x.letter) r0 r1 r2
  have hml:(m:Int)<(H.length:Int):=by omega
  clear hcc hx
  go_wp2
  exact bodyPost_ret (v:=.agg #[.int .i64 x.at_,.int .i64 x.save,.string x.letter]) (by simp[results,Tryz.results281,go_sem,s0,s1,s2]) rfl ⟨by rw[HR.out];rfl,((hB1.setCell (show w.heap.size<=w.heap.size+1 by omega) _).setCell (show w.heap.size<=w.heap.size+1 by omega) _).setCell (show w.heap.size<=w.heap.size+1 by omega) _⟩
end
section
open Go.RowKit Go.Sort
def Mid(n0 n1:Nat)(w W:World):Prop:=∀b,n0<=b->b<n1->W.heap[b]? =w.heap[b]?
theorem Mid.refl(n0 n1:Nat)(w:World):Mid n0 n1 w w:=fun _ _ _=>rfl
theorem Mid.trans{n0 n1:Nat}{w W W':World}(h:Mid n0 n1 w W)(h':Mid n0 n1 W W'):Mid n0 n1 w W':=fun b h1 h2=>(h' b h1 h2).trans (h b h1 h2)
theorem Mid.of_below{n0 n1:Nat}{w W:World}(h:Below w.heap.size w W)(hn:n1<=w.heap.size):Mid n0 n1 w W:=fun b _ h2=>h.block b (by omega)
theorem Mid.cell{n0 n1:Nat}{w W:World}(h:Mid n0 n1 w W){b o:Nat}{v:Value}(h1:n0<=b)(h2:b<n1)(hc:w.cell? ⟨b,o,none⟩=some v):W.cell? ⟨b,o,none⟩=some v:=(World.cell?_of_block (a:=⟨b,o,none⟩) (h b h1 h2)).trans hc
theorem Zd.mid{n0 n1:Nat}{w W:World}{a:Option Addr}{q:Nat}{rows:List (List Value)}(h:Zd w a q rows)(hm:Mid n0 n1 w W)(ha:∀b o,a=some ⟨b,o,none⟩->n0<=b/\b<n1):Zd W a q rows:=by
 rcases h with h|⟨b,o,rfl,h⟩
 ·exact .inl h
 ·obtain⟨h1,h2⟩:=ha b o rfl
  exact .inr ⟨b,o,rfl,fun i j r c hi hj=>hm.cell h1 h2 (h i j r c hi hj)⟩
structure Jv(w:World)(n0 n1 K:Nat)(cap:Array Value)(e:EraD)(H:List HapD):Prop where
 go:∀(args:Array Value) (W:World),(callFunc K args).run Tryz.prog W=.ok (.enter K args) W
 tell:∀(W:World) (t:Int),Mid n0 n1 w W->Calls Tryz.prog K (#[.int .i64 t]++cap) W fun r W'=>r=.returned (jbd e H t).v/\Below W.heap.size W W'
theorem Jv.mid{w w':World}{n0 n1 K:Nat}{cap:Array Value}{e:EraD}{H:List HapD}(h:Jv w n0 n1 K cap e H)(hb:Mid n0 n1 w w'):Jv w' n0 n1 K cap e H:=⟨h.go,fun W t hB=>h.tell W t (hb.trans hB)⟩
theorem joe(e:EraD)(H:List HapD)(a:Option Addr)(ca n0:Nat)(w:World)(hA:Zd w a 3 (H.map HapD.cs))(ha:∀b o,a=some ⟨b,o,none⟩->n0<=b/\b<w.heap.size)(hn:n0<=w.heap.size)(hH:∀h∈H,h.at_<=253402300799)(hl:H.length<=2000):
  Calls Tryz.prog 253 #[e.v,.slice a H.length ca] w fun r W'=>∃K cap,r=.returned (.func (.func K) #[] cap)/\Jv W' n0 W'.heap.size K cap e H/\Below w.heap.size w W':=by
 have hE:=fun w (h:Zd w a 3 (H.map HapD.cs))=>jgx H a ca w h hl
 have hB0:=(qal w (.cells #[.int .i64 e.offset,.string e.rules,.int .i64 e.save,.string e.format,.int .i64 e.until_,.string e.of] 148)).alloc (by simp) (.cells #[.slice a H.length ca] 348)
 obtain⟨z0,z1⟩:(fun z:World=>z.cell? ⟨w.heap.size,2,none⟩=some (.int .i64 e.save)/\z.cell? ⟨w.heap.size+1,0,none⟩=some (.slice a H.length ca)) ((w.alloc (.cells #[.int .i64 e.offset,.string e.rules,.int .i64 e.save,.string e.format,.int .i64 e.until_,.string e.of] 148)).alloc (.cells #[.slice a H.length ca] 348)):=by simp[go_sem]
 by_cases h0:e.rules.size=0
 ·have hr:e.rules=⟨#[]⟩:=j3c (l:=[]) (by rw[<- List.length_eq_zero_iff,jc2];exact h0)
  have HF:Hid (Jv ((w.alloc (.cells #[.int .i64 e.offset,.string e.rules,.int .i64 e.save,.string e.format,.int .i64 e.until_,.string e.of] 148)).alloc (.cells #[.slice a H.length ca] 348)) n0 ((w.alloc (.cells #[.int .i64 e.offset,.string e.rules,.int .i64 e.save,.string e.format,.int .i64 e.until_,.string e.of] 148)).alloc (.cells #[.slice a H.length ca] 348)).heap.size 279 #[.pointer (some ⟨w.heap.size,0,none⟩)] e H):=⟨fun _ _=>by kernel_rfl,fun W t hB=>by
   rw[jou h0]
   exact jqd w.heap.size t e.save W (hB.cell hn (by simp;omega) z0)⟩
  rw[hr]at HF hB0
  clear h0 z0 z1
  unfold EraD.v
  go_enter Tryz.func253,Tryz.ntmps253
  go_wp2
  go_ret
  exact⟨_,_,rfl,HF.out,hB0⟩
 ·have hne:e.rules.toList.isEmpty=false:=by
   cases h:e.rules.toList with
   |nil=>exact absurd (by rw[jee]at h;rw[<- jc2,h];rfl) h0
   |cons x l=>rfl
  have hs0:((w.alloc (.cells #[.int .i64 e.offset,.string e.rules,.int .i64 e.save,.string e.format,.int .i64 e.until_,.string e.of] 148)).alloc (.cells #[.slice a H.length ca] 348)).heap.size=w.heap.size+1+1:=by simp
  have hE2:=hE ((w.alloc (.cells #[.int .i64 e.offset,.string e.rules,.int .i64 e.save,.string e.format,.int .i64 e.until_,.string e.of] 148)).alloc (.cells #[.slice a H.length ca] 348)) (hA.below hB0)
  rw[hs0]at hE2
  unfold EraD.v
  go_enter Tryz.func253,Tryz.ntmps253
  go_wp2_with fail
  refine hE2.mono ?_
  rintro r w1 ⟨rfl,hL,hb1⟩
  have hB1:=hB0.trans (hb1.mono (by omega))
  have y1:=jab (by first|exact hb1|(rw[hs0];exact hb1)) z1
  have hb2:=qal w1 (.cells #[.slice (some ⟨w.heap.size+1+1,0,none⟩) H.length H.length] 260)
  have hB2:=qtr hB1 hb2
  have x1:=jab hb2 y1
  have x2:(w1.alloc (.cells #[.slice (some ⟨w.heap.size+1+1,0,none⟩) H.length H.length] 260)).cell? ⟨w1.heap.size,0,none⟩=some (.slice (some ⟨w.heap.size+1+1,0,none⟩) H.length H.length):=by simp[go_sem]
  have hA2:=hA.below hB2
  have hL2:=hL.below hb2
  have HF:Hid (Jv (w1.alloc (.cells #[.slice (some ⟨w.heap.size+1+1,0,none⟩) H.length H.length] 260)) n0 (w1.alloc (.cells #[.slice (some ⟨w.heap.size+1+1,0,none⟩) H.length H.length] 260)).heap.size 281 #[.pointer (some ⟨w.heap.size+1,0,none⟩),.pointer (some ⟨w1.heap.size,0,none⟩)] e H):=⟨fun _ _=>by kernel_rfl,fun W t hB=>by
   rw[jlj h0]
   exact jqc H a ca (w.heap.size+1+1) (w.heap.size+1) w1.heap.size t W (hA2.mid hB fun b o e=>by have:=ha b o e;have:=hB2.size;omega) (fun i u hi hu=>hB.cell (by omega) (qbl (hL2 i u hi hu)) (hL2 i u hi hu)) hH hl (hB.cell (by omega) (qbl x1) x1) (hB.cell (by have:=hB1.size;omega) (qbl x2) x2)⟩
  clear hE2 hE hL hb1 hA2 hL2 x1 x2 hb2 y1 z0 z1
  go_wp2
  go_ret
  exact⟨_,_,rfl,HF.out,hB2⟩
theorem jqe(e:EraD)(H:List HapD)(n0 n1 K:Nat)(cap:Array Value)(b:Int)(w:World)(hF:Jv w n0 n1 K cap e H)(hn:n1<=w.heap.size)(h1: -62135596800<=e.until_)(h2:e.until_<=253402300799)(h3: -86400<=e.offset)(h4:e.offset<=86400)(h5:∀t, -7200<=(jbd e H t).save/\(jbd e H t).save<=7200):
  Calls Tryz.prog 254 #[e.v,.int .i64 b,.func (.func K) #[] cap] w fun r W'=>r=.returned (.int .i64 (endE e H b))/\Below w.heap.size w W':=by
 have hB0:=qal w (.cells #[.int .i64 e.offset,.string e.rules,.int .i64 e.save,.string e.format,.int .i64 e.until_,.string e.of] 148)
 cases hs:(e.of.toList==[115])
 ·cases hw:(e.of.toList==[119])
  ·have HR:Hid (endE e H b=max b (min e.until_ 253402300799)):=by simp only[Hid,endE,endU];rw[hs,hw];rfl
   unfold EraD.v
   go_enter Tryz.func254,Tryz.ntmps254
   go_wp2
   go_ret
   exact⟨ret_int HR.out.symm,hB0⟩
  ·have HR:Hid (endE e H b=max b (min (e.until_-e.offset-(jbd e H (e.until_-e.offset-1)).save) 253402300799)):=by simp only[Hid,endE,endU];rw[hs,hw];rfl
   have hC:=hF.tell _ (e.until_-e.offset-1) (Mid.of_below hB0 hn)
   have hgo:=hF.go
   have h6:=h5 (e.until_-e.offset-1)
   generalize jbd e H (e.until_-e.offset-1)=F at *
   have hfd:∀w,(Instr.field 358 (.agg #[.int .i64 F.at_,.int .i64 F.save,.string F.letter]) 1).run Tryz.prog w=.ok (.int .i64 F.save) w:=fun _=>by kernel_rfl
   unfold HapD.v at hC
   unfold EraD.v
   go_enter Tryz.func254,Tryz.ntmps254
   go_wp2_with fail
   refine hC.mono ?_
   rintro r w1 ⟨rfl,hb1⟩
   go_wp2
   go_ret
   exact⟨ret_int HR.out.symm,hB0.trans (hb1.mono (by simp))⟩
 ·have HR:Hid (endE e H b=max b (min (e.until_-e.offset) 253402300799)):=by simp only[Hid,endE,endU];rw[hs];rfl
  unfold EraD.v
  go_enter Tryz.func254,Tryz.ntmps254
  go_wp2
  go_ret
  exact⟨ret_int HR.out.symm,hB0⟩
end
section
open Go.RowKit Go.Sort
theorem jwj{w:World}{b:Nat}{x0 x1 x2 x3 v0 v1 v2 v3:Value}(h0:w.cell? ⟨b,0,none⟩=some x0)(h1:w.cell? ⟨b,1,none⟩=some x1)(h2:w.cell? ⟨b,2,none⟩=some x2)(h3:w.cell? ⟨b,3,none⟩=some x3):
  ((((w.setCell ⟨b,0,none⟩ v0).setCell ⟨b,1,none⟩ v1).setCell ⟨b,2,none⟩ v2).setCell ⟨b,3,none⟩ v3).cell? ⟨b,0,none⟩=some v0/\((((w.setCell ⟨b,0,none⟩ v0).setCell ⟨b,1,none⟩ v1).setCell ⟨b,2,none⟩ v2).setCell ⟨b,3,none⟩ v3).cell? ⟨b,1,none⟩=some v1/\((((w.setCell ⟨b,0,none⟩ v0).setCell ⟨b,1,none⟩ v1).setCell ⟨b,2,none⟩ v2).setCell ⟨b,3,none⟩ v3).cell? ⟨b,2,none⟩=some v2/\((((w.setCell ⟨b,0,none⟩ v0).setCell ⟨b,1,none⟩ v1).setCell ⟨b,2,none⟩ v2).setCell ⟨b,3,none⟩ v3).cell? ⟨b,3,none⟩=some v3:=by
 refine⟨?_,?_,?_,?_⟩
 ·rw[World.cell?_setCell_other _ _ _ _ (by simp),World.cell?_setCell_other _ _ _ _ (by simp),World.cell?_setCell_other _ _ _ _ (by simp),World.cell?_setCell_same _ _ _ h0]
 ·rw[World.cell?_setCell_other _ _ _ _ (by simp),World.cell?_setCell_other _ _ _ _ (by simp)]
  refine World.cell?_setCell_same _ _ _ (u:=x1) ?_
  rw[World.cell?_setCell_other _ _ _ _ (by simp)];exact h1
 ·rw[World.cell?_setCell_other _ _ _ _ (by simp)]
  refine World.cell?_setCell_same _ _ _ (u:=x2) ?_
  rw[World.cell?_setCell_other _ _ _ _ (by simp),World.cell?_setCell_other _ _ _ _ (by simp)];exact h2
 ·refine World.cell?_setCell_same _ _ _ (u:=x3) ?_
  rw[World.cell?_setCell_other _ _ _ _ (by simp),World.cell?_setCell_other _ _ _ _ (by simp),World.cell?_setCell_other _ _ _ _ (by simp)];exact h3
theorem ji2(e:EraD)(F:HapD)(t:Int)(w:World)(hM:MxA w)(hf:e.format.size<=1048576)(hl:F.letter.size<=1048576)(h3: -86400<=e.offset)(h4:e.offset<=86400)(h5: -7200<=F.save)(h6:F.save<=7200):
  Calls Tryz.prog 257 #[e.v,.int .i64 t,F.v] w fun r W'=>r=.returned (jj9 e F t).v/\Below w.heap.size w W':=by
 have hA:=fun w hM=>jqj e.format F.letter F.save w hM hf hl
 have HR:Hid ((jj9 e F t).v=.agg #[.int .i64 t,.int .i64 (e.offset+F.save),.int .i64 F.save,.string (jq8 e.format F.letter F.save)]):=rfl
 generalize jq8 e.format F.letter F.save=ab at *
 generalize (jj9 e F t).v=RV at *
 have hB0:=(((qal w (.cells #[.int .i64 e.offset,.string e.rules,.int .i64 e.save,.string e.format,.int .i64 e.until_,.string e.of] 148)).alloc (by simp) (.cells #[.int .i64 F.at_,.int .i64 F.save,.string F.letter] 358)).alloc (by simp;omega) (.cells #[.int .i64 0,.int .i64 0,.int .i64 0,.string ⟨#[]⟩] 304))
 obtain⟨k0,k3,l1,l2,r0,r1,r2,r3⟩:(fun z:World=>z.cell? ⟨w.heap.size,0,none⟩=some (.int .i64 e.offset)/\z.cell? ⟨w.heap.size,3,none⟩=some (.string e.format)/\z.cell? ⟨w.heap.size+1,1,none⟩=some (.int .i64 F.save)/\z.cell? ⟨w.heap.size+1,2,none⟩=some (.string F.letter)/\z.cell? ⟨w.heap.size+1+1,0,none⟩=some (.int .i64 0)/\z.cell? ⟨w.heap.size+1+1,1,none⟩=some (.int .i64 0)/\z.cell? ⟨w.heap.size+1+1,2,none⟩=some (.int .i64 0)/\z.cell? ⟨w.heap.size+1+1,3,none⟩=some (.string ⟨#[]⟩)) (((w.alloc (.cells #[.int .i64 e.offset,.string e.rules,.int .i64 e.save,.string e.format,.int .i64 e.until_,.string e.of] 148)).alloc (.cells #[.int .i64 F.at_,.int .i64 F.save,.string F.letter] 358)).alloc (.cells #[.int .i64 0,.int .i64 0,.int .i64 0,.string ⟨#[]⟩] 304)):=by simp[go_sem]
 have f0:∀j,j<4->(((w.alloc (.cells #[.int .i64 e.offset,.string e.rules,.int .i64 e.save,.string e.format,.int .i64 e.until_,.string e.of] 148)).alloc (.cells #[.int .i64 F.at_,.int .i64 F.save,.string F.letter] 358)).alloc (.cells #[.int .i64 0,.int .i64 0,.int .i64 0,.string ⟨#[]⟩] 304)).frozen? ⟨w.heap.size+1+1,j,none⟩=false:=fun j hj=>by simp[go_sem]
 unfold EraD.v HapD.v
 go_enter Tryz.func257,Tryz.ntmps257
 go_wp2_with fail
 generalize (((w.alloc (.cells #[.int .i64 e.offset,.string e.rules,.int .i64 e.save,.string e.format,.int .i64 e.until_,.string e.of] 148)).alloc (.cells #[.int .i64 F.at_,.int .i64 F.save,.string F.letter] 358)).alloc (.cells #[.int .i64 0,.int .i64 0,.int .i64 0,.string ⟨#[]⟩] 304))=W at *
 have hBD:Below w.heap.size w W.drew:=hB0.trans ((jaa W).mono hB0.size)
 have hMD:=hM.of_below hBD
 have hn2:¬w.heap.size+1+1=w.heap.size:=by omega
 have hn3:¬w.heap.size=w.heap.size+1+1:=by omega
 have hwr:IntKind.i64.wrap (e.offset+F.save)=e.offset+F.save:=by rw[IntKind.wrap_i64];omega
 go_region_held3 (fun w'=>w'.cell? ⟨w.heap.size,0,none⟩=some (.int .i64 e.offset)/\w'.cell? ⟨w.heap.size,3,none⟩=some (.string e.format)/\w'.cell? ⟨w.heap.size+1,1,none⟩=some (.int .i64 F.save)/\w'.cell? ⟨w.heap.size+1,2,none⟩=some (.string F.letter)) (go_keep) ((go_at_call 286;refine(hA _ hMD).mono ?_;rintro r w4 ⟨rfl,hb⟩;have q0:=jab hb k0;have q3:=jab hb k3;have p1:=jab hb l1;have p2:=jab hb l2;have s0:=jab hb r0;have s1:=jab hb r1;have s2:=jab hb r2;have s3:=jab hb r3;have z0:w4.frozen? ⟨w.heap.size+1+1,0,none⟩=false:=((jal hb).2 _ _ (qbl r0)).trans (f0 0 (by omega));have z1:w4.frozen? ⟨w.heap.size+1+1,1,none⟩=false:=((jal hb).2 _ _ (qbl r0)).trans (f0 1 (by omega));have z2:w4.frozen? ⟨w.heap.size+1+1,2,none⟩=false:=((jal hb).2 _ _ (qbl r0)).trans (f0 2 (by omega));have z3:w4.frozen? ⟨w.heap.size+1+1,3,none⟩=false:=((jal hb).2 _ _ (qbl r0)).trans (f0 3 (by omega))))
 all_goals
  go_wp2
  have hB:Below w.heap.size w w4:=qtr hBD hb
  obtain⟨u0,u1,u2,u3⟩:=jwj (v0:=.int .i64 t) (v1:=.int .i64 (e.offset+F.save)) (v2:=.int .i64 F.save) (v3:=.string ab) s0 s1 s2 s3
  exact bodyPost_ret (v:=.agg #[.int .i64 t,.int .i64 (e.offset+F.save),.int .i64 F.save,.string ab]) (by simp[results,Tryz.results257,go_sem,u0,u1,u2,u3]) rfl ⟨by rw[HR.out],(((hB.setCell (show w.heap.size<=w.heap.size+1+1 by omega) _).setCell (show w.heap.size<=w.heap.size+1+1 by omega) _).setCell (show w.heap.size<=w.heap.size+1+1 by omega) _).setCell (show w.heap.size<=w.heap.size+1+1 by omega) _⟩
end
section
open Go.RowKit Go.Sort
def Zn(w:World)(base:Nat)(v:Value)(T:List TurnD):Prop:=w.ownsRow base 304 4 v T.length (T.map TurnD.cs).flatten
theorem Zn.add{w:World}{base:Nat}{v:Value}{T:List TurnD}{x:TurnD}(h:w.ownsRow base 304 4 v (T.length+1) ((T.map TurnD.cs).flatten++x.cs)):Zn w base v (T++[x]):=by
 unfold Zn
 rw[List.length_append,List.map_append,List.flatten_append]
 simpa using h
theorem jta{P:List TurnD}:∀r∈P.map TurnD.cs,r.length=4:=fun r hr=>by
 obtain⟨x,_,rfl⟩:=List.mem_map.mp hr
 rfl
theorem Zn.seq{w:World}{base:Nat}{v:Value}{T:List TurnD}(h:Zn w base v T):∃a cap,v=.slice a T.length cap/\Zd w a 4 (T.map TurnD.cs):=by
 obtain⟨a,cap,h1,h2,h3⟩:=jav (rows:=T.map TurnD.cs) (by rw[List.length_map];exact h) jta
 rw[List.length_map]at h1
 exact⟨a,cap,h1,h2⟩
theorem jxw:(Tryz.prog.info? 304).map (fun i=>(i.zero,i.size,i.bytes))=some (some (.agg #[.int .i64 0,.int .i64 0,.int .i64 0,.string ⟨#[]⟩]),4,40):=by kernel_rfl
theorem jqs : ∃ a b c d e f g h i j k l, (Tryz.prog.fieldsOf 304).toList = [⟨ "At", 2, 0, false, a, b, c⟩, ⟨ "Offset", 2, 1, false, d, e, f⟩, ⟨ "Save", 2, 2, false, g, h, i⟩, ⟨ "Abbr", 9, 3, false, j, k, l⟩] := ⟨_, _, _, _, _, _, _, _, _, _, _, _, rfl⟩
theorem j2j(t o1 s1 o2 s2:Int)(a1 a2:ByteArray)(w:World):(binOp .eql 304 (.agg #[.int .i64 t,.int .i64 o1,.int .i64 s1,.string a1]) (.agg #[.int .i64 t,.int .i64 o2,.int .i64 s2,.string a2])).run Tryz.prog w=.ok (.bool (jft ⟨t,o1,s1,a1⟩ ⟨t,o2,s2,a2⟩)) w:=by
 have ht:Tryz.prog.underlying 304=some (.struct (Tryz.prog.fieldsOf 304)):=by kernel_rfl
 have hp:Tryz.prog.stoodInHeld 304=false:=by kernel_rfl
 obtain⟨a,b,c,d,e,f,g,h,i,j,k,l,hf⟩:=jqs
 rw[run_eql_struct,run_equalIn_agg _ 9999 _ _ _ ht hp,hf]
 simp[Op.eqFields,go_sem,jft]
 by_cases h1:o1=o2
 ·by_cases h2:s1=s2
  ·simp[h1,h2]
   by_cases h3:a1.toList=a2.toList
   ·simp[h3]
   ·simp[h3]
  ·simp[h1,h2]
 ·simp[h1]
theorem jt6(x y:Operand)(v1 v2:Array Value)(w:World):(eqGuard .eql 304 x y (.agg v1) (.agg v2)).run Tryz.prog w=.ok () w:=run_eqGuard_agg w _ _ _ _ _ _ (by kernel_rfl)
theorem jfy(T:List TurnD)(x:TurnD)(v:Value)(base:Nat)(w:World)(hT:Zn w base v T)(hb:base<=w.heap.size)(hl:T.length<=100000):
  Calls Tryz.prog 256 #[v,x.v] w fun e W'=>∃v',e=.returned v'/\Zn W' base v' (addT T x)/\Fr (fun b=>v.ownBlock=some b) w W'/\(v'.ownBlock=v.ownBlock\/∃g,v'.ownBlock=some g/\w.heap.size<=g):=by
 obtain⟨i0,hi,hz0,hz1,hz2⟩:=info_parts jxw
 obtain⟨a,cap,rfl,hS⟩:=hT.seq
 have hB0:=qal w (.cells #[.int .i64 x.at_,.int .i64 x.offset,.int .i64 x.save,.string x.abbr] 304)
 cases hL:T.getLast? with
 | none=>
  have hTn:T=[]:=by simpa using hL
  subst hTn
  have HR:Hid (addT [] x=[]++[x]):=rfl
  have hT0:Zn (w.alloc (.cells #[.int .i64 x.at_,.int .i64 x.offset,.int .i64 x.save,.string x.abbr] 304)) base (.slice a 0 cap) []:=World.ownsRow.alloc hT _
  generalize addT [] x=R at *
  unfold TurnD.v
  go_enter Tryz.func256,Tryz.ntmps256
  go_wp2_with (first
   |(at_builtin;refine wpList_append_lies _ rfl _ _ 212 rfl base 304 i0 (.agg #[.int .i64 0,.int .i64 0,.int .i64 0,.string ⟨#[]⟩]) 4 40 Tryz.underlying212 hi hz0 hz1 hz2 rfl (by decide) _ _ _ rfl (World.ownsRow.alloc hT0 _) ⟨w.heap.size+1,0,none⟩ 1 1 [.int .i64 x.at_,.int .i64 x.offset,.int .i64 x.save,.string x.abbr] rfl rfl ?c1 ?c2 (by decide) ?c3 ?c4 ?c5 _ rfl ?_)
   |fail)
  case c1=>simpa using ja3 (w.alloc (.cells #[.int .i64 x.at_,.int .i64 x.offset,.int .i64 x.save,.string x.abbr] 304)) [.int .i64 x.at_,.int .i64 x.offset,.int .i64 x.save,.string x.abbr] 304
  case c2=>intro u hu;simp at hu;rcases hu with rfl|rfl|rfl|rfl<;>rfl
  case c3=>unfold maxLen;simp
  case c4=>simp
  case c5=>simp;omega
  intro g1 cap1 w1 hown1 hgrow hat hlt1
  have HO:Hid (Zn w1 base (.slice (some ⟨g1,0,none⟩) (0+1) cap1) ([]++[x])):=Zn.add (T:=[]) hown1
  have hF:Fr (fun b=>(Value.slice a 0 cap).ownBlock=some b) w w1:=((Fr.of_below hB0).trans (Fr.of_below (qal _ _))).trans (Fr.of_grown hgrow)
  have hloc:(Value.slice (some ⟨g1,0,none⟩) (0+1) cap1).ownBlock=(Value.slice a 0 cap).ownBlock\/∃g,(Value.slice (some ⟨g1,0,none⟩) (0+1) cap1).ownBlock=some g/\w.heap.size<=g:=hat.imp (fun h=>h.symm) fun h=>⟨g1,rfl,by rw[h];first|omega|(simp;omega)⟩
  clear hown1 hgrow hat hlt1 hT hT0 hS
  go_wp2
  go_ret
  exact⟨_,rfl,by rw[HR.out];exact HO.out,hF,hloc⟩
 |some y=>
  obtain⟨n,hn⟩:∃n,T.length=n+1:=by
   cases T with
   |nil=>simp at hL
   |cons z Z=>exact⟨Z.length,rfl⟩
  have hy:T[n]? =some y:=by rw[List.getLast?_eq_getElem?,hn]at hL;exact hL
  obtain⟨b,o,ha,hc⟩:=hS.at (i:=n) (r:=y.cs) (by rw[List.getElem?_map,hy];rfl)
  subst ha
  have c0:(w.alloc (.cells #[.int .i64 x.at_,.int .i64 x.offset,.int .i64 x.save,.string x.abbr] 304)).cell? ⟨b,o+n*4,none⟩=some (.int .i64 y.at_):=jab hB0 (hc 0 _ rfl)
  have c1:=jab hB0 (hc 1 _ rfl)
  have c2:=jab hB0 (hc 2 _ rfl)
  have c3:=jab hB0 (hc 3 _ rfl)
  have hcmp:=fun w=>j2j x.at_ y.offset y.save x.offset x.save y.abbr x.abbr w
  have hgrd:=jt6
  have e1:jft ⟨x.at_,y.offset,y.save,y.abbr⟩ ⟨x.at_,x.offset,x.save,x.abbr⟩=jft y x:=rfl
  rw[e1]at hcmp
  have hB1:Below w.heap.size w (((w.alloc (.cells #[.int .i64 x.at_,.int .i64 x.offset,.int .i64 x.save,.string x.abbr] 304)).alloc (.cells #[.int .i64 y.at_,.int .i64 y.offset,.int .i64 y.save,.string y.abbr] 304)).setCell ⟨w.heap.size+1,0,none⟩ (.int .i64 x.at_)):=(hB0.alloc (by simp) _).setCell (show w.heap.size<=w.heap.size+1 by omega) _
  have hnl:(n:Int)<((n+1:Nat):Int):=by omega
  clear hc
  rw[hn]at hT ⊢
  cases hl:jft y x
  ·have HR:Hid (addT T x=T++[x]):=jsz hL hl
   rw[hl]at hcmp
   have HT:Hid (w.ownsRow base 304 4 (.slice (some ⟨b,o,none⟩) (n+1) cap) (n+1) (T.map TurnD.cs).flatten):=by unfold Zn at hT;rw[hn]at hT;exact hT
   have HN:=hid hn
   clear hl hL e1 hS hy hT
   generalize addT T x=R at *
   unfold TurnD.v
   go_enter Tryz.func256,Tryz.ntmps256
   go_wp2_with (first
    |(at_builtin;refine wpList_append_lies _ rfl _ _ 212 rfl base 304 i0 (.agg #[.int .i64 0,.int .i64 0,.int .i64 0,.string ⟨#[]⟩]) 4 40 Tryz.underlying212 hi hz0 hz1 hz2 rfl (by decide) (.slice (some ⟨b,o,none⟩) (n+1) cap) (n+1) (T.map TurnD.cs).flatten rfl ?d0 ⟨w.heap.size+1+1,0,none⟩ 1 1 [.int .i64 x.at_,.int .i64 x.offset,.int .i64 x.save,.string x.abbr] rfl rfl ?d1 ?d2 (by decide) ?d3 ?d4 ?d5 _ rfl ?_)
    |fail)
   case d0=>exact World.ownsRow.alloc (World.ownsRow.alloc (World.ownsRow.alloc HT.out _) _) _
   case d1=>simpa using ja3 ((w.alloc (.cells #[.int .i64 x.at_,.int .i64 x.offset,.int .i64 x.save,.string x.abbr] 304)).alloc (.cells #[.int .i64 x.at_,.int .i64 y.offset,.int .i64 y.save,.string y.abbr] 304)) [.int .i64 x.at_,.int .i64 x.offset,.int .i64 x.save,.string x.abbr] 304
   case d2=>intro u hu;simp at hu;rcases hu with rfl|rfl|rfl|rfl<;>rfl
   case d3=>unfold maxLen;omega
   case d4=>omega
   case d5=>simp;omega
   intro g1 cap1 w1 hown1 hgrow hat hlt1
   have HO:Hid (Zn w1 base (.slice (some ⟨g1,0,none⟩) (n+1+1) cap1) (T++[x])):=Zn.add (by rw[HN.out];exact hown1)
   have hF:Fr (fun b_1=>(Value.slice (some ⟨b,o,none⟩) (n+1) cap).ownBlock=some b_1) w w1:=(((Fr.of_below hB0).trans (Fr.of_below (qal _ _))).trans (Fr.of_below (qal _ _))).trans (Fr.of_grown hgrow)
   have hloc:(Value.slice (some ⟨g1,0,none⟩) (n+1+1) cap1).ownBlock=(Value.slice (some ⟨b,o,none⟩) (n+1) cap).ownBlock\/∃g,(Value.slice (some ⟨g1,0,none⟩) (n+1+1) cap1).ownBlock=some g/\w.heap.size<=g:=hat.imp (fun h=>h.symm) fun h=>⟨g1,rfl,by rw[h];first|omega|(simp;omega)⟩
   clear hown1 hgrow hat hlt1
   go_wp2
   go_ret
   exact⟨_,rfl,by rw[HR.out];exact HO.out,hF,hloc⟩
  ·have HR:Hid (addT T x=T):=jgh hL hl
   rw[hl]at hcmp
   have HT:Hid (Zn ((w.alloc (.cells #[.int .i64 x.at_,.int .i64 x.offset,.int .i64 x.save,.string x.abbr] 304)).alloc (.cells #[.int .i64 x.at_,.int .i64 y.offset,.int .i64 y.save,.string y.abbr] 304)) base (.slice (some ⟨b,o,none⟩) (n+1) cap) T):=World.ownsRow.alloc (World.ownsRow.alloc hT _) _
   have hF:Fr (fun b_1=>(Value.slice (some ⟨b,o,none⟩) (n+1) cap).ownBlock=some b_1) w ((w.alloc (.cells #[.int .i64 x.at_,.int .i64 x.offset,.int .i64 x.save,.string x.abbr] 304)).alloc (.cells #[.int .i64 x.at_,.int .i64 y.offset,.int .i64 y.save,.string y.abbr] 304)):=(Fr.of_below hB0).trans (Fr.of_below (qal _ _))
   clear hl hL e1 hS hy hT
   generalize addT T x=R at *
   unfold TurnD.v
   go_enter Tryz.func256,Tryz.ntmps256
   go_wp2
   go_ret
   exact⟨_,rfl,by rw[HR.out];exact HT.out,hF,.inl rfl⟩
end
section
open Go.RowKit
theorem j1q:(Tryz.prog.info? 2).map (fun i=>(i.zero,i.size,i.bytes))=some (some (.int .i64 0),1,8):=by kernel_rfl
def Jm(w:World)(base:Nat)(v:Value)(L:List Int):Prop:=w.ownsRow base 2 1 v L.length (L.map (Value.int .i64))
theorem Jm.open{w:World}{base:Nat}{v:Value}{L:List Int}(h:Jm w base v L)(hn:0<L.length):∃g cap,v=.slice (some ⟨g,0,none⟩) L.length cap/\L.length<=cap/\g<w.heap.size/\base<=g/\∀(i:Nat) x,L[i]? =some x->w.cell? ⟨g,i,none⟩=some (.int .i64 x):=by
 rcases h.2 with⟨_,h0⟩|⟨g,cap,cur,hv,hb,hg,hc,_,_,_⟩
 ·omega
 ·refine⟨g,cap,hv,hc,(Array.getElem?_eq_some_iff.1 hg).1,hb,fun i x hx=>?_⟩
  have h2:w.ownsRow base 2 1 (.slice (some ⟨g,0,none⟩) L.length cap) L.length (L.map (Value.int .i64)):=hv ▸ h
  rw[h2.cellAt i (by have:=(List.getElem?_eq_some_iff.mp hx).1;omega),List.getElem?_map,hx];rfl
end
section
open Go.RowKit Go.Sort
theorem j1s{H:List HapD}{b e:Int}{k:Nat}{x:HapD}(hx:H[k]? =some x):inX (H.take (k+1)) b e=inX (H.take k) b e++(if b<x.at_/\x.at_<e then [x.at_]else []):=by
 unfold inX
 rw[List.take_add_one,hx,List.map_append,List.filter_append]
 congr 1
 by_cases h:b<x.at_/\x.at_<e
 ·rw[if_pos h];simp[h.1,h.2]
 ·rw[if_neg h];simp;intro h1;exact Int.not_lt.mp fun h2=>h ⟨h1,h2⟩
theorem jfe(H:List HapD)(b e:Int):(inX H b e).length<=H.length:=by
 unfold inX
 have:=List.length_filter_le (fun t=>decide (b<t)&&decide (t<e)) (H.map HapD.at_)
 rw[List.length_map]at this
 exact this
theorem jnv(l:List Int):(l.mergeSort fun x y=>decide (x<=y)).Pairwise (· <= ·):=by
 have:=List.pairwise_mergeSort (le:=fun(x y:Int)=>decide (x<=y)) (fun a b c h1 h2=>by
  have:=of_decide_eq_true h1
  have:=of_decide_eq_true h2
  exact decide_eq_true (by omega)) (fun a b=>by
  by_cases h:a<=b
  ·simp[h]
  ·simp[show b<=a by omega]) l
 exact this.imp fun h=>of_decide_eq_true h
theorem je5(H:List HapD)(a:Option Addr)(ca:Nat)(b e:Int)(w:World)(hA:Zd w a 3 (H.map HapD.cs))(hl:H.length<=2000):
  Calls Tryz.prog 255 #[.slice a H.length ca,.int .i64 b,.int .i64 e] w fun r W'=>∃v L,r=.returned v/\Jm W' w.heap.size v L/\L.Pairwise (· <= ·)/\L.Perm (b::inX H b e)/\Below w.heap.size w W':=by
 obtain⟨i0,hi,hz0,hz1,hz2⟩:=info_parts j1q
 have hB0:=qal w (.cells #[.int .i64 b] 2)
 have hO0:Jm (w.alloc (.cells #[.int .i64 b] 2)) w.heap.size (.slice (some ⟨w.heap.size,0,none⟩) 1 1) (b::inX (H.take 0) b e):=⟨by simp[inX],.inr ⟨w.heap.size,1,#[.int .i64 b],by simp[inX],Nat.le_refl _,heap_alloc_new w _,by simp[inX],by unfold maxLen;omega,by simp,by simp[inX]⟩⟩
 go_enter Tryz.func255,Tryz.ntmps255
 go_wp2
 go_loopw [7,14] (fun s7 s14 wr=>∃(k:Nat) (p:Option Addr) (m c:Nat),k<=H.length/\s14=.int .i64 k/\s7=.slice p m c/\Jm wr w.heap.size (.slice p m c) (b::inX (H.take k) b e)/\Below w.heap.size w wr) (fun _ s14 _=>H.length-(intOf s14).toNat)
 case atStart=>exact⟨0,_,_,_,by omega,rfl,rfl,hO0,hB0⟩
 case round=>
  clear hO0 hB0
  obtain⟨k,p,m,c,hk,rfl,rfl,hO,hB⟩:=hrel
  have hsW:=hB.size
  by_cases hlt:k<H.length
  ·obtain⟨x,hx⟩:=qgg hlt
   obtain⟨b9,o9,rfl,hc⟩:=(hA.below hB).at (i:=k) (r:=x.cs) (by rw[List.getElem?_map,hx];rfl)
   have c0:wr.cell? ⟨b9,o9+k*3,none⟩=some (.int .i64 x.at_):=hc 0 _ rfl
   have c1:=hc 1 _ rfl
   have c2:=hc 2 _ rfl
   have hkl:(k:Int)<(H.length:Int):=by omega
   have HX:=j1s (b:=b) (e:=e) hx
   have hXl:=jfe (H.take k) b e
   have htk:(H.take k).length<=2000:=by rw[List.length_take];omega
   have hB2:=hB.alloc hsW (.cells #[.int .i64 x.at_,.int .i64 x.save,.string x.letter] 358)
   have hO2:Jm (wr.alloc (.cells #[.int .i64 x.at_,.int .i64 x.save,.string x.letter] 358)) w.heap.size (.slice p m c) (b::inX (H.take k) b e):=World.ownsRow.alloc hO _
   obtain⟨X,hXX⟩:∃X,inX (H.take k) b e=X:=⟨_,rfl⟩
   rw[hXX]at hO hO2 HX hXl
   clear hc hx hXX
   by_cases hin:b<x.at_/\x.at_<e
   ·rw[if_pos hin]at HX
    have HXh:=hid HX
    obtain⟨g1,g2⟩:=hin
    clear HX
    go_wp2_with (first
     |(at_builtin;refine wpList_append_own _ rfl _ _ 260 rfl w.heap.size 2 i0 (.int .i64 0) 1 8 Tryz.underlying260 hi hz0 hz1 hz2 rfl (by decide) _ _ _ rfl (World.ownsRow.alloc hO2 _) ⟨wr.heap.size+1,0,none⟩ 1 1 [.int .i64 x.at_] rfl rfl ?c1 ?c2 ?c3 ?c4 ?c5 ?_)
     |fail)
    case c1=>simpa using cell_one_new (wr.alloc _) (.int .i64 x.at_) _
    case c2=>intro u hu;simp at hu;subst hu;rfl
    case c3=>unfold maxLen;simp;omega
    case c4=>simp;omega
    case c5=>simp;omega
    ·intro v' w1 hown' hgrow _
     have hB3:Below w.heap.size w w1:=(hB2.alloc (by simp;omega) _).grown hgrow (by simp;omega) (fun j hj=>(World.ownsRow.lt hO j hj).1)
     have HO:Hid (Jm w1 w.heap.size v' (b::(X++[x.at_]))):=by simpa [Hid,Jm]using hown'
     obtain⟨p',m',c',rfl⟩:=jaq hown'
     clear hgrow hown' hO hO2
     go_wp2
     go_roundw
     case rel=>exact⟨k+1,p',m',c',by omega,by go_num,rfl,by rw[HXh.out];exact HO.out,hB3⟩
     case measure=>simp[intOf];omega
   ·rw[if_neg hin,List.append_nil]at HX
    have HO:Hid (Jm (wr.alloc (.cells #[.int .i64 x.at_,.int .i64 x.save,.string x.letter] 358)) w.heap.size (.slice p m c) (b::inX (H.take (k+1)) b e)):=by rw[HX];exact hO2
    clear HX hO hO2
    by_cases g1:b<x.at_
    ·have g2:¬x.at_<e:=fun h=>hin ⟨g1,h⟩
     clear hin
     go_wp2
     go_roundw
     case rel=>exact⟨k+1,p,m,c,by omega,by go_num,rfl,HO.out,hB2⟩
     case measure=>simp[intOf];omega
    ·clear hin
     go_wp2
     go_roundw
     case rel=>exact⟨k+1,p,m,c,by omega,by go_num,rfl,HO.out,hB2⟩
     case measure=>simp[intOf];omega
  ·have hke:k=H.length:=by omega
   subst hke
   rw[List.take_length]at hO
   have hXl:=jfe H b e
   obtain⟨Z,hZ⟩:∃Z,b::inX H b e=Z:=⟨_,rfl⟩
   have hZl:Z.length<=2001:=by rw[<- hZ,List.length_cons];omega
   have hZ1:1<=Z.length:=by rw[<- hZ,List.length_cons];omega
   have HZ:=hid hZ
   rw[hZ]at hO
   clear hZ
   have hnn:Value.slice p m c≠ .slice none 0 0:=fun h=>by
    rcases hO.2 with⟨_,h0⟩|⟨g,cap,cur,h0,_⟩
    ·omega
    ·rw[h]at h0;cases h0
   obtain⟨g',cap',he,hbg,hglt,hncap,hcm,hzl,hH⟩:=Lib.holds_of_ownsRow hO hnn
   injection he with he1 he2 he3
   subst he1 he2 he3
   have hS:=Tryz.slices_Sort_int g' 0 c Z wr hH hglt (by omega)
   obtain⟨so,hso⟩:∃so,(Z.mergeSort fun x y=>decide (x<=y))=so:=⟨_,rfl⟩
   have HP1:Hid (so.Pairwise (· <= ·)):=hso ▸ jnv Z
   have HP2:Hid (so.Perm (b::inX H b e)):=by rw[HZ.out];exact hso ▸ List.mergeSort_perm Z _
   have hsl:so.length=Z.length:=by rw[<- hso];exact List.length_mergeSort Z
   rw[hso]at hS
   have hGr:∀q os,Below w.heap.size w (grow (putRow (Value.int .i64) (Sort.ahead wr q) g' 0 so.toArray) os)/\Jm (grow (putRow (Value.int .i64) (Sort.ahead wr q) g' 0 so.toArray) os) w.heap.size (.slice (some ⟨g',0,none⟩) Z.length c) so:=fun q os=>by
    have hb1:=Lib.below_putRow (enc:=Value.int .i64) (q:=q) (d:=so.toArray) hB hbg
    have ho1:=Lib.ownsRow_putRow (q:=q) (k:=Z.length) hO hsl (Nat.le_refl _)
    have hg1:Below (putRow (Value.int .i64) (Sort.ahead wr q) g' 0 so.toArray).heap.size (putRow (Value.int .i64) (Sort.ahead wr q) g' 0 so.toArray) (grow (putRow (Value.int .i64) (Sort.ahead wr q) g' 0 so.toArray) os):=⟨rfl,rfl,rfl,by simp,fun k hk=>Go.Sort.heap_grow_old _ _ hk⟩
    refine⟨(qtr hb1 hg1),?_⟩
    have ho2:=jad ho1 hg1
    unfold Jm
    rw[hsl]
    rw[show so.take Z.length=so by rw[<- hsl,List.take_length]]at ho2
    exact ho2
   have HG:=hid hGr
   clear hGr hsl hso hH hO hZl hnn hzl hXl
   go_wp2_with fail
   refine hS.mono ?_
   rintro r w2 ⟨rfl,q,os,rfl⟩
   obtain⟨hb2,ho2⟩:=HG.out q os
   generalize grow (putRow (Value.int .i64) (Sort.ahead wr q) g' 0 so.toArray) os=w3 at *
   go_wp2
   go_ret
   exact⟨_,so,rfl,ho2,HP1.out,HP2.out,hb2⟩
end
section
open Go.RowKit
theorem j31{x y z:Int}(h:vldB x y z=true)(hx:x<=2037):num x y z<=24836:=by
 have ⟨a,b,c,d,e,f⟩:=jvg h
 have h3:=Cal.cum_succ x y c d
 have h4:=Cal.cum_mono (y:=x) (a:=y+1) (b:=13) (by omega) (by omega) (by omega)
 have h5:=Cal.cum_13 x
 have h6:=Cal.dby_succ x a
 have h7:=Cal.dby_mono (a:=x+1) (b:=2038) (by omega) (by omega)
 have h8:Cal.dby 2038=743999:=by unfold Cal.dby;omega
 unfold num
 omega
theorem j8d{y m:Int}(h2:y<=2037)(t:ByteArray):nbV y m t<=24836:=by
 unfold nbV
 split
 ·rename_i h
  unfold nbB at h
  simp only[Bool.and_eq_true]at h
  exact j31 h.2.2 h2
 ·omega
theorem mo_up{y m:Int}{s:ByteArray}(hy:ymB y m=true)(h2:y<=2037):moV y m s<=24843:=by
 have nl:=j31 (jep hy) h2
 have nb:=j8d (m:=m) h2 (s.extract 5 s.size)
 have nb2:=j8d (m:=m) h2 s
 have w1:=je1 (s.extract 4 7)
 have w2:=je1 (s.extract 0 3)
 unfold moV
 split
 ·unfold jdh
  split<;>omega
 ·split
  ·unfold jf8
   split<;>omega
  ·split
   ·unfold jdh
    split<;>omega
   ·omega
theorem jvc{i:Nat}{x:RuleD}{y:Int}(hx:RuleR x){m:WallD}:∀{n:Nat},1960<=y->y+n<=2038->m∈wallsN i x y n->m.wall<=2200000000:=by
 intro n
 induction n with
 |zero=>intro _ _ h;simp[wallsN]at h
 |succ n ih=>
  intro h1 h2 h
  rw[wallsN,List.mem_append]at h
  rcases h with h|h
  ·exact ih h1 (by omega) h
  ·have hb:=mo_up (s:=x.on) (j4f (y:=y+n) (m:=x.month) (by omega) (by omega) hx.month.1 hx.month.2) (by omega)
   have ha:=hx.at_
   unfold jec at h
   split at h
   ·simp at h
   ·simp at h
    subst h
    show 86400*moV (y+n) x.month x.on+x.at_<=2200000000
    omega
theorem jva{nm:ByteArray}{l:List RuleD}(hl:∀x∈l,RuleR x){m:WallD}:∀{k:Nat},m∈jb1 nm l k->m.wall<=2200000000:=by
 intro k
 induction k with
 |zero=>intro h;simp[jb1]at h
 |succ k ih=>
  intro h
  rw[jb1,List.mem_append]at h
  rcases h with h|h
  ·exact ih h
  ·split at h
   ·rename_i x hx
    split at h
    ·unfold jd7 at h
     by_cases hy:yrs x=0
     ·rw[hy]at h;simp[wallsN]at h
     ·exact jvc (hl x (List.mem_of_getElem? hx)) (by omega) (by unfold yrs at *;omega) h
    ·simp at h
   ·simp at h
theorem jyj{l:List RuleD}{off:Int}(hl:∀x∈l,RuleR x):∀(P:List WallD) (st:List HapD × Int), -7200<=st.2/\st.2<=7200->∀h∈(P.foldl (jd0 l off) st).1,h∈st.1\/∃m∈P,∃x sv,x∈l/\ -7200<=sv/\sv<=7200/\h=jf7 x m.wall off sv:=by
 intro P
 induction P with
 |nil=>intro st _ h hh;exact .inl hh
 |cons m P ih=>
  intro st hs h hh
  rw[List.foldl_cons]at hh
  cases hx:l[m.place]? with
  |none=>
   have e:jd0 l off st m=st:=by unfold jd0;rw[hx]
   rw[e]at hh
   rcases ih st hs h hh with h1|⟨q,hq,h2⟩
   ·exact .inl h1
   ·exact .inr ⟨q,List.mem_cons_of_mem _ hq,h2⟩
  |some x=>
   have e:jd0 l off st m=(st.1++[jf7 x m.wall off st.2],x.save):=by unfold jd0;rw[hx]
   rw[e]at hh
   have hxl:=List.mem_of_getElem? hx
   rcases ih _ (hl x hxl).save h hh with h1|⟨q,hq,h2⟩
   ·rcases List.mem_append.mp h1 with h1|h1
    ·exact .inl h1
    ·simp at h1
     exact .inr ⟨m,by simp,x,st.2,hxl,hs.1,hs.2,h1⟩
   ·exact .inr ⟨q,List.mem_cons_of_mem _ hq,h2⟩
def srtF(l:List WallD):List WallD:=l.foldr (fun x s=>jc3 [x] s) []
theorem jh7:∀l:List WallD,SrtOf l (srtF l)
 |[]=>jm7 (by simp)
 |x::l=>jwc (l1:=[x]) (jm7 (by simp)) (jh7 l)
def ja9(r:RelD)(nm:ByteArray)(off:Int):List HapD × Bool:=if (jb1 nm r.rules r.rules.length).length<=2000 then((jcg r.rules off (srtF (jb1 nm r.rules r.rules.length))).1,true)else([],false)
theorem j6f(r:RelD)(nm:ByteArray)(off:Int):j9m r nm off (ja9 r nm off).1 (ja9 r nm off).2:=by
 unfold ja9
 split
 ·rename_i h
  exact⟨_,.inl ⟨h,rfl,jh7 _⟩,rfl⟩
 ·rename_i h
  exact⟨[],.inr ⟨h,rfl,rfl⟩,rfl⟩
theorem j16{r:RelD}{nm:ByteArray}{off:Int}{H:List HapD}{b:Bool}(h:jzp (jbo r.rules nm) off H b):H=(ja9 r nm off).1/\b=(ja9 r nm off).2:=jyc h (j6f r nm off)
structure HapB(h:HapD):Prop where
 at_:h.at_<=253402300799
 save: -7200<=h.save/\h.save<=7200
 letter:h.letter.size<=6
theorem jqk{r:RelD}{nm:ByteArray}{off:Int}(hr:∀x∈r.rules,jbm x=true)(h1: -86400<=off)(h2:off<=86400):∀h∈(ja9 r nm off).1,HapB h:=by
 have hR:∀x∈r.rules,RuleR x:=fun x hx=>j3x (hr x hx)
 intro h hh
 unfold ja9 at hh
 split at hh
 ·rcases jyj hR _ _ (by simp) h hh with h0|⟨m,hm,x,sv,hx,s1,s2,rfl⟩
  ·simp at h0
  ·have hw:=jva hR (j49 (jh7 _) hm)
   have hL:x.letter.size<=6:=by
    have:=hr x hx
    unfold jbm ltB at this
    simp only[Bool.and_eq_true,decide_eq_true_eq]at this
    exact this.2.2.2.2.2.2.2.2.1
   refine⟨?_,(hR x hx).save,hL⟩
   cases hs:(x.of.toList==[115])
   ·cases hv:(x.of.toList==[119])
    ·rw[j8y hs hv];show m.wall<=253402300799;omega
    ·rw[j8x hs hv];show m.wall-off-sv<=253402300799;omega
   ·rw[j8z hs];show m.wall-off<=253402300799;omega
 ·simp at hh
theorem jf6{r:RelD}{nm:ByteArray}{off:Int}:(ja9 r nm off).1.length<=2000:=by
 unfold ja9
 split
 ·rename_i h
  have hF:=jh7 (jb1 nm r.rules r.rules.length)
  have:∀(P:List WallD) (st:List HapD × Int),(P.foldl (jd0 r.rules off) st).1.length<=st.1.length+P.length:=by
   intro P
   induction P with
   |nil=>intro st;simp
   | cons m P ih=>
    intro st
    rw[List.foldl_cons]
    have h1:=ih (jd0 r.rules off st m)
    have h2:(jd0 r.rules off st m).1.length<=st.1.length+1:=by
     unfold jd0
     split
     ·simp
     ·omega
    simp only[List.length_cons]
    omega
  have h3:=this (srtF (jb1 nm r.rules r.rules.length)) ([],0)
  rw[hF.len]at h3
  simp at h3
  unfold jcg
  exact Nat.le_trans h3 h
 ·simp
end
end Go.Proofs.YtofdpfpdocpbpaaGreatDoor
