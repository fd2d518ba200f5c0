/- Packed. -/
import Derived.Test.YtofdpfpdocpbpaaGreatDoorBasePd
import Derived.Lib.SplitLaws
import Derived.Lib.LastIndexByte
import Derived.Lib.Strings
import Derived.OwnWalk
import Derived.Laws.OwnMore
import Derived.Test.YtofdpfpdocpbpaaGreatDoorKAd
import Derived.Test.YtofdpfpdocpbpaaGreatDoorShelfK
import Derived.Shelf.Strings.PiecesUse
import Derived.Deep.RegionHeld3
import Derived.BigRegion
set_option maxRecDepth 100000
set_option maxHeartbeats 20000000
set_option linter.unusedSimpArgs false
namespace Go.Proofs.YtofdpfpdocpbpaaGreatDoor
section
open Go.RowKit
def lfs(s:ByteArray):Nat->List ByteArray × Nat
 |0=>([],0)
 |k+1=>if jac s k=10 then((lfs s k).1++[s.extract (lfs s k).2 k],k+1)else lfs s k
def lns(s:ByteArray):List ByteArray:=(lfs s s.size).1++[s.extract (lfs s s.size).2 s.size]
theorem je2(s:ByteArray)(k:Nat):(lfs s k).1.length<=k/\(lfs s k).2<=k:=by
 induction k with
 |zero=>simp[lfs]
 |succ k ih=>
  simp only[lfs]
  split
  ·simp;omega
  ·omega
theorem jdi{s:ByteArray}{k:Nat}(h:jac s k=10):lfs s (k+1)=((lfs s k).1++[s.extract (lfs s k).2 k],k+1):=by simp only[lfs];rw[if_pos h]
theorem jdd{s:ByteArray}{k:Nat}(h:jac s k≠10):lfs s (k+1)=lfs s k:=by simp only[lfs];rw[if_neg h]
theorem j5x(s:ByteArray)(k:Nat):(lfs s k).2=k↔k=0\/jac s (k-1)=10:=by
 cases k with
 |zero=>simp[lfs]
 |succ k=>
  have:=je2 s k
  by_cases h:jac s k=10
  ·rw[jdi h];simp[h]
  ·rw[jdd h];simp[h];omega
theorem jr6(s:ByteArray)(k:Nat):∀j,(lfs s k).2<=j->j<k->jac s j≠10:=by
 induction k with
 |zero=>omega
 | succ k ih=>
  intro j h1 h2
  by_cases h:jac s k=10
  ·rw[jdi h]at h1;simp at h1;omega
  ·rw[jdd h]at h1
   by_cases e:j=k
   ·subst e;exact h
   ·exact ih j h1 (by omega)
def cutL:List UInt8->List (List UInt8)
 |[]=>[[]]
 |b::l=>if b=10 then []::cutL l else match cutL l with
  |[]=>[[b]]
  |h::t=>(b::h)::t
theorem jj2(b:UInt8)(l h:List UInt8)(t:List (List UInt8))(hb:b≠10)(e:cutL l=h::t):cutL (b::l)=(b::h)::t:=by
 rw[cutL,if_neg hb,e]
theorem jo3:∀l:List UInt8,(∀j:Nat,l[j]? ≠some 10)->cutL l=[l]
 |[],_=>rfl
 |b::l,h=>by
  have hb:b≠10:=fun e=>h 0 (by simp[e])
  exact jj2 b l l [] hb (jo3 l fun j=>by have:=h (j+1);simpa using this)
theorem jsp:∀(i:Nat) (l:List UInt8),(∀j,j<i->l[j]? ≠some 10)->l[i]? =some 10->cutL l=l.take i::cutL (l.drop (i+1))
 |_,[],_,h=>by simp at h
 |0,b::l,_,h=>by
  have hb:b=10:=by simpa using h
  rw[cutL,if_pos hb];simp
 |i+1,b::l,h,hi=>by
  have hb:b≠10:=fun e=>h 0 (by omega) (by simp[e])
  have ih:=jsp i l (fun j hj=>by have:=h (j+1) (by omega);simpa using this) (by simpa using hi)
  rw[jj2 b l _ _ hb ih];simp
theorem jgm:∀(l:List UInt8) (k:Nat),l.count 10<=k->Lib.splitK [10] 0 k l=cutL l
 |[],0,_=>rfl
 |[],k+1,_=>by simp[Lib.splitK,Lib.index,cutL]
 | b ::l,k,h=>by
  by_cases hb:b=10
  ·subst hb
   rw[List.count_cons_self]at h
   obtain⟨k,rfl⟩:∃m,k=m+1:=⟨k-1,by omega⟩
   have hix:Lib.index (10::l) [10]=0:=by rw[Lib.index];simp[List.isPrefixOf]
   rw[Lib.splitK,hix]
   simp only[cutL]
   simp[jgm l k (by omega)]
  ·rw[List.count_cons_of_ne (by simpa using hb)]at h
   have ih:=jgm l k h
   have hp:([10]:List UInt8).isPrefixOf (b::l)=false:=by simp[List.isPrefixOf,Ne.symm hb]
   have hix:Lib.index (b::l) [10]=if Lib.index l [10]== -1 then -1 else Lib.index l [10]+1:=by rw[Lib.index,hp];simp
   cases k with
   |zero=>exact(jj2 b l _ _ hb ih.symm).symm
   | succ k=>
    by_cases hm:Lib.index l [10]= -1
    ·rw[Lib.splitK,if_pos (by simp[hm])]at ih
     rw[Lib.splitK,if_pos (by rw[hix];simp[hm])]
     exact(jj2 b l _ _ hb ih.symm).symm
    ·have hge:=Lib.index_ge l [10]
     obtain⟨j,hj⟩:∃j:Nat,Lib.index l [10]=j:=⟨(Lib.index l [10]).toNat,by omega⟩
     have hm':¬(Lib.index l [10]== -1)=true:=fun e=>hm (beq_iff_eq.1 e)
     rw[Lib.splitK,if_neg hm',hj]at ih
     have hix':Lib.index (b::l) [10]=((j+1:Nat):Int):=by rw[hix,if_neg hm',hj];omega
     have hm2:¬(Lib.index (b::l) [10]== -1)=true:=fun e=>by have:=beq_iff_eq.1 e;omega
     rw[Lib.splitK,if_neg hm2,hix',jj2 b l _ _ hb ih.symm]
     simp
theorem jdx(s:ByteArray)(k:Nat):jac s k=10↔s.data.toList[k]? =some 10:=by
 unfold jac
 by_cases h:k<s.size
 ·rw[dif_pos h]
  have e:s.data.toList[k]? =some s[k]:=by
   rw[Array.getElem?_toList,Array.getElem?_eq_getElem (show k<s.data.size from h)];rfl
  rw[e]
  constructor
  ·intro h2;congr 1;apply UInt8.toNat_inj.1;have:s[k].toNat=10:=by omega
   rw[this];rfl
  ·intro h2;have:=Option.some.inj h2;rw[this];rfl
 ·rw[dif_neg h]
  have e:s.data.toList[k]? =none:=by rw[Array.getElem?_toList];exact Array.getElem?_eq_none (Nat.le_of_not_lt h)
  rw[e];simp
theorem jxo(s:ByteArray):∀k,k<=s.size->cutL s.data.toList=(lfs s k).1.map (·.data.toList)++cutL (s.data.toList.drop (lfs s k).2)
 |0,_=>by simp[lfs]
 |k+1,hk=>by
  have ih:=jxo s k (by omega)
  have hn:=jr6 s k
  have hb:=(je2 s k).2
  by_cases h:jac s k=10
  ·have hh:=jsp (k-(lfs s k).2) (s.data.toList.drop (lfs s k).2) (fun j hj=>by
    rw[List.getElem?_drop];intro e;exact hn _ (by omega) (by omega) ((jdx s _).2 e)) (by
    rw[List.getElem?_drop,show(lfs s k).2+(k-(lfs s k).2)=k by omega];exact(jdx s k).1 h)
   rw[jdi h,ih,hh]
   simp only[List.map_append,List.map_cons,List.map_nil,List.append_assoc,List.singleton_append]
   congr 2
   ·rw[Lib.extract_data]
   ·rw[List.drop_drop,show(lfs s k).2+(k-(lfs s k).2+1)=k+1 by omega]
  ·rw[jdd h];exact ih
theorem j5u(s:ByteArray):cutL s.data.toList=(lns s).map (·.data.toList):=by
 have hn:=jr6 s s.size
 have h:=jo3 (s.data.toList.drop (lfs s s.size).2) (fun j e=>by
  rw[List.getElem?_drop]at e
  have hlt:(lfs s s.size).2+j<s.size:=by
   have:=(List.getElem?_eq_some_iff.1 e).1;rw[<- Lib.size_eq]at this;exact this
  exact hn _ (by omega) hlt ((jdx s _).2 e))
 rw[jxo s s.size (Nat.le_refl _),h]
 unfold lns
 simp only[List.map_append,List.map_cons,List.map_nil]
 congr 2
 rw[Lib.extract_to_end]
theorem jcp{a b:ByteArray}(h:a.data.toList=b.data.toList):a=b:=by
 obtain⟨⟨a⟩⟩:=a;obtain⟨⟨b⟩⟩:=b;simp at h;rw[h]
theorem jxd:∀{a b:List ByteArray},a.map (·.data.toList)=b.map (·.data.toList)->a=b
 |[],[],_=>rfl
 |[],_::_,h=>by simp at h
 |_::_,[],h=>by simp at h
 |x::a,y::b,h=>by
  simp only[List.map_cons,List.cons.injEq]at h
  rw[jcp h.1,jxd h.2]
theorem jil(s:ByteArray):Lib.splitB ⟨#[10]⟩ 0 (Lib.countB s ⟨#[10]⟩) s=lns s:=by
 apply jxd
 rw[Lib.splitB_data, <- j5u]
 exact jgm _ _ (by unfold Lib.countB;exact Nat.le_of_eq (Lib.count_one 10 _).symm)
theorem jlc(s:ByteArray):Lib.countB s ⟨#[10]⟩=(lfs s s.size).1.length:=by
 have h:=Lib.splitB_all ⟨#[10]⟩ (by decide) 0 _ s rfl
 rw[jil]at h
 simp[lns]at h
 omega
def jas(t:ByteArray):Bool:=decide (t.size<=2000/\∀k,k<t.size->32<=jac t k/\jac t k<=126)
theorem jr4{t:ByteArray}{k:Nat}(hk:k<t.size)(h:jac t k<32\/126<jac t k):jas t=false:=decide_eq_false fun hn=>by have:=hn.2 k hk;omega
theorem jxm{t:ByteArray}(h:∀k,k<t.size->32<=jac t k/\jac t k<=126):jas t=decide (t.size<=2000):=by
 unfold jas
 by_cases g:t.size<=2000
 ·rw[decide_eq_true g,decide_eq_true ⟨g,h⟩]
 ·rw[decide_eq_false g,decide_eq_false fun hn=>g hn.1]
def inJ(s:ByteArray)(y:Int):Bool:=decide (s.size<=8000/\0<=y/\y<=s.size)
def jB(s:ByteArray)(y:Int):Bool:=inJ s y&&(decide ((lfs s s.size).2=s.size)&&(lfs s s.size).1.all jas)
theorem j54{s:ByteArray}{y:Int}(h:jB s y=true):s.size<=8000/\0<=y/\y<=s.size:=by
 unfold jB at h;rw[Bool.and_eq_true]at h;exact of_decide_eq_true h.1
theorem jk2(s:ByteArray)(h:1<=s.size):Lib.hasSuffix s.data.toList [10]=decide ((lfs s s.size).2=s.size):=by
 rw[Bool.eq_iff_iff,decide_eq_true_iff,j5x]
 unfold Lib.hasSuffix
 rw[List.isSuffixOf_iff_suffix]
 have hl:s.data.toList.length=s.size:=(Lib.size_eq s).symm
 constructor
 ·rintro⟨t,ht⟩
  right
  rw[jdx, <- ht]
  have:s.size-1=t.length:=by rw[<- hl, <- ht];simp
  rw[this];simp
 ·rintro(h0|h1)
  ·omega
  ·rw[jdx]at h1
   refine⟨s.data.toList.take (s.size-1),?_⟩
   have e:=List.take_append_drop (s.size-1) s.data.toList
   have hd:s.data.toList.drop (s.size-1)=[10]:=by
    rw[List.drop_eq_getElem?_toList_append,h1]
    simp[hl];omega
   rw[hd]at e;exact e
theorem jr9(s:ByteArray)(n:Nat)(hn:n<=s.size):∀k,k<=n->Lib.lastIdx (s.extract 0 n) 10 k+1=(lfs s k).2
 |0,_=>rfl
 | k+1,hk=>by
  have ih:=jr9 s n hn k (by omega)
  have hk':k<(s.extract 0 n).size:=by rw[ByteArray.size_extract];omega
  have e:(((s.extract 0 n).data[k]!).toNat:Int)=jac s k:=by
   rw[<- jaf s k (by omega),getElem!_pos _ k (by exact hk')]
   have:=ByteArray.getElem_extract (b:=s) (start:=0) (stop:=n) (i:=k) hk'
   simp only[Nat.zero_add]at this
   congr 2
  by_cases h:jac s k=10
  ·rw[Lib.lastIdx_hit _ _ _ (e.trans h),jdi h];rfl
  ·rw[Lib.lastIdx_miss _ _ _ (by rw[e];exact h),jdd h];exact ih
theorem j5z(s:ByteArray)(n:Nat)(hn:n<=s.size):Lib.lastIndexByte (s.extract 0 n) 10+1=(lfs s n).2:=by
 unfold Lib.lastIndexByte
 rw[show(s.extract 0 n).size=n by rw[ByteArray.size_extract];omega]
 exact jr9 s n hn n (Nat.le_refl _)
end
section
open Go.RowKit
theorem jnx:∃i:TypeInfo,Tryz.prog.info? 9=some i/\i.zero=some (.string ⟨#[]⟩)/\i.size=1/\i.bytes=16:=⟨_,rfl,rfl,rfl,rfl⟩
theorem jrp{w:World}{base:Nat}{e:TypeId}{size:Nat}{v:Value}{n:Nat}{xs:List Value}(h:w.ownsRow base e size v n xs):∀k,v.ownBlock=some k->base<=k:=by
 intro k hk
 rcases h.2 with⟨rfl,_⟩|⟨g,cap,cur,rfl,hg,_⟩
 ·cases hk
 ·simp[Value.ownBlock]at hk;omega
end
section
open Go.RowKit
theorem jdj(s:ByteArray)(w:World)(hs:s.size<=8000):
  Calls Tryz.prog 19 #[.string s] w fun e w'=>e=.returned (.bool (jas s))/\w'=w:=by
 go_enter Tryz.func19,Tryz.ntmps19
 go_wp2
 go_loop [3] (fun i=>∃k:Nat,k<=s.size/\i=.int .i64 k/\Hid (∀j,j<k->32<=jac s j/\jac s j<=126)) (fun i=>s.size-(intOf i).toNat)
 case atStart=>exact⟨0,by omega,rfl,fun j h=>by omega⟩
 case round=>
  obtain⟨k,hk,rfl,H⟩:=hrel
  by_cases hlt:k<s.size
  ·have e:=jaf s k hlt
   by_cases h1:jac s k<32
   ·have HL:Hid (jas s=false):=jr4 hlt (.inl h1)
    rw[<- e]at h1
    have h1':((s[k].toNat:Int)<32):=h1
    clear e h1
    go_wp2
    go_ret
    exact⟨by rw[HL.out];rfl,rfl⟩
   ·by_cases h2:126<jac s k
    ·have HL:Hid (jas s=false):=jr4 hlt (.inr h2)
     rw[<- e]at h1 h2
     clear e
     go_wp2
     go_ret
     exact⟨by rw[HL.out];rfl,rfl⟩
    ·have HN:Hid (∀j,j<k+1->32<=jac s j/\jac s j<=126):=fun j hj=>by
      rcases Nat.lt_succ_iff_lt_or_eq.1 hj with h|rfl
      ·exact H.out j h
      ·omega
     rw[<- e]at h1 h2
     clear e
     go_wp2
     go_round
     case rel=>exact⟨k+1,by omega,by go_num,HN⟩
     case measure=>simp[intOf];omega
  ·have e:k=s.size:=by omega
   subst e
   have HL:Hid (jas s=decide (s.size<=2000)):=jxm H.out
   by_cases g:s.size<=2000
   ·rw[decide_eq_true g]at HL
    go_wp2
    go_ret
    exact⟨by rw[HL.out];simp<;>omega,rfl⟩
   ·rw[decide_eq_false g]at HL
    go_wp2
    go_ret
    exact⟨by rw[HL.out];simp<;>omega,rfl⟩
end
section
open Go.RowKit
theorem j8q(s:ByteArray):∀x∈lns s,x.size<=s.size:=by
 have h:∀k,∀x∈(lfs s k).1,x.size<=s.size:=by
  intro k
  induction k with
  |zero=>simp[lfs]
  | succ k ih=>
   by_cases hc:jac s k=10
   ·rw[jdi hc]
    intro x hx
    simp only[List.mem_append,List.mem_singleton]at hx
    rcases hx with hx|rfl
    ·exact ih x hx
    ·rw[ByteArray.size_extract];omega
   ·rw[jdd hc];exact ih
 intro x hx
 unfold lns at hx
 simp only[List.mem_append,List.mem_singleton]at hx
 rcases hx with hx|rfl
 ·exact h _ x hx
 ·rw[ByteArray.size_extract];omega
theorem j34{s:ByteArray}{y:Int}(h:inJ s y=false):jB s y=false:=by unfold jB;rw[h];rfl
theorem jib(x:ByteArray):x.toList.isEmpty=decide (x.size=0):=by
 rw[Bool.eq_iff_iff,decide_eq_true_iff]
 haveI:=Classical.propDecidable (x=ByteArray.empty)
 rw[<- decide_eq_emptyBytes x,decide_eq_true_iff]
 constructor
 ·rintro rfl;rfl
 ·intro h
  have h2:x.data.toList.length=0:=by rw[<- Lib.size_eq];exact h
  exact jcp (by rw[List.eq_nil_of_length_eq_zero h2];rfl)
end
section
open Go.RowKit
def FormD:=Sum ByteArray (Sum Nat Nat)
abbrev FormD.the(t:ByteArray):FormD:=Sum.inl t
abbrev FormD.any(j:Nat):FormD:=Sum.inr (Sum.inl j)
abbrev FormD.num(j:Nat):FormD:=Sum.inr (Sum.inr j)
theorem FormD.cas{P:FormD->Prop}(the:∀t,P (FormD.the t))(any:∀j,P (FormD.any j))(num:∀j,P (FormD.num j)):∀f,P f
 |Sum.inl t=>the t
 |Sum.inr (Sum.inl j)=>any j
 |Sum.inr (Sum.inr j)=>num j
def FormD.ok:FormD->ByteArray->Bool
 |Sum.inl t,s=>s.toList==t.toList
 |Sum.inr (Sum.inl _),_=>true
 |Sum.inr (Sum.inr _),s=>decide (s.size<=9)&&nrB s
def FormD.ef:FormD->ByteArray->List Value->List Value
 |Sum.inl _,_,l=>l
 |Sum.inr (Sum.inl j),s,l=>l.set j (.string s)
 |Sum.inr (Sum.inr j),s,l=>if s.size<=9 then l.set j (.int .i64 (drN s))else l
def FormD.fn(p:Nat):FormD->Value
 |Sum.inl _=>.func (.func 26) #[] #[.pointer (some ⟨p,0,none⟩)]
 |Sum.inr (Sum.inl _)=>.func (.func 340) #[] #[.pointer (some ⟨p,0,none⟩)]
 |Sum.inr (Sum.inr _)=>.func (.func 28) #[] #[.pointer (some ⟨p,0,none⟩)]
def FormD.box(b:Nat):FormD->List Value × TypeId
 |Sum.inl t=>([.string t],9)
 |Sum.inr (Sum.inl j)=>([.pointer (some ⟨b,j,none⟩)],426)
 |Sum.inr (Sum.inr j)=>([.pointer (some ⟨b,j,none⟩)],47)
def FormD.inN(n:Nat):FormD->Prop
 |Sum.inl _=>True
 |Sum.inr (Sum.inl j)=>j<n
 |Sum.inr (Sum.inr j)=>j<n
theorem FormD.ef_len(f:FormD)(s:ByteArray)(l:List Value):(f.ef s l).length=l.length:=by
 cases f using FormD.cas with
 |the t=>rfl
 |any j=>simp[FormD.ef]
 |num j=>by_cases h:s.size<=9<;>simp[FormD.ef,h]
def runF:List FormD->List ByteArray->List Value->List Value
 |f::fs,s::ws,l=>runF fs ws (f.ef s l)
 |_,_,l=>l
theorem jfq:∀(fs:List FormD) (ws:List ByteArray) (l:List Value),(runF fs ws l).length=l.length
 |[],_,_=>rfl
 |_::_,[],_=>rfl
 |f::fs,s::ws,l=>by rw[runF,jfq fs ws,f.ef_len]
theorem jna:∀(k:Nat) (fs:List FormD) (ws:List ByteArray) (l:List Value) (f:FormD) (s:ByteArray),fs[k]? =some f->ws[k]? =some s->runF (fs.take (k+1)) (ws.take (k+1)) l=f.ef s (runF (fs.take k) (ws.take k) l)
 |_,[],_,_,_,_,h,_=>by simp at h
 |_,_::_,[],_,_,_,_,h=>by simp at h
 |0,g::fs,t::ws,l,f,s,h1,h2=>by
  obtain rfl:=Option.some.inj h1
  obtain rfl:=Option.some.inj h2
  simp[runF]
 |k+1,g::fs,t::ws,l,f,s,h1,h2=>by
  simp only[List.take_succ_cons,runF]
  exact jna k fs ws _ f s h1 h2
def okKf(fs:List FormD)(ws:List ByteArray)(k:Nat):Bool:=match fs[k]?,ws[k]? with
 |some f,some s=>f.ok s
 |_,_=>true
theorem j5k{fs:List FormD}{ws:List ByteArray}{k:Nat}{f:FormD}{s:ByteArray}(h1:fs[k]? =some f)(h2:ws[k]? =some s):okKf fs ws k=f.ok s:=by unfold okKf;rw[h1,h2]
def okF:List FormD->List ByteArray->Bool
 |[],[]=>true
 |f::fs,s::ws=>f.ok s&&okF fs ws
 |_,_=>false
theorem jw0:∀(fs:List FormD) (ws:List ByteArray),ws.length≠fs.length->okF fs ws=false
 |[],[],h=>absurd rfl h
 |[],_::_,_=>rfl
 |_::_,[],_=>rfl
 |f::fs,s::ws,h=>by rw[okF,jw0 fs ws (by simpa using h),Bool.and_false]
theorem j3z:∀(fs:List FormD) (ws:List ByteArray) (k:Nat),k<fs.length->okKf fs ws k=false->okF fs ws=false
 |[],_,_,h,_=>by simp at h
 |f::fs,[],_,_,_=>rfl
 |f::fs,s::ws,0,_,h=>by
  have h:f.ok s=false:=h
  rw[okF,h,Bool.false_and]
 |f::fs,s::ws,k+1,hk,h=>by
  have h:okKf fs ws k=false:=h
  rw[okF,j3z fs ws k (by simpa using hk) h,Bool.and_false]
theorem jwz:∀(fs:List FormD) (ws:List ByteArray),ws.length=fs.length->(∀k,k<fs.length->okKf fs ws k=true)->okF fs ws=true
 |[],[],_,_=>rfl
 |[],_::_,h,_=>by simp at h
 |_::_,[],h,_=>by simp at h
 |f::fs,s::ws,h,hk=>by
  have h0:f.ok s=true:=hk 0 (by simp)
  rw[okF,h0,jwz fs ws (by simpa using h) (fun k hk'=>hk (k+1) (by simpa using hk')),Bool.and_self]
def fnsF(p:Nat):List FormD->List Value
 |[]=>[]
 |f::fs=>f.fn p::fnsF (p+1) fs
theorem jml(p:Nat)(fs:List FormD):(fnsF p fs).length=fs.length:=by
 induction fs generalizing p with
 |nil=>rfl
 |cons f fs ih=>simp[fnsF,ih]
theorem jyl:∀(k p:Nat) (fs:List FormD) (v:Value),(fnsF p fs)[k]? =some v->∃f,fs[k]? =some f/\v=f.fn (p+k)
 |_,_,[],_,h=>by simp[fnsF]at h
 |0,p,f::fs,v,h=>⟨f,rfl,(Option.some.inj h).symm⟩
 |k+1,p,f::fs,v,h=>by
  obtain⟨g,h1,h2⟩:=jyl k (p+1) fs v h
  exact⟨g,h1,by rw[h2,show p+1+k=p+(k+1) by omega]⟩
def asF(b p:Nat)(fs:List FormD):List (List Value × TypeId):=fs.map (FormD.box b)++[(fnsF p fs,43)]
theorem j9e{b p k:Nat}{fs:List FormD}{f:FormD}(h:fs[k]? =some f):(asF b p fs)[k]? =some (f.box b):=by
 unfold asF
 rw[List.getElem?_append_left (by simpa using (List.getElem?_eq_some_iff.mp h).1),List.getElem?_map,h]
 rfl
theorem j65(b p:Nat)(fs:List FormD):(asF b p fs)[fs.length]? =some (fnsF p fs,43):=by
 unfold asF
 rw[List.getElem?_append_right (by simp)]
 simp
theorem jsy(b p:Nat)(fs:List FormD)(w:World):(jak w (asF b p fs)).heap.size=w.heap.size+fs.length+1:=by
 rw[jc9]
 simp[asF]
 omega
theorem jjb(s:ByteArray)(p b j:Nat)(l:List Value)(u:Value)(w:World)(hp:jcz w p b j)(hV:Zc w b l)(hu:l[j]? =some u)(h1:1<=s.size):
  Calls Tryz.prog 28 #[.string s,.pointer (some ⟨p,0,none⟩)] w (Ju w b ((FormD.num j).ef s l) ((FormD.num j).ok s)):=by
 show Calls Tryz.prog 28 #[.string s,.pointer (some ⟨p,0,none⟩)] w (Ju w b (if s.size<=9 then l.set j (.int .i64 (drN s))else l) (decide (s.size<=9)&&nrB s))
 by_cases h9:s.size<=9
 ·rw[if_pos h9,decide_eq_true h9,Bool.true_and]
  exact jhq s p b j l u w hp hV hu h9 h1
 ·rw[if_neg h9,decide_eq_false h9,Bool.false_and]
  have HW:=hidQ (jrb (ok:=false) hV)
  clear hV hu hp
  go_enter Tryz.func28,Tryz.ntmps28
  go_wp2
  go_ret
  exact HW.out
theorem j6l(fs:List FormD)(ws:List ByteArray)(l0:List Value)(b:Nat)(w W:World)(wp:Option Addr)(hlt:b<w.heap.size)(hj:∀f∈fs,f.inN l0.length)(hne:∀s∈ws,1<=s.size)(hW:Below (jak w (asF b w.heap.size fs)).heap.size (jak w (asF b w.heap.size fs)) W)(hw:WAt W wp ws)(hwp:∀c o,wp=some ⟨c,o,none⟩->w.heap.size<=c):
  MatK (fnsF w.heap.size fs) ws (okKf fs ws) (fun k W'=>W.grownBy W' (some b)/\Zc W' b (runF (fs.take k) (ws.take k) l0)) (some ⟨w.heap.size+fs.length,0,none⟩) wp:=by
 have hB:=jax (asF b w.heap.size fs) w
 have hsz:=jsy b w.heap.size fs w
 refine⟨fun k fv s h1 h2=>?_,fun k W' hI=>(VAt.below (jex (asF b w.heap.size fs) w fs.length (j65 b w.heap.size fs)) hW).grown hI.1 (fun c o h=>by injection h with h;injection h with h;omega),fun k W' hI=>VAt.grown hw hI.1 (fun c o h=>by have:=hwp c o h;omega)⟩
 obtain⟨f,hf,rfl⟩:=jyl k w.heap.size fs fv h1
 have hfm:=List.mem_of_getElem? hf
 have hsm:=hne s (List.mem_of_getElem? h2)
 have hA:=j9e (b:=b) (p:=w.heap.size) hf
 have hstep:=jna k fs ws l0 f s hf h2
 have hfl:=(List.getElem?_eq_some_iff.mp hf).1
 rw[j5k hf h2]
 have hbx:∀W',W.grownBy W' (some b)->∀v,(f.box b).1=[v]->W'.cell? ⟨w.heap.size+k,0,none⟩=some v:=fun W' hg v hv=>by
  have h0:=jao (asF b w.heap.size fs) w k (v:=v) (t:=(f.box b).2) (by rw[hA, <- hv])
  exact hg.cell (jab hW h0) (by simp;omega)
 cases f using FormD.cas with
 |the t=>
  refine⟨_,_,rfl,fun _ _=>by kernel_rfl,fun W' hI=>?_⟩
  refine(jcw s t _ W' (hbx W' hI.1 _ rfl)).mono ?_
  rintro q w2 ⟨rfl,rfl⟩
  exact⟨rfl,hI.1,by rw[hstep];exact hI.2⟩
 |any j=>
  refine⟨_,_,rfl,fun _ _=>by kernel_rfl,fun W' hI=>?_⟩
  obtain⟨u,hu⟩:∃u,(runF (fs.take k) (ws.take k) l0)[j]? =some u:=⟨_,List.getElem?_eq_getElem (by rw[jfq];exact hj _ hfm)⟩
  refine(jca s _ b j _ u W' (hbx W' hI.1 _ rfl) hI.2 hu).mono ?_
  intro q w2 hP
  obtain⟨a1,a2,a3⟩:=jbh hI.1 hP
  exact⟨a1,a2,by rw[hstep];exact a3⟩
 |num j=>
  refine⟨_,_,rfl,fun _ _=>by kernel_rfl,fun W' hI=>?_⟩
  obtain⟨u,hu⟩:∃u,(runF (fs.take k) (ws.take k) l0)[j]? =some u:=⟨_,List.getElem?_eq_getElem (by rw[jfq];exact hj _ hfm)⟩
  refine(jjb s _ b j _ u W' (hbx W' hI.1 _ rfl) hI.2 hu hsm).mono ?_
  intro q w2 hP
  obtain⟨a1,a2,a3⟩:=jbh hI.1 hP
  exact⟨a1,a2,by rw[hstep];exact a3⟩
theorem j0c(a:Option Addr)(cap:Nat)(ws:List ByteArray)(w:World)(hw:WAt w a ws)(hne:∀s∈ws,1<=s.size)(hl:ws.length<=8001):
  Calls Tryz.prog 44 #[.slice a ws.length cap,.string ⟨#[]⟩] w fun q w'=>q=.returned (.int .i64 (-1))/\w'=w:=by
 obtain⟨n,hn⟩:∃n,ws.length=n:=⟨_,rfl⟩
 have HN:=hidQ hn
 have HW:=hidQ (And.intro hw hne)
 rw[hn]at hl ⊢
 clear hn hw hne
 go_enter Tryz.func44,Tryz.ntmps44
 go_wp2
 go_loop [5,8] (fun _ i=>∃k:Nat,k<=n/\i=.int .i64 k) (fun _ i=>n-(intOf i).toNat)
 case atStart=>exact⟨0,by omega,rfl⟩
 case round=>
  obtain⟨k,hk,rfl⟩:=hrel
  by_cases hlt:k<n
  ·obtain⟨s,hs⟩:∃x,ws[k]? =some x:=⟨_,List.getElem?_eq_getElem (by rw[HN.out];exact hlt)⟩
   obtain⟨b,o,rfl,hc⟩:=HW.out.1.at hs
   have h1:=HW.out.2 s (List.mem_of_getElem? hs)
   have hy:s.toList.isEmpty=false:=by rw[jib];exact decide_eq_false (by omega)
   have hx:(([]:List UInt8)==s.toList)=false:=by
    cases h:s.toList with
    |nil=>rw[h]at hy;cases hy
    |cons=>rfl
   clear hs h1
   go_wp2
   go_round
   case rel=>exact⟨k+1,by omega,by go_num⟩
   case measure=>simp[intOf];omega
  ·obtain rfl:k=n:=by omega
   go_wp2
   go_ret
   exact⟨rfl,rfl⟩
theorem jpn(a:Option Addr)(cap:Nat)(ws:List ByteArray)(w:World)(hw:WAt w a ws)(hne:∀s∈ws,1<=s.size)(hl:ws.length<=8001):
  Calls Tryz.prog 24 #[.slice a ws.length cap,.string ⟨#[]⟩] w fun q w'=>q=.returned (.bool false)/\w'=w:=by
 have hI:=j0c a cap ws w hw hne hl
 generalize ws.length=n at *
 clear hw hne
 go_enter Tryz.func24,Tryz.ntmps24
 go_wp2_with fail
 refine hI.mono ?_
 rintro q w1 ⟨rfl,rfl⟩
 go_wp2
 go_ret
 exact⟨rfl,rfl⟩
end
section
open Go.RowKit
def MxJ(w:World):Prop:=∃m:Int,w.cell? ⟨2,0,none⟩=some (.int .i64 m)
theorem MxJ.of_below{w w':World}(h:MxJ w)(hb:Below w.heap.size w w'):MxJ w':=by
 obtain⟨m,hm⟩:=h
 exact⟨m,(qce hb hm hm)⟩
theorem j68{l:List ByteArray}{k:Nat}(hk:k<l.length)(h:jas (l.getD k ⟨#[]⟩)=false):l.all jas=false:=by
 rw[List.all_eq_false]
 refine⟨l[k],List.getElem_mem hk,?_⟩
 rw[List.getD_eq_getElem?_getD,List.getElem?_eq_getElem hk]at h
 simp at h;simp[h]
theorem j3f{l:List ByteArray}(h:∀k,k<l.length->jas (l.getD k ⟨#[]⟩)=true):l.all jas=true:=by
 rw[List.all_eq_true]
 intro x hx
 obtain⟨j,hj,rfl⟩:=List.getElem_of_mem hx
 have:=h j hj
 rw[List.getD_eq_getElem?_getD,List.getElem?_eq_getElem hj]at this
 simpa using this
theorem jme (g n cap:Nat) (G:Nat->ByteArray) (w:World) (hn:n<=8001) (hL:Hid (∀k,k<n->w.cell? ⟨g,k,none⟩=some (.string (G k)))) (hG:Hid (∀k,k<n->(G k).size<=8000)) (J:Bool)
  (HNo:Hid (∀k,k<n->jas (G k)=false->J=false)) (HYes:Hid ((∀k,k<n->jas (G k)=true)->J=true)):
  Calls Tryz.prog 67 #[.slice (some ⟨g,0,none⟩) n cap,.func (.func 19) #[] #[]] w fun e w'=>e=.returned (.bool J)/\w'=w:=by
 go_enter Tryz.func67,Tryz.ntmps67
 go_wp2
 go_loop [9] (fun i=>∃k:Nat,k<=n/\i=.int .i64 k/\Hid (∀(j:Nat),j<k->jas (G j)=true)) (fun i=>n-(intOf i).toNat)
 case atStart=>exact⟨0,by omega,rfl,fun j h=>by omega⟩
 case round=>
  obtain⟨k,hk,rfl,H⟩:=hrel
  by_cases hlt:k<n
  ·have hc:=hL.out k hlt
   have hl:=fun w=>jdj (G k) w (hG.out k hlt)
   have HN:=HNo.out k hlt
   cases hb:jas (G k)with
   |false=>
    have HJ:Hid (J=false):=HN hb
    rw[hb]at hl
    clear HN hb
    generalize G k=x at *
    go_wp2_with (go_at_call 19;refine(hl _).mono ?_;rintro e w' ⟨rfl,rfl⟩)
    go_ret
    exact⟨by rw[HJ.out];rfl,rfl⟩
   | true=>
    have HA:Hid (∀(j:Nat),j<k+1->jas (G j)=true):=fun j h=>by
     rcases Nat.lt_succ_iff_lt_or_eq.1 h with h|rfl
     ·exact H.out j h
     ·exact hb
    rw[hb]at hl
    clear HN hb
    generalize G k=x at *
    go_wp2_with (go_at_call 19;refine(hl _).mono ?_;rintro e w' ⟨rfl,rfl⟩)
    go_round
    case rel=>exact⟨k+1,by omega,by go_num,HA⟩
    case measure=>simp[intOf];omega
  ·have e:k=n:=by omega
   subst e
   have HJ:Hid (J=true):=HYes.out (fun j hj=>H.out j hj)
   go_wp2
   go_ret
   exact⟨by rw[HJ.out];rfl,rfl⟩
theorem jt2(s:ByteArray)(w:World)(hM:MxJ w)(hs:s.size<=8000):
  Calls Tryz.prog 21 #[.string s] w fun e w'=>∃cap,e=.returned (.slice (some ⟨w.heap.size,0,none⟩) ((lfs s s.size).1.length:Nat) cap)/\Hid (∀k,k<(lfs s s.size).1.length->w'.cell? ⟨w.heap.size,k,none⟩=some (.string ((lfs s s.size).1.getD k ⟨#[]⟩)))/\Below w.heap.size w w':=by
 obtain⟨m,hm⟩:=hM
 have hSp:=Tryz.strings_Split s ⟨#[10]⟩ m w (by omega) hm (by decide)
 rw[jil,jlc]at hSp
 have hb:=(je2 s s.size).1
 have HC:Hid (∀k,k<(lfs s s.size).1.length->(w.alloc (.cells ((lns s).map Value.string).toArray 9)).cell? ⟨w.heap.size,k,none⟩=some (.string ((lfs s s.size).1.getD k ⟨#[]⟩))):=fun k hk=>by
  refine Lib.pieces_cell_at w (lns s) _ k _ ?_
  unfold lns
  rw[List.getElem?_append_left hk,List.getD_eq_getElem?_getD,List.getElem?_eq_getElem hk]
  rfl
 have hB:=qal w (.cells ((lns s).map Value.string).toArray 9)
 generalize w.alloc (.cells ((lns s).map Value.string).toArray 9)=W1 at *
 generalize (lfs s s.size).1.length=n at *
 generalize (lfs s s.size).1=L at *
 clear hm
 go_enter Tryz.func21,Tryz.ntmps21
 go_wp2_with (go_at_call 23;refine hSp.mono ?_;rintro e w1 ⟨rfl,rfl⟩)
 go_ret
 exact⟨_,rfl,HC,hB⟩
end
section
open Go.RowKit
structure Jt(line:ByteArray)(ws:List ByteArray):Prop where
 sp:Lib.splitB ⟨#[32]⟩ 0 (Lib.countB line ⟨#[32]⟩) line=ws
 cn:Lib.countB line ⟨#[32]⟩+1=ws.length
 ne:∀s∈ws,1<=s.size
 sz:line.size<=2000
 wl:ws.length<=100
structure RdP(w:World)(b:Nat)(fs:List FormD)(ws:List ByteArray)(l0:List Value)(q:Ending)(w':World):Prop where
 end_:q=.returned (.bool (okF fs ws))
 grown:w.grownBy w' (some b)
 var:okF fs ws=true->Zc w' b (runF fs ws l0)
 vex:∃l,Zc w' b l/\l.length=l0.length
theorem j4g(w:World)(ws:List ByteArray):WAt (w.alloc (.cells (ws.map Value.string).toArray 9)) (some ⟨w.heap.size,0,none⟩) ws:=.inr ⟨_,_,rfl,fun i v hv=>by
 have h:=heap_alloc_new w (.cells (ws.map Value.string).toArray 9)
 simp only[World.cell?,Nat.zero_add]
 rw[h]
 simpa [List.getElem?_toArray]using hv⟩
theorem jam(fs:List FormD)(line:ByteArray)(ws:List ByteArray)(l0:List Value)(b:Nat)(w:World)(fc:Nat)(hL:Jt line ws)(hM:MxJ w)(hb:Zc w b l0)(hlt:b<w.heap.size)(hj:∀f∈fs,f.inN l0.length)(hf:fs.length<=100):
  Calls Tryz.prog 13 #[.string line,.slice (some ⟨w.heap.size+fs.length,0,none⟩) fs.length fc] (jak w (asF b w.heap.size fs)) (RdP w b fs ws l0):=by
 obtain⟨W,hW⟩:∃x,jak w (asF b w.heap.size fs)=x:=⟨_,rfl⟩
 have hB:=jax (asF b w.heap.size fs) w
 have hsz:=jsy b w.heap.size fs w
 rw[hW]at hB hsz
 obtain⟨m,hm⟩:=hM.of_below hB
 have hSp:=Tryz.strings_Split line ⟨#[32]⟩ m W (by have:=hL.sz;omega) hm (by decide)
 rw[hL.sp,hL.cn]at hSp
 have hb2:Below W.heap.size W (W.alloc (.cells (ws.map Value.string).toArray 9)):=qal _ _
 have hwa:=j4g W ws
 have hMt:=j6l fs ws l0 b w (W.alloc (.cells (ws.map Value.string).toArray 9)) (some ⟨W.heap.size,0,none⟩) hlt hj hL.ne (by rw[hW];exact hb2) hwa (fun c o h=>by injection h with h;injection h with h;omega)
 have hV2:Zc (W.alloc (.cells (ws.map Value.string).toArray 9)) b l0:=(hb.below hB).below hb2
 have hg2:w.grownBy (W.alloc (.cells (ws.map Value.string).toArray 9)) (some b):=jb4 (qtr hB hb2) b
 rw[hW]
 clear hm hM
 generalize W.alloc (.cells (ws.map Value.string).toArray 9)=W2 at *
 have hCn:=jpn (some ⟨W.heap.size,0,none⟩) ws.length ws W2 hwa hL.ne (by have:=hL.wl;omega)
 have HI0:=hidQ (And.intro (World.grownBy.refl W2 (some b)) hV2)
 have HG:=hidQ hg2
 by_cases hl:ws.length=fs.length
 ·have hMm:=jdf (fnsF w.heap.size fs) ws (okKf fs ws) _ _ _ fc ws.length hMt (by rw[jml];exact hl) (by rw[jml];omega) W2 HI0.out
  rw[jml]at hMm
  have HY:=hidQ (jwz fs ws hl)
  have HN:=hidQ (j3z fs ws)
  have HT:Hid (runF (fs.take fs.length) (ws.take fs.length) l0=runF fs ws l0):=by
   simp only[Hid]
   rw[List.take_length,List.take_of_length_le (by omega)]
  clear hMt hL hj hV2 hg2 hwa hb2 hB hsz hb
  generalize ws.length=n at *
  subst hl
  clear hW
  go_enter Tryz.func13,Tryz.ntmps13
  go_wp2_with fail
  refine hSp.mono ?_
  rintro q w2 ⟨rfl,rfl⟩
  go_wp2_with fail
  refine hCn.mono ?_
  rintro q w3 ⟨rfl,rfl⟩
  go_wp2_with fail
  refine hMm.mono ?_
  rintro q w4 hP
  clear hMm hSp hCn
  rcases hP.end_ with⟨rfl,hall,hg,hv⟩|⟨rfl,k,hk,hno,hg,hv⟩
  ·have HP:Hid (RdP w b fs ws l0 (.returned (.bool true)) w4):=⟨by rw[HY.out hall],HG.out.trans hg,fun _=>(by rw[<- HT.out];exact hv),_,hv,jfq _ _ _⟩
   clear hP hall hg hv HY HN HT HG HI0
   go_wp2
   go_ret
   exact HP.out
  ·have HP:Hid (RdP w b fs ws l0 (.returned (.bool false)) w4):=⟨by rw[HN.out k hk hno],HG.out.trans hg,fun h=>(by rw[HN.out k hk hno]at h;cases h),_,hv,jfq _ _ _⟩
   clear hP hno hg hv HY HN HT HG HI0
   go_wp2
   go_ret
   exact HP.out
 ·have hMm:=fun W:World=>jjd fs.length ws.length (some ⟨w.heap.size+fs.length,0,none⟩) (some ⟨W.heap.size,0,none⟩) fc ws.length W2 hl
  have HN:=hidQ (jw0 fs ws hl)
  have HP:Hid (RdP w b fs ws l0 (.returned (.bool false)) W2):=⟨by rw[HN.out],HG.out,fun h=>(by rw[HN.out]at h;cases h),_,hV2,rfl⟩
  clear hMt hL hj hV2 hg2 hwa hb2 hB hsz hb HN HG HI0 hl
  generalize ws.length=n at *
  have hMm:=hMm W
  clear hW
  go_enter Tryz.func13,Tryz.ntmps13
  go_wp2_with fail
  refine hSp.mono ?_
  rintro q w2 ⟨rfl,rfl⟩
  go_wp2_with fail
  refine hCn.mono ?_
  rintro q w3 ⟨rfl,rfl⟩
  go_wp2_with fail
  refine hMm.mono ?_
  rintro q w4 ⟨rfl,rfl⟩
  clear hMm hSp hCn
  go_wp2
  go_ret
  exact HP.out
end
end Go.Proofs.YtofdpfpdocpbpaaGreatDoor
