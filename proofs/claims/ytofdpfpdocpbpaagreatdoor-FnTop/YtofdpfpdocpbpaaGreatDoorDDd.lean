/- Packed. -/
import Derived.Test.YtofdpfpdocpbpaaGreatDoorJAd
import Derived.Deep.AppendLies
import Derived.OwnWalk
import Derived.Laws.OwnMore
import Derived.Laws.NewBlocks
import Derived.Laws.RangeAny
import Derived.Lib.OthersKept
import Derived.Defers
import Derived.Recover
import Derived.Laws.Pointers
set_option maxRecDepth 20000
set_option maxHeartbeats 20000000
set_option linter.unusedSimpArgs false
namespace Go.Proofs.YtofdpfpdocpbpaaGreatDoor
section
open Go.RowKit
def jdm(s:ByteArray):Bool:=decide ((lfs s s.size).2=s.size)&&(decide ((lfs s s.size).1.length<=40)&&(lfs s s.size).1.all jas)
def jh5(s:ByteArray):List ByteArray:=if s.size<=8000 then(if jdm s then(lfs s s.size).1 else [])else []
structure RowP(L:List ByteArray)(w:World)(e:Ending)(w':World):Prop where
 ex:∃v,e=.returned v/\w'.ownsRow w.heap.size 9 1 v L.length (L.map Value.string)/\Below w.heap.size w w'
theorem juk{s:ByteArray}(h:¬s.size<=8000):jh5 s=[]:=by unfold jh5;rw[if_neg h]
theorem j2r{s:ByteArray}(h:jdm s=false):jh5 s=[]:=by unfold jh5;rw[h];split<;>rfl
theorem jo2{s:ByteArray}(h:s.size<=8000)(hb:jdm s=true):jh5 s=(lfs s s.size).1:=by unfold jh5;rw[if_pos h,hb];rfl
theorem jyz{s:ByteArray}(h:(lfs s s.size).2≠s.size):jdm s=false:=by unfold jdm;rw[decide_eq_false h];rfl
theorem jul{s:ByteArray}(h:¬(lfs s s.size).1.length<=40):jdm s=false:=by unfold jdm;rw[decide_eq_false h];simp
theorem jzl{L:List ByteArray}{k:Nat}{x:ByteArray}(h:L[k]? =some x)(hx:jas x=false):L.all jas=false:=by
 rw[List.all_eq_false];exact⟨x,List.mem_of_getElem? h,by simp[hx]⟩
theorem jum{s x:ByteArray}{k:Nat}(h:(lfs s s.size).1[k]? =some x)(hx:jas x=false):jdm s=false:=by unfold jdm;rw[jzl h hx];simp
theorem jyy{s:ByteArray}(h1:(lfs s s.size).2=s.size)(h2:(lfs s s.size).1.length<=40)(h3:(lfs s s.size).1.all jas=true):jdm s=true:=by unfold jdm;rw[decide_eq_true h1,decide_eq_true h2,h3];rfl
end
section
open Go.RowKit
theorem jtm{w:World}{b0 base:Nat}{e:TypeId}{size:Nat}{v:Value}{n:Nat}{xs:List Value}(h:w.ownsRow base e size v n xs)(hb:b0<=base):w.ownsRow b0 e size v n xs:=by
 refine⟨h.1,?_⟩
 rcases h.2 with h|⟨g,cap,cur,h1,h2,h3⟩
 ·exact .inl h
 ·exact .inr ⟨g,cap,cur,h1,by omega,h3⟩
end
section
open Go.RowKit
def jqz(s:ByteArray)(j:Nat):Prop:=j<s.size/\(s.get! j).toNat / 64=2
theorem jeu{s:ByteArray}{j:Nat}(h:jqz s j):jac s j≠10:=by
 have e:=jaf s j h.1
 have e2:s.get! j=s[j]'h.1:=by have:=get_at s j h.1;rw[Nat.add_zero]at this;exact this
 have h2:=h.2
 rw[e2]at h2
 omega
theorem dec_w(s:ByteArray)(pos:Nat):(Utf8.decode s pos).2=1\/((Utf8.decode s pos).2=2/\jqz s (pos+1))\/((Utf8.decode s pos).2=3/\jqz s (pos+1)/\jqz s (pos+2))\/((Utf8.decode s pos).2=4/\jqz s (pos+1)/\jqz s (pos+2)/\jqz s (pos+3)):=by
 simp only[Utf8.decode]
 repeat' split
 all_goals first
  |(left;rfl)
  |(rename_i h1 h2;right;left;simp only[Bool.and_eq_true,decide_eq_true_eq,beq_iff_eq]at h1;exact⟨rfl,h1.2.1,h1.2.2⟩)
  |(rename_i h1 h2;right;right;left;simp only[Bool.and_eq_true,decide_eq_true_eq,beq_iff_eq]at h1;exact⟨rfl,h1.1.2,h1.2⟩)
  |(rename_i h1 h2;right;right;right;simp only[Bool.and_eq_true,decide_eq_true_eq,beq_iff_eq]at h1;exact⟨rfl,h1.1.1.2,h1.1.2,h1.2⟩)
theorem j9a{s:ByteArray}{pos:Nat}(h:pos<s.size)(hc:jac s pos≠10):1<=(Utf8.decode s pos).2/\pos+(Utf8.decode s pos).2<=s.size/\∀j,pos<=j->j<pos+(Utf8.decode s pos).2->jac s j≠10:=by
 rcases dec_w s pos with e|⟨e,h1⟩|⟨e,h1,h2⟩|⟨e,h1,h2,h3⟩
 ·rw [e]; exact ⟨by omega, by omega,fun j a b=>by cases(show j=pos by omega);exact hc⟩
 ·rw[e];refine⟨by omega,by have:=h1.1;omega,fun j a b=>?_⟩
  rcases(show j=pos\/j=pos+1 by omega)with rfl|rfl
  ·exact hc
  ·exact jeu h1
 ·rw[e];refine⟨by omega,by have:=h2.1;omega,fun j a b=>?_⟩
  rcases(show j=pos\/j=pos+1\/j=pos+2 by omega)with rfl|rfl|rfl
  ·exact hc
  ·exact jeu h1
  ·exact jeu h2
 ·rw[e];refine⟨by omega,by have:=h3.1;omega,fun j a b=>?_⟩
  rcases(show j=pos\/j=pos+1\/j=pos+2\/j=pos+3 by omega)with rfl|rfl|rfl|rfl
  ·exact hc
  ·exact jeu h1
  ·exact jeu h2
  ·exact jeu h3
theorem jr5{s:ByteArray}{a:Nat}:∀d,(∀j,a<=j->j<a+d->jac s j≠10)->lfs s (a+d)=lfs s a
 |0,_=>rfl
 |d+1,h=>by
  rw[show a+(d+1)=(a+d)+1 by omega,jdd (h (a+d) (by omega) (by omega))]
  exact jr5 d fun j x y=>h j x (by omega)
theorem jy1{s:ByteArray}{pos:Nat}(h:pos<s.size)(hc:jac s pos≠10):(Utf8.decode s pos).1≠10/\(Utf8.decode s pos).1<=2147483647/\1<=(Utf8.decode s pos).2/\pos+(Utf8.decode s pos).2<=s.size/\lfs s (pos+(Utf8.decode s pos).2)=lfs s pos:=by
 have ⟨a1,a2,a3⟩:=j9a h hc
 refine⟨?_,decode_le s pos,a1,a2,jr5 _ a3⟩
 have e:=jaf s pos h
 by_cases ha:(s[pos]'h).toNat<128
 ·rw[decode_ascii s pos h ha];show(s[pos]'h).toNat≠10;omega
 ·have:=(decode_high s pos h (by omega)).1;omega
theorem j89{s:ByteArray}{pos:Nat}(h:pos<s.size)(hc:jac s pos=10):Utf8.decode s pos=(10,1):=by
 have e:=jaf s pos h
 have e10:(s[pos]'h).toNat=10:=by omega
 rw[decode_ascii s pos h (by omega),e10]
theorem jxn(s:ByteArray)(k:Nat):∀d,∃t,(lfs s (k+d)).1=(lfs s k).1++t
 |0=>⟨[],by simp⟩
 |d+1=>by
  obtain⟨t,ht⟩:=jxn s k d
  by_cases h:jac s (k+d)=10
  ·exact⟨t++[s.extract (lfs s (k+d)).2 (k+d)],by rw[show k+(d+1)=(k+d)+1 by omega,jdi h];simp[ht]⟩
  ·exact⟨t,by rw[show k+(d+1)=(k+d)+1 by omega,jdd h];exact ht⟩
theorem j33(s:ByteArray){k:Nat}(h:k<=s.size):∃t,(lfs s s.size).1=(lfs s k).1++t:=by
 obtain⟨t,ht⟩:=jxn s k (s.size-k)
 exact⟨t,by rw[show k+(s.size-k)=s.size by omega]at ht;exact ht⟩
theorem j6v{s:ByteArray}{pos:Nat}(h:pos<s.size)(hc:jac s pos=10)(hl:(lfs s pos).1.length=40):jdm s=false:=by
 obtain⟨t,ht⟩:=j33 s (k:=pos+1) (by omega)
 apply jul
 rw[ht,jdi hc]
 simp;omega
theorem j2p{s:ByteArray}{pos:Nat}(h:pos<s.size)(hc:jac s pos=10)(hl:jas (s.extract (lfs s pos).2 pos)=false):jdm s=false:=by
 obtain⟨t,ht⟩:=j33 s (k:=pos+1) (by omega)
 refine jum (k:=(lfs s pos).1.length) (x:=s.extract (lfs s pos).2 pos) ?_ hl
 rw[ht,jdi hc]
 simp
end
section
open Go.RowKit
def jmv(w:World)(p:Addr):Prop:=w.cell? ⟨0,0,none⟩=some (.iface 446 (.pointer (some p)))
structure Jg(s:ByteArray)(p:Addr)(w:World)(e:Ending)(w':World):Prop where
 yes:jdm s=true->RowP (lfs s s.size).1 w e w'
 no:jdm s=false->e=.panicked [{ v:=.iface 446 (.pointer (some p)),recovered:=false }]/\Below w.heap.size w w'
theorem Jg.row{s:ByteArray}{p:Addr}{w:World}{e:Ending}{w':World}(hb:jdm s=true)(h:RowP (lfs s s.size).1 w e w'):Jg s p w e w':=⟨fun _=>h,fun h2=>by rw[hb]at h2;cases h2⟩
theorem Jg.pan{s:ByteArray}{p:Addr}{w w':World}(hb:jdm s=false)(h:Below w.heap.size w w'):Jg s p w (.panicked [{ v:=.iface 446 (.pointer (some p)),recovered:=false }]) w':=⟨fun h2=>(by rw[hb]at h2;cases h2),fun _=>⟨rfl,h⟩⟩
theorem jgu{w:World}{k:Nat}{s:ByteArray}{p:Nat}(h:w.heap[k]? =some (.stringIter s p)):w.iterPos k=p:=by unfold World.iterPos;rw[h]
theorem jdq{w:World}{base:Nat}{e:TypeId}{size:Nat}{v:Value}{n:Nat}{xs:List Value}(h:w.ownsRow base e size v n xs):∃a c,v=.slice a n c:=by
 rcases h.2 with⟨rfl,rfl⟩|⟨g,cap,cur,rfl,_⟩
 ·exact⟨_,_,rfl⟩
 ·exact⟨_,_,rfl⟩
structure StSt(s:ByteArray)(w:World)(pos:Nat)(v:Value)(n:Nat)(L:List Value)(wr:World):Prop where
 own:wr.ownsRow (w.heap.size+1) 9 1 v n L
 it:wr.heap[w.heap.size]? =some (.stringIter s pos)
 bel:Below w.heap.size w wr
theorem StSt.next{s:ByteArray}{w:World}{pos:Nat}{v:Value}{n:Nat}{L:List Value}{wr:World}(h:StSt s w pos v n L wr)(pos':Nat):StSt s w pos' v n L (wr.iterAt w.heap.size s pos'):=by
 refine⟨?_,Lib.iterAt_heap _ _ _ _ _ h.it,Lib.below_iterAt h.bel (Nat.le_refl _) _ _⟩
 refine⟨h.own.1,?_⟩
 rcases h.own.2 with h1|⟨g,cap,cur,h1,h2,h3,h4⟩
 ·exact .inl h1
 ·exact .inr ⟨g,cap,cur,h1,h2,by rw[Lib.iterAt_other _ _ _ _ _ (by omega)];exact h3,h4⟩
theorem StSt.size{s:ByteArray}{w:World}{pos:Nat}{v:Value}{n:Nat}{L:List Value}{wr:World}(h:StSt s w pos v n L wr):w.heap.size+1<=wr.heap.size:=(Array.getElem?_eq_some_iff.1 h.it).1
theorem StSt.grown{s:ByteArray}{w:World}{pos n m:Nat}{v v':Value}{L M:List Value}{wr w2:World}(h:StSt s w pos v n L wr)(o:Obj)(hg:(wr.alloc o).grownBy w2 v.ownBlock)(hown:w2.ownsRow (w.heap.size+1) 9 1 v' m M):StSt s w pos v' m M w2:=by
 have hs:=h.size
 refine⟨hown,?_,(h.bel.alloc h.bel.size _).grown hg (by simp;omega) fun k hk=>by have:=jrp h.own k hk;omega⟩
 rw[hg.block _ (by simp;omega) (fun e=>by have:=jrp h.own _ e.symm;omega)]
 have he:(wr.alloc o).heap[w.heap.size]? =wr.heap[w.heap.size]? :=heap_alloc_old wr o (by omega)
 exact he.trans h.it
theorem jl8 (s:ByteArray) (p:Addr) (w:World) (hs:s.size<=8000) (hp:jmv w p):
  Calls Tryz.prog 11 #[.string s] w (Jg s p w):=by
 obtain⟨i0,hi,hz0,hz1,hz2⟩:=jnx
 have hln:=fun x w hx=>jdj x w hx
 have HG:Hid (∀wr,Below w.heap.size w wr->wr.cell? ⟨0,0,none⟩=some (.iface 446 (.pointer (some p)))):=fun wr hb=>by
  rw[hb.cell (p:=⟨0,0,none⟩) (World.block_lt_of_cell? w _ hp)];exact hp
 have S0:StSt s w 0 (.slice none 0 0) 0 [] (w.iter s 0):=⟨World.ownsRow_nil _ _ _ _,World.iter_heap _ _ _,qal _ _⟩
 clear hp
 go_enter Tryz.func11,Tryz.ntmps11
 go_wp2
 go_loopw [3,4] (fun v f wr=>∃pos:Nat,pos<=s.size/\f=.int .i64 (lfs s pos).2/\StSt s w pos v (lfs s pos).1.length ((lfs s pos).1.map Value.string) wr/\(lfs s pos).1.length<=40/\Hid ((lfs s pos).1.all jas=true)) (fun _ _ wr=>s.size-wr.iterPos w.heap.size)
 case atStart=>exact⟨0,by omega,rfl,S0,by simp[lfs],rfl⟩
 case round=>
  obtain⟨pos,hpos,rfl,hst,h40,HA⟩:=hrel
  have hbd:=je2 s pos
  have hip:=jgu hst.it
  clear S0
  by_cases hlt:pos<s.size
  ·by_cases hc:jac s pos=10
   ·have hd:=j89 hlt hc
    have hnx:∀ty,(Instr.next (.pointer (some ⟨w.heap.size,0,none⟩)) true ty).run Tryz.prog wr=.ok (.tuple #[.bool true,.int .i64 pos,.int .i32 10]) (wr.iterAt w.heap.size s (pos+1)):=fun ty=>by
     have:=Lib.run_next_any_at (P:=Tryz.prog) wr w.heap.size s pos ty hst.it hlt
     rw[hd]at this;exact this
    have hst1:=hst.next (pos+1)
    have HS:Hid (lfs s (pos+1)=((lfs s pos).1++[s.extract (lfs s pos).2 pos],pos+1)):=jdi hc
    have HX:Hid (∀w,Calls Tryz.prog 19 #[.string (s.extract (lfs s pos).2 pos)] w fun e w'=>e=.returned (.bool (jas (s.extract (lfs s pos).2 pos)))/\w'=w):=fun w=>hln _ w (by rw[ByteArray.size_extract];omega)
    have cG:=HG.out _ hst1.bel
    have HIP:=hid hip
    have H41:Hid ((lfs s pos).1.length=40->jdm s=false):=j6v hlt hc
    have HBad:Hid (jas (s.extract (lfs s pos).2 pos)=false->jdm s=false):=j2p hlt hc
    clear hst hln hd hip hc
    generalize hwe:wr.iterAt w.heap.size s (pos+1)=wn at *
    generalize (lfs s pos).2=f at *
    generalize (lfs s pos).1=L at *
    obtain⟨n,hn⟩:∃n,L.length=n:=⟨_,rfl⟩
    have HN:=hid hn
    rw[hn]at h40 H41 hst1 hbd
    clear hn
    obtain⟨a3,c3,e3⟩:=jdq hst1.own
    subst e3
    by_cases h4:n=40
    ·have hb:=H41.out h4
     subst h4
     go_wp2
     exact⟨rfl,Jg.pan hb hst1.bel⟩
    ·have h4':¬((n:Int)=40):=by omega
     cases hl:jas (s.extract f pos)
     ·have hb:=HBad.out hl
      rw[hl]at HX
      have HX':=HX.out
      go_wp2_with fail
      refine(HX' _).mono ?_
      rintro e w2 ⟨rfl,h2⟩
      subst h2
      go_wp2
      exact⟨rfl,Jg.pan hb hst1.bel⟩
     ·rw[hl]at HX
      have HX':=HX.out
      have hown:=hst1.own
      have HA1:Hid ((L++[s.extract f pos]).all jas=true):=by simp only[Hid];rw[List.all_append,HA.out];simp[hl]
      have HST:=hid hst1
      have hsz:=hst1.size
      clear hst1 HA H41 HBad hl cG
      go_wp2_with fail
      refine(HX' _).mono ?_
      rintro e w2 ⟨rfl,h2⟩
      subst h2
      go_wp2_with (first
       |(at_builtin;refine wpList_append_own _ rfl _ _ 29 rfl (w.heap.size+1) 9 i0 (.string ⟨#[]⟩) 1 16 Tryz.underlying29 hi hz0 hz1 hz2 rfl (by decide) _ _ _ rfl (hown.alloc _) ⟨w2.heap.size,0,none⟩ 1 1 [.string (s.extract f pos)] rfl rfl ?c1 ?c2 ?c3 ?c4 ?c5 ?_)
       |fail)
      case c1=>exact cell_one_new _ _ _
      case c2=>intro u hu;simp at hu;subst hu;rfl
      case c3=>unfold maxLen;omega
      case c4=>omega
      case c5=>simp;omega
      ·intro v' w3 hown' hgrow _
       have S1:Hid (StSt s w (pos+1) v' (L++[s.extract f pos]).length ((L++[s.extract f pos]).map Value.string) w3):=by
        have:=HST.out.grown _ hgrow hown'
        simp only[Hid,List.length_append,HN.out,List.length_singleton,List.map_append,List.map_cons,List.map_nil]
        exact this
       have H40:Hid ((L++[s.extract f pos]).length<=40):=by simp only[Hid,List.length_append,HN.out,List.length_singleton];omega
       clear hown' hgrow hown HST
       go_wp2
       go_roundw
       case rel=>exact⟨pos+1,by omega,by rw[HS.out];go_num,by rw[HS.out];exact S1.out,by rw[HS.out];exact H40.out,by rw[HS.out];exact HA1⟩
       case measure=>rw[jgu S1.out.it,HIP.out];omega
   ·obtain⟨d1,d2,d3,d4,d5⟩:=jy1 hlt hc
    have hnx:∀ty,(Instr.next (.pointer (some ⟨w.heap.size,0,none⟩)) true ty).run Tryz.prog wr=.ok (.tuple #[.bool true,.int .i64 pos,.int .i32 (Utf8.decode s pos).1]) (wr.iterAt w.heap.size s (pos+(Utf8.decode s pos).2)):=fun ty=>Lib.run_next_any_at (P:=Tryz.prog) wr w.heap.size s pos ty hst.it hlt
    have S1:Hid (StSt s w (pos+(Utf8.decode s pos).2) u3 (lfs s (pos+(Utf8.decode s pos).2)).1.length ((lfs s (pos+(Utf8.decode s pos).2)).1.map Value.string) (wr.iterAt w.heap.size s (pos+(Utf8.decode s pos).2))):=by simp only[Hid];rw[d5];exact hst.next _
    have HIP:=hid hip
    have HD:=hid d5
    have hne:¬(((Utf8.decode s pos).1:Int)=10):=by omega
    clear hst hln d5 hip hc
    generalize (Utf8.decode s pos).1=r at *
    generalize (Utf8.decode s pos).2=d at *
    generalize wr.iterAt w.heap.size s (pos+d)=wn at *
    go_wp2
    go_roundw
    case rel=>exact⟨pos+d,by omega,by rw[HD.out],S1.out,by rw[HD.out];exact h40,by rw[HD.out];exact HA⟩
    case measure=>rw[jgu S1.out.it,HIP.out];omega
  ·have e:pos=s.size:=by omega
   subst e
   have hnx:∀ty,(Instr.next (.pointer (some ⟨w.heap.size,0,none⟩)) true ty).run Tryz.prog wr=.ok (.tuple #[.bool false]) wr:=fun ty=>Lib.run_next_end_at (P:=Tryz.prog) wr w.heap.size s s.size ty hst.it hlt
   have cG:=HG.out _ hst.bel
   by_cases hf:(lfs s s.size).2=s.size
   ·have hb:=jyy hf h40 HA.out
    obtain⟨a3,c3,e3⟩:=jdq hst.own
    subst e3
    have HRH:Hid (Jg s p w (.returned (.slice a3 (lfs s s.size).1.length c3)) wr):=Jg.row hb ⟨_,rfl,jtm hst.own (by omega),hst.bel⟩
    clear hst hip hln HA hbd
    generalize (lfs s s.size).2=f at *
    generalize (lfs s s.size).1=L at *
    subst hf
    go_wp2
    go_ret
    exact HRH.out
   ·have hb:=jyz hf
    have hB:=hst.bel
    clear hst hip hln HA
    have hlt2:(lfs s s.size).2<s.size:=by omega
    generalize (lfs s s.size).2=f at *
    generalize (lfs s s.size).1=L at *
    go_wp2
    exact⟨rfl,Jg.pan hb hB⟩
end
section
open Go.RowKit
theorem jj4(u:TypeId)(pv:Value)(older:List PanicEntry)(w:World):
  CallsD Tryz.prog 10 #[] (.panicking ({ v:=.iface u pv,recovered:=false }::older)) w fun e u' w'=>
   e=.returned (.tuple #[])/\u'=.panicking ({ v:=.iface u pv,recovered:=true }::older)/\w'=w:=by
 refine callsD_of_wpS Tryz.func10 rfl fun c₀ cs hu=>?_
 apply wpS_region
 simp[wpOpsS,go_sem,recoverD,hu,Tryz.ntmps10,bodyPostS,results,Tryz.results10]
theorem juy(w:World):
  CallsD Tryz.prog 10 #[] .returning w fun e u' w'=>e=.returned (.tuple #[])/\u'=.returning/\w'=w:=by
 refine callsD_of_wpS Tryz.func10 rfl fun c₀ cs hu=>?_
 apply wpS_region
 simp[wpOpsS,go_sem,recoverD,hu,Tryz.ntmps10,bodyPostS,results,Tryz.results10]
 cases c₀
 simp_all
theorem jkt(s:ByteArray)(p:Addr)(w:World)(hs:s.size<=9223372036854775807)(hp:jmv w p):
  Calls Tryz.prog 7 #[.string s] w (RowP (jh5 s) w):=by
 have hmf:∀(fn:Fn) (first cap:Array Value) (w:World),(Instr.makeFunc fn first cap).run Tryz.prog w=.ok (.func fn first cap) w:=fun _ _ _ _=>rfl
 by_cases hlong:s.size<=8000
 ·have hst:=jl8 s p w hlong hp
  cases hb:jdm s
  ·have HL:Hid (jh5 s=[]):=j2r hb
   go_enter_defers Tryz.func7,Tryz.ntmps7
   go_wp2_with fail
   refine hst.mono ?_
   intro e w1 h1
   obtain⟨rfl,hbel⟩:=h1.no hb
   clear h1 hst
   refine leaves_cons (f:=10) (args:=#[]) (by simp) (by simp[go_sem]) ?_
   refine(jj4 _ _ [] _).mono ?_
   rintro e u' w'' ⟨rfl,rfl,rfl⟩
   simp only[settle]
   refine⟨_,results_tmp rfl _ _ _,⟨_,rfl,by rw[HL.out];exact World.ownsRow_nil _ _ _ _,hbel⟩⟩
  ·have HL:Hid (jh5 s=(lfs s s.size).1):=jo2 hlong hb
   go_enter_defers Tryz.func7,Tryz.ntmps7
   go_wp2_with fail
   refine hst.mono ?_
   intro e w1 h1
   obtain⟨v,rfl,hown,hbel⟩:=(h1.yes hb).ex
   clear h1 hst
   go_wp2
   refine leaves_cons (f:=10) (args:=#[]) (by simp) (by simp[go_sem]) ?_
   refine(juy _).mono ?_
   rintro e u' w'' ⟨rfl,rfl,rfl⟩
   simp only[settle]
   refine⟨_,results_tmp rfl _ _ _,⟨_,rfl,by rw[HL.out];exact hown,hbel⟩⟩
 ·have HL:Hid (jh5 s=[]):=juk hlong
  go_enter_defers Tryz.func7,Tryz.ntmps7
  go_wp2
  exact⟨_,results_tmp rfl _ _ _,⟨_,rfl,by rw[HL.out];exact World.ownsRow_nil _ _ _ _,Below.refl _ _⟩⟩
end
end Go.Proofs.YtofdpfpdocpbpaaGreatDoor
