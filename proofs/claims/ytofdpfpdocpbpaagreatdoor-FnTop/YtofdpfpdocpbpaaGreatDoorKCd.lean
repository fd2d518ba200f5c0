/- Packed. -/
import Derived.Test.YtofdpfpdocpbpaaGreatDoorKAd
import Derived.Scope
import Derived.WalkMore
import Derived.BigQuiet
import Derived.Test.YtofdpfpdocpbpaaGreatDoorJAd
import Derived.Test.YtofdpfpdocpbpaaGreatDoorSAd
import Derived.Deep.AppendLies
import Derived.Deep.RegionLaw
import Derived.BigRegion
import Derived.Test.YtofdpfpdocpbpaaGreatDoorRightQd
import Derived.Deep.RegionHeld3
set_option maxHeartbeats 20000000
set_option linter.unusedSimpArgs false
namespace Go.Proofs.YtofdpfpdocpbpaaGreatDoor
section
open Go.RowKit
def jfx(K:Nat->Act->World->Prop)(Q:Exit->Act->World->Prop):Exit->Act->World->Prop
 |.goto l,a,w=>K l a w
 |e,a,w=>Q e a w
theorem jlo {P:Program} {a:Act} {w:World} {Q:Exit->Act->World->Prop} {c:Code} (J:Nat->Nat->Act->World->Prop)
  (first:c.wp P (jfx (fun l a w=>∃m,J l m a w) Q) a w)
  (pass:∀l m a w,J l m a w->∃rest,findLabel c l=some rest/\rest.wp P (jfx (fun l' a' w'=>∃m',m'<m/\J l' m' a' w') Q) a w):(Code.scope c).wp P Q a w:=by
 intro b k cs
 have key:∀n l a w,J l n a w->∃e a' w',Q e a' w'/\∃rest,findLabel c l=some rest/\Arrives P (lone (b.at a (.code rest::.inScope c::k)) cs w) b k cs e a' w':=by
  intro n
  induction n using Nat.strongRecOn with
  | _ n ih=>
   intro l a w hJ
   obtain⟨rest,hf,hp⟩:=pass l n a w hJ
   obtain⟨e,a₁,w₁,hq,harr⟩:=hp b (.inScope c::k) cs
   cases e with
   |normal=>exact⟨.normal,a₁,w₁,hq,rest,hf,Steps.trans harr (.one step_inScope)⟩
   |exit id=>exact⟨.exit id,a₁,w₁,hq,rest,hf,fun k' hk=>harr k' (by simp[exitTo,hk])⟩
   |goto l'=>
    obtain⟨m',hlt,hJ'⟩:=hq
    obtain⟨e₂,a₂,w₂,hq₂,rest2,hf2,harr₂⟩:=ih m' hlt l' a₁ w₁ hJ'
    exact⟨e₂,a₂,w₂,hq₂,rest,hf,.of_steps (harr _ (by simp[gotoIn,hf2])) harr₂⟩
   |ret=>exact⟨_,a₁,w₁,hq,rest,hf,harr⟩
   |panic ch=>exact⟨_,a₁,w₁,hq,rest,hf,harr⟩
   |outgrown=>exact⟨_,a₁,w₁,hq,rest,hf,harr⟩
 obtain⟨e,a₁,w₁,hq,harr⟩:=first b (.inScope c::k) cs
 cases e with
 |normal=>exact⟨.normal,a₁,w₁,hq,.head step_scope (Steps.trans harr (.one step_inScope))⟩
 |exit id=>exact⟨.exit id,a₁,w₁,hq,fun k' hk=>.head step_scope (harr k' (by simp[exitTo,hk]))⟩
 |goto l'=>
  obtain⟨m',hJ'⟩:=hq
  obtain⟨e₂,a₂,w₂,hq₂,rest2,hf2,harr₂⟩:=key m' l' a₁ w₁ hJ'
  exact⟨e₂,a₂,w₂,hq₂,.of_steps (.one step_scope) (.of_steps (harr _ (by simp[gotoIn,hf2])) harr₂)⟩
 |ret=>exact⟨_,a₁,w₁,hq,.of_steps (.one step_scope) harr⟩
 |panic ch=>exact⟨_,a₁,w₁,hq,.of_steps (.one step_scope) harr⟩
 |outgrown=>exact⟨_,a₁,w₁,hq,.of_steps (.one step_scope) harr⟩
theorem jo7(w:World)(n:Nat):Below w.heap.size w (w.drewN n):=⟨rfl,rfl,rfl,Nat.le_refl _,fun _ _=>rfl⟩
def j52(c:Int):Int:=if c=10 then 3 else if c=35 then 2 else if c=32\/c=9 then 1 else 0
def jda(t:ByteArray)(k:Nat):Int:=if k=t.size then 3 else j52 (jac t k)
def srcL(t:ByteArray)(k:Nat)(n:Int)(o:Bool)(a b c:Value):List Value:=[.string t,.int .i64 k,.int .i64 n,.bool o,a,b,c]
theorem jx0(t:ByteArray)(k p:Nat)(n:Int)(o:Bool)(a b c:Value)(w:World)(hk:k<=t.size)(hV:Zc w p (srcL t k n o a b c)):
  Calls Tryz.prog 303 #[.pointer (some ⟨p,0,none⟩)] w fun q w'=>q=.returned (.int .i64 (jda t k))/\Below w.heap.size w w':=by
 have c0:=hV.c 0 rfl
 have c1:=hV.c 1 rfl
 have hb:=jaa w
 clear hV
 by_cases he:k=t.size
 ·subst he
  have HK:Hid (jda t t.size=3):=if_pos rfl
  go_enter Tryz.func303,Tryz.ntmps303
  go_wp2
  go_quiet (fail)
  go_wp2
  go_ret
  exact⟨ret_int HK.out.symm,jo7 _ _⟩
 ·have hlt:k<t.size:=by omega
  have HK:Hid (jda t k=j52 (jac t k)):=if_neg he
  have hbe:=jaf t k hlt
  have hbd:=jzg t k
  have h1:((k:Int)==(t.size:Int))=false:=by simp;omega
  go_enter Tryz.func303,Tryz.ntmps303
  go_wp2
  go_quiet (fail)
  go_wp2
  go_quiet (fail)
  generalize jac t k=cc at *
  clear hbe he h1
  go_wp2
  all_goals
   go_ret
   simp only[beq_eq_false_iff_ne,beq_iff_eq,ne_eq]at *
   exact⟨ret_int (by rw[HK.out];unfold j52;simp_all),jo7 _ _⟩
end
section
open Go.RowKit
def js3(t:ByteArray):Nat->Nat->Option Nat
 |0,_=>none
 |n+1,p=>if jda t (p+1)=0 then js3 t n (p+1)else some (p+1)
def lexF(t:ByteArray):Nat->Nat->List ByteArray->Option (List ByteArray × Nat)
 |0,_,_=>none
 |n+1,k,acc=>if jda t k=1 then lexF t n (k+1) acc else if jda t k=0 then(match js3 t t.size k with
  |some e=>lexF t n e (acc++[t.extract k e])
  |none=>none)else if jda t k=3 then some (acc,k)else none
def Lex(t:ByteArray)(k:Nat)(acc:List ByteArray)(R:List ByteArray × Nat):Prop:=∃n,lexF t n k acc=some R
def WEnd(t:ByteArray)(p e:Nat):Prop:=∃n,js3 t n p=some e
theorem Lex.blank{t:ByteArray}{k:Nat}{acc:List ByteArray}{R:List ByteArray × Nat}(h:Lex t k acc R)(hk:jda t k=1):Lex t (k+1) acc R:=by
 obtain⟨n,h⟩:=h
 cases n with
 |zero=>cases h
 |succ n=>simp only[lexF]at h;rw[if_pos hk]at h;exact⟨n,h⟩
theorem Lex.word{t:ByteArray}{k:Nat}{acc:List ByteArray}{R:List ByteArray × Nat}(h:Lex t k acc R)(hk:jda t k=0):∃e,WEnd t k e/\Lex t e (acc++[t.extract k e]) R:=by
 obtain⟨n,h⟩:=h
 cases n with
 |zero=>cases h
 |succ n=>
  simp only[lexF]at h
  rw[if_neg (by rw[hk];decide),if_pos hk]at h
  cases hw:js3 t t.size k with
  |none=>rw[hw]at h;cases h
  |some e=>rw[hw]at h;exact⟨e,⟨_,hw⟩,n,h⟩
theorem Lex.stop{t:ByteArray}{k:Nat}{acc:List ByteArray}{R:List ByteArray × Nat}(h:Lex t k acc R)(h1:¬jda t k=1)(h0:¬jda t k=0):jda t k=3/\R=(acc,k):=by
 obtain⟨n,h⟩:=h
 cases n with
 |zero=>cases h
 |succ n=>
  simp only[lexF]at h
  rw[if_neg h1,if_neg h0]at h
  by_cases h3:jda t k=3
  ·rw[if_pos h3]at h;exact⟨h3,(Option.some.inj h).symm⟩
  ·rw[if_neg h3]at h;cases h
theorem WEnd.more{t:ByteArray}{p e:Nat}(h:WEnd t p e)(hk:jda t (p+1)=0):WEnd t (p+1) e:=by
 obtain⟨n,h⟩:=h
 cases n with
 |zero=>cases h
 |succ n=>simp only[js3]at h;rw[if_pos hk]at h;exact⟨n,h⟩
theorem WEnd.last{t:ByteArray}{p e:Nat}(h:WEnd t p e)(hk:¬jda t (p+1)=0):e=p+1:=by
 obtain⟨n,h⟩:=h
 cases n with
 |zero=>cases h
 |succ n=>simp only[js3]at h;rw[if_neg hk]at h;exact(Option.some.inj h).symm
theorem j1i(t:ByteArray):jda t t.size=3:=if_pos rfl
theorem jp1{t:ByteArray}{k:Nat}(hk:k<=t.size)(h:¬jda t k=3):k<t.size:=by
 rcases Nat.lt_or_ge k t.size with h2|h2
 ·exact h2
 ·exact absurd (by rw[show k=t.size by omega];exact j1i t) h
structure WrdS(w0:World)(p:Nat)(t:ByteArray)(n:Int)(o:Bool)(a b c:Value)(R:List ByteArray × Nat)(k:Nat)(v:Value)(acc:List ByteArray)(w:World):Prop where
 var:Zc w p (srcL t k n o a b c)
 own:w.ownsRow w0.heap.size 9 1 v acc.length (acc.map Value.string)
 grown:w0.grownBy w (some p)
 le:k<=t.size
 small:acc.length<=k
theorem WrdS.below{w0 w w':World}{p k:Nat}{t:ByteArray}{n:Int}{o:Bool}{a b c v:Value}{R:List ByteArray × Nat}{acc:List ByteArray}(h:WrdS w0 p t n o a b c R k v acc w)(hb:Below w.heap.size w w'):WrdS w0 p t n o a b c R k v acc w':=
 ⟨h.var.below hb,jad h.own hb,⟨hb.os.trans h.grown.os,hb.tape.trans h.grown.tape,hb.output.trans h.grown.output,Nat.le_trans h.grown.size hb.size,fun j hj hn=>(hb.block j (Nat.lt_of_lt_of_le hj h.grown.size)).trans (h.grown.block j hj hn)⟩,h.le,h.small⟩
theorem WrdS.step{w0 w:World}{p k:Nat}{t:ByteArray}{n:Int}{o:Bool}{a b c v:Value}{R:List ByteArray × Nat}{acc:List ByteArray}(h:WrdS w0 p t n o a b c R k v acc w)(hk:k<t.size)(hp:p<w0.heap.size):WrdS w0 p t n o a b c R (k+1) v acc (w.setCell ⟨p,1,none⟩ (.int .i64 ((k:Int)+1))):=by
 refine⟨by have:=h.var.set (j:=1) (.int .i64 ((k:Int)+1));simpa [srcL]using this,World.ownsRow.kept h.own (jae w p 1 _) ?_,h.grown.andThen (jae w p 1 _) (fun _ h=>.inr h),hk,by have:=h.small;omega⟩
 cases hv:v.ownBlock with
 |none=>exact .inl rfl
 |some g=>exact .inr (by have:=(World.ownsRow.lt h.own g hv).1;simp;omega)
theorem WrdS.app{w0 w wF:World}{p k:Nat}{t s:ByteArray}{n:Int}{o:Bool}{a b c v v':Value}{R:List ByteArray × Nat}{acc:List ByteArray}(h:WrdS w0 p t n o a b c R k v acc w)(hp:p<w0.heap.size)(hg:w.grownBy wF v.ownBlock)(ho:wF.ownsRow w0.heap.size 9 1 v' (acc.length+1) (acc.map Value.string++[.string s]))(hk:acc.length+1<=k):WrdS w0 p t n o a b c R k v' (acc++[s]) wF:=by
 have hlo:∀g,v.ownBlock=some g->w0.heap.size<=g:=fun g hg=>(World.ownsRow.lt h.own g hg).1
 have hne:some p≠v.ownBlock:=fun e=>by have:=hlo p e.symm;omega
 refine⟨fun i u hu=>?_,?_,h.grown.andThen hg (fun j hj=>.inl (hlo j hj)),h.le,by simp;omega⟩
 ·obtain⟨h1,h2⟩:=h.var i u hu
  exact⟨hg.cell h1 hne,(hg.frozen_far _ (qbl h1) hne).trans h2⟩
 ·rw[List.length_append,List.map_append]
  exact ho
theorem jk7{w:World}{base:Nat}{e:TypeId}{size:Nat}{v:Value}{n:Nat}{xs:List Value}(h:w.ownsRow base e size v n xs):∃a c,v=.slice a n c:=by
 rcases h.2 with⟨rfl,rfl⟩|⟨g,cap,cur,rfl,_⟩
 ·exact⟨_,_,rfl⟩
 ·exact⟨_,_,rfl⟩
structure WdsP(t:ByteArray)(n:Int)(o:Bool)(a b c:Value)(R:List ByteArray × Nat)(p:Nat)(w0:World)(q:Ending)(w:World):Prop where
 ex:∃v,q=.returned v/\WrdS w0 p t n o a b c R R.2 v R.1 w
set_option linter.unusedVariables false in
theorem jmy {P:Program} {a:Act} {w:World} {Q:Exit->Act->World->Prop} {c:Code} {r0 r2 r3:Code} (h0:findLabel c 0=some (Code.skip.seq r0)) (h2:findLabel c 2=some (Code.skip.seq r2)) (h3:findLabel c 3=some (Code.skip.seq r3)) (J0 J2 J3:Nat->Act->World->Prop)
  (p2:∀m a w,J2 m a w->r2.wp P (jfx (fun l a' w'=>∃m',m'<m/\((l=0/\J0 m' a' w')\/(l=2/\J2 m' a' w')\/(l=3/\J3 m' a' w'))) Q) a w)
  (p3:∀m a w,J3 m a w->r3.wp P (jfx (fun l a' w'=>∃m',m'<m/\((l=0/\J0 m' a' w')\/(l=2/\J2 m' a' w')\/(l=3/\J3 m' a' w'))) Q) a w)
  (p0:(∀m M a w,m<M->J3 m a w->r3.wp P (jfx (fun l a' w'=>∃m',m'<M/\((l=0/\J0 m' a' w')\/(l=2/\J2 m' a' w')\/(l=3/\J3 m' a' w'))) Q) a w)->∀m a w,J0 m a w->r0.wp P (jfx (fun l a' w'=>∃m',m'<m/\((l=0/\J0 m' a' w')\/(l=2/\J2 m' a' w')\/(l=3/\J3 m' a' w'))) Q) a w)
  (first:(∀m a w,J0 m a w->r0.wp P (jfx (fun l a' w'=>∃m',(l=0/\J0 m' a' w')\/(l=2/\J2 m' a' w')\/(l=3/\J3 m' a' w')) Q) a w)->c.wp P (jfx (fun l a' w'=>∃m',(l=0/\J0 m' a' w')\/(l=2/\J2 m' a' w')\/(l=3/\J3 m' a' w')) Q) a w):(Code.scope c).wp P Q a w:=by
 have P0:=p0 fun m M a w hm hJ=>wp_mono (p3 m a w hJ) fun e a' w' hq=>by
  cases e with
  |goto l=>obtain⟨m',hm',h⟩:=hq;exact⟨m',by omega,h⟩
  |normal=>exact hq
  |exit id=>exact hq
  |ret=>exact hq
  |panic ch=>exact hq
  |outgrown=>exact hq
 refine jlo (fun l m a w=>(l=0/\J0 m a w)\/(l=2/\J2 m a w)\/(l=3/\J3 m a w)) (first fun m a w hJ=>wp_mono (P0 m a w hJ) fun e a' w' hq=>?_) ?_
 ·cases e with
  |goto l=>obtain⟨m',_,h⟩:=hq;exact⟨m',h⟩
  |normal=>exact hq
  |exit id=>exact hq
  |ret=>exact hq
  |panic ch=>exact hq
  |outgrown=>exact hq
 ·rintro l m a w (⟨rfl,hJ⟩|⟨rfl,hJ⟩|⟨rfl,hJ⟩)
  ·exact⟨_,h0,wp_seq (wp_skip (P0 m a w hJ))⟩
  ·exact⟨_,h2,wp_seq (wp_skip (p2 m a w hJ))⟩
  ·exact⟨_,h3,wp_seq (wp_skip (p3 m a w hJ))⟩
def wJ0(w0:World)(p:Nat)(t:ByteArray)(n:Int)(o:Bool)(a b c:Value)(R:List ByteArray × Nat)(m:Nat)(a':Act)(W:World):Prop:=∃(k:Nat) (acc:List ByteArray) (f:Value) (x4:Value) (x5 x6 x7 x8 x9 x10 x11 x12 x13 x14 x15 x16 x17 x18 x19 x20 x21 x22 x23 x24 x25 x26 x27 x28 x29 x30 x31 x32 x33 x34 x35 x36 x37 x38 x39 x40 x41 x42 x43 x44 x45 x46 x47 x48 x49 x50 x51 x52 x53 x54 x55 x56 x57:Value),a'=({ tmps:=#[.pointer (some ⟨p,0,none⟩),undef,.slice none 0 0,f,x4,x5,x6,x7,x8,x9,x10,x11,x12,x13,x14,x15,x16,x17,x18,x19,x20,x21,x22,x23,x24,x25,x26,x27,x28,x29,x30,x31,x32,x33,x34,x35,x36,x37,x38,x39,x40,x41,x42,x43,x44,x45,x46,x47,x48,x49,x50,x51,x52,x53,x54,x55,x56,x57],defers:=[] }:Act)/\m=2*(t.size-k)+1/\Hid (Lex t k acc R)/\WrdS w0 p t n o a b c R k f acc W
def wJ2(w0:World)(p:Nat)(t:ByteArray)(n:Int)(o:Bool)(a b c:Value)(R:List ByteArray × Nat)(_m:Nat)(a':Act)(W:World):Prop:=∃(k:Nat) (acc:List ByteArray) (f:Value) (x4:Value) (x5 x6 x7 x8 x9 x10 x11 x12 x13 x14 x15 x16 x17 x18 x19 x20 x21 x22 x23 x24 x25 x26 x27 x28 x29 x30 x31 x32 x33 x34 x35 x36 x37 x38 x39 x40 x41 x42 x43 x44 x45 x46 x47 x48 x49 x50 x51 x52 x53 x54 x55 x56 x57:Value),a'=({ tmps:=#[.pointer (some ⟨p,0,none⟩),undef,.slice none 0 0,f,x4,x5,x6,x7,x8,x9,x10,x11,x12,x13,x14,x15,x16,x17,x18,x19,x20,x21,x22,x23,x24,x25,x26,x27,x28,x29,x30,x31,x32,x33,x34,x35,x36,x37,x38,x39,x40,x41,x42,x43,x44,x45,x46,x47,x48,x49,x50,x51,x52,x53,x54,x55,x56,x57],defers:=[] }:Act)/\Hid (R=(acc,k))/\WrdS w0 p t n o a b c R k f acc W
def wJ3(w0:World)(p:Nat)(t:ByteArray)(n:Int)(o:Bool)(a b c:Value)(R:List ByteArray × Nat)(m:Nat)(a':Act)(W:World):Prop:=∃(k b0 e:Nat) (acc:List ByteArray) (f:Value) (x5 x6 x7 x8 x9 x10 x11 x12 x13 x14 x15 x16 x17 x18 x19 x20 x21 x22 x23 x24 x25 x26 x27 x28 x29 x30 x31 x32 x33 x34 x35 x36 x37 x38 x39 x40 x41 x42 x43 x44 x45 x46 x47 x48 x49 x50 x51 x52 x53 x54 x55 x56 x57:Value),a'=({ tmps:=#[.pointer (some ⟨p,0,none⟩),undef,.slice none 0 0,f,.int .i64 b0,x5,x6,x7,x8,x9,x10,x11,x12,x13,x14,x15,x16,x17,x18,x19,x20,x21,x22,x23,x24,x25,x26,x27,x28,x29,x30,x31,x32,x33,x34,x35,x36,x37,x38,x39,x40,x41,x42,x43,x44,x45,x46,x47,x48,x49,x50,x51,x52,x53,x54,x55,x56,x57],defers:=[] }:Act)/\m=2*(t.size-k)/\k<t.size/\b0<=k/\acc.length<=b0/\Hid (WEnd t k e)/\Hid (Lex t e (acc++[t.extract b0 e]) R)/\WrdS w0 p t n o a b c R k f acc W
set_option maxRecDepth 20000 in
theorem jle(t:ByteArray)(k0 p:Nat)(n:Int)(o:Bool)(a b c:Value)(R:List ByteArray × Nat)(w:World)(ht:t.size<=8000)(hV:Zc w p (srcL t k0 n o a b c))(hk0:k0<=t.size)(hL:Lex t k0 [] R):
  Calls Tryz.prog 287 #[.pointer (some ⟨p,0,none⟩)] w (WdsP t n o a b c R p w):=by
 obtain⟨i0,hi,hz0,hz1,hz2⟩:=jnx
 have hpw:p<w.heap.size:=qbl (hV.c 0 rfl)
 have S0:WrdS w p t n o a b c R k0 (.slice none 0 0) [] w:=⟨hV,World.ownsRow_nil _ _ _ _,World.grownBy.refl _ _,hk0,by simp⟩
 have hkd:=fun k W (hk:k<=t.size) h=>jx0 t k p n o a b c W hk h
 clear hV
 go_enter Tryz.func287,Tryz.ntmps287
 go_wp2
 refine jmy rfl rfl rfl (wJ0 w p t n o a b c R) (wJ2 w p t n o a b c R) (wJ3 w p t n o a b c R) ?_ ?_ ?_ ?_
 ·rintro m a' W ⟨k,acc,f,x4,x5,x6,x7,x8,x9,x10,x11,x12,x13,x14,x15,x16,x17,x18,x19,x20,x21,x22,x23,x24,x25,x26,x27,x28,x29,x30,x31,x32,x33,x34,x35,x36,x37,x38,x39,x40,x41,x42,x43,x44,x45,x46,x47,x48,x49,x50,x51,x52,x53,x54,x55,x56,x57,rfl,HR,hS⟩
  dsimp only
  go_wp2
  simp only[jfx]
  go_ret
  have h:=HR.out
  subst h
  refine⟨⟨f,rfl,?_⟩⟩
  exact hS
 ·rintro m a' W ⟨k,b0,e,acc,f,x5,x6,x7,x8,x9,x10,x11,x12,x13,x14,x15,x16,x17,x18,x19,x20,x21,x22,x23,x24,x25,x26,x27,x28,x29,x30,x31,x32,x33,x34,x35,x36,x37,x38,x39,x40,x41,x42,x43,x44,x45,x46,x47,x48,x49,x50,x51,x52,x53,x54,x55,x56,x57,rfl,rfl,hlt,hb0,hac,HW,HL,hS⟩
  dsimp only
  have c1:=hS.var.c 1 rfl
  have f1:=hS.var.f 1 (u:=.int .i64 k) rfl
  have S1:=hS.step hlt hpw
  have hk1:=hkd (k+1) _ hlt S1.var
  clear hS S0
  go_wp2_with fail
  by_cases hkk:jda t (k+1)=0
  ·rw[hkk]at hk1
   have HW2:=hidQ (HW.out.more hkk)
   have hlt2:=jp1 (show k+1<=t.size by omega) (by rw[hkk];decide)
   clear hkk HW hkd
   refine hk1.mono ?_
   rintro q w1 ⟨rfl,hb1⟩
   have S2:=hidQ (S1.below hb1)
   clear S1 hk1 hb1
   go_wp2
   go_step3
   exact⟨_,by omega,.inr (.inr ⟨rfl,_,_,_,_,_,_,_,_,_,_,_,_,_,_,_,_,_,_,_,_,_,_,_,_,_,_,_,_,_,_,_,_,_,_,_,_,_,_,_,_,_,_,_,_,_,_,_,_,_,_,_,_,_,_,_,_,_,_,rfl,rfl,hlt2,by omega,hac,HW2,HL,S2.out⟩)⟩
  ·have he:=HW.out.last hkk
   have hkk2:(jda t (k+1)==0)=false:=by simp[hkk]
   subst he
   generalize jda t (k+1)=kv at *
   clear hkk HW hkd
   refine hk1.mono ?_
   rintro q w1 ⟨rfl,hb1⟩
   have S2:=S1.below hb1
   have c0:=S2.var.c 0 rfl
   have c1:w1.cell? ⟨p,1,none⟩=some (.int .i64 ((k:Int)+1)):=S2.var.c 1 rfl
   have hown:=S2.own
   obtain⟨fa,fc,rfl⟩:=jk7 hown
   have hsz:=S2.grown.size
   have hpl:p<w1.heap.size:=by omega
   have j1:(b0:Int)<=(k:Int)+1:=by omega
   have j2:(k:Int)+1<=(t.size:Int):=by omega
   have j0:(0:Int)<=(b0:Int):=by omega
   have HS:=hidQ S2
   clear S1 hk1 hb1 S2 c1 f1
   have c1:=HS.out.var.c 1 (u:=.int .i64 ((k+1:Nat):Int)) rfl
   have j3:((k+1:Nat):Int)=(k:Int)+1:=by omega
   rw[j3]at c1
   clear j3
   have cN:=ja3 w1.drew [.string (t.extract b0 (k+1))] 9
   go_wp2_with fail
   go_region_law (refine step_append_lies _ (by rfl) (.tmp 34) (.tmp 45) 29 (by rfl) w.heap.size 9 i0 (.string ⟨#[]⟩) 1 16 Tryz.underlying29 hi hz0 hz1 hz2 rfl (by omega) (.slice fa acc.length fc) acc.length (acc.map Value.string) (by rfl) (World.ownsRow.alloc (w:=w1.drew) hown _) ⟨w1.heap.size,0,none⟩ 1 1 [.string (t.extract b0 (k+1))] (by rfl) rfl cN (by intro u hu;simp at hu;subst hu;rfl) (by omega) (by unfold maxLen;omega) (by omega) (by simp;omega) _ rfl ?_;intro g1 cap1 wF hown1 hgrow hat hlt1)
   all_goals
    have b2:=(jaa w1).trans ((qal w1.drew (.cells #[.string (t.extract b0 (k+1))] 9)).mono (Nat.le_refl _))
    have S3:=hidQ ((HS.out.below b2).app hpw hgrow hown1 (by omega))
    clear b2 hown1 hgrow hat hlt1 hown HS c0 c1 cN hi hz0 hz1 hz2
    go_wp2
    go_step3
    exact⟨_,by omega,.inl ⟨rfl,_,_,_,_,_,_,_,_,_,_,_,_,_,_,_,_,_,_,_,_,_,_,_,_,_,_,_,_,_,_,_,_,_,_,_,_,_,_,_,_,_,_,_,_,_,_,_,_,_,_,_,_,_,_,_,_,_,rfl,rfl,HL,S3.out⟩⟩
 ·intro P3
  rintro m a' W ⟨k,acc,f,x4,x5,x6,x7,x8,x9,x10,x11,x12,x13,x14,x15,x16,x17,x18,x19,x20,x21,x22,x23,x24,x25,x26,x27,x28,x29,x30,x31,x32,x33,x34,x35,x36,x37,x38,x39,x40,x41,x42,x43,x44,x45,x46,x47,x48,x49,x50,x51,x52,x53,x54,x55,x56,x57,rfl,rfl,HL,hS⟩
  dsimp only
  have hk1:=hkd k _ hS.le hS.var
  clear hkd S0
  go_wp2_with fail
  by_cases h1:jda t k=1
  ·rw[h1]at hk1
   have HL2:=hidQ (HL.out.blank h1)
   have hlt:=jp1 hS.le (by rw[h1];decide)
   clear h1 HL
   refine hk1.mono ?_
   rintro q w1 ⟨rfl,hb1⟩
   have hS1:=hS.below hb1
   have c1:=hS1.var.c 1 rfl
   have f1:=hS1.var.f 1 (u:=.int .i64 k) rfl
   have S2:=hidQ (hS1.step hlt hpw)
   clear hS hS1 hk1 hb1
   go_wp2
   go_step3
   exact⟨_,by omega,.inl ⟨rfl,_,_,_,_,_,_,_,_,_,_,_,_,_,_,_,_,_,_,_,_,_,_,_,_,_,_,_,_,_,_,_,_,_,_,_,_,_,_,_,_,_,_,_,_,_,_,_,_,_,_,_,_,_,_,_,_,_,rfl,rfl,HL2,S2.out⟩⟩
  by_cases h0:jda t k=0
  ·rw[h0]at hk1
   obtain⟨e,hw,hl⟩:=HL.out.word h0
   have hlt:=jp1 hS.le (by rw[h0];decide)
   have HW:=hidQ hw
   have HL2:=hidQ hl
   clear h1 h0 HL hw hl
   refine hk1.mono ?_
   rintro q w1 ⟨rfl,hb1⟩
   have hS1:=hS.below hb1
   have c1:=hS1.var.c 1 rfl
   have S2:=hidQ hS1
   have hsm:=hS1.small
   clear hS hS1 hk1 hb1
   go_wp2
   go_step3
   rename_i _ hKK
   refine hKK _ _ (P3 (2*(t.size-k)) (2*(t.size-k)+1) _ _ (by omega) ⟨_,_,_,_,_,_,_,_,_,_,_,_,_,_,_,_,_,_,_,_,_,_,_,_,_,_,_,_,_,_,_,_,_,_,_,_,_,_,_,_,_,_,_,_,_,_,_,_,_,_,_,_,_,_,_,_,_,_,rfl,rfl,hlt,Nat.le_refl _,hsm,HW,HL2,S2.out⟩)
  ·obtain⟨h3,hR⟩:=HL.out.stop h1 h0
   rw[h3]at hk1
   have HR:=hidQ hR
   clear h1 h0 h3 HL hR
   refine hk1.mono ?_
   rintro q w1 ⟨rfl,hb1⟩
   have S2:=hidQ (hS.below hb1)
   clear hS hk1 hb1
   go_wp2
   go_step3
   exact⟨0,by omega,.inr (.inl ⟨rfl,_,_,_,_,_,_,_,_,_,_,_,_,_,_,_,_,_,_,_,_,_,_,_,_,_,_,_,_,_,_,_,_,_,_,_,_,_,_,_,_,_,_,_,_,_,_,_,_,_,_,_,_,_,_,_,_,_,rfl,HR,S2.out⟩)⟩
 ·intro P0
  go_wp2
  go_step3
  rename_i _ hKK
  exact hKK _ _ (P0 (2*(t.size-k0)+1) _ _ ⟨_,_,_,_,_,_,_,_,_,_,_,_,_,_,_,_,_,_,_,_,_,_,_,_,_,_,_,_,_,_,_,_,_,_,_,_,_,_,_,_,_,_,_,_,_,_,_,_,_,_,_,_,_,_,_,_,_,rfl,rfl,hL,S0⟩)
end
section
open Go.RowKit
structure RuleW(nm y1 y2 mo on at_ r sv le:ByteArray):Prop where
 m1:nm.size<=8000
 m2:y1.size<=4
 m3:y2.size<=4
 m5:on.size<=8000
 m6:at_.size<=8000
 m7:r.size<=8000
 m8:sv.size<=8000
 m9:le.size<=8000
 k1:digs y1=true
 k2:toB y2=true
 no:(y2.toList==[111,110,108,121])=false
 mo:spO ja6 mo 12=true
 ut:UtcW at_ r
 k7:orCC r=0
 k8:orCC sv=0
def letT(le:ByteArray):ByteArray:=if (le.toList==[45])=true then⟨#[]⟩else le
def jdp(nm y1 y2 mo on r sv le:ByteArray):RuleD:=⟨nm,drN y1,toW y2,1+spN ja6 mo 12,on,orNN r,⟨#[117]⟩,orNN sv,letT le⟩
def jg7(nm y1 y2 mo on at_ sv le:ByteArray):List ByteArray:=[⟨#[82,117,108,101]⟩,nm,y1,y2,⟨#[45]⟩,mo,on,at_,sv,le]
def j3y(nm y1 y2 mo on r sv le:ByteArray):Nat->List Value
 |0=>[.string ⟨#[]⟩,.int .i64 0,.int .i64 0,.int .i64 0,.string ⟨#[]⟩,.int .i64 0,.string ⟨#[]⟩,.int .i64 0,.string ⟨#[]⟩]
 |1=>[.string ⟨#[]⟩,.int .i64 0,.int .i64 0,.int .i64 0,.string ⟨#[]⟩,.int .i64 0,.string ⟨#[]⟩,.int .i64 0,.string ⟨#[]⟩]
 |2=>[.string nm,.int .i64 0,.int .i64 0,.int .i64 0,.string ⟨#[]⟩,.int .i64 0,.string ⟨#[]⟩,.int .i64 0,.string ⟨#[]⟩]
 |3=>[.string nm,.int .i64 (drN y1),.int .i64 0,.int .i64 0,.string ⟨#[]⟩,.int .i64 0,.string ⟨#[]⟩,.int .i64 0,.string ⟨#[]⟩]
 |4=>[.string nm,.int .i64 (drN y1),.int .i64 (toW y2),.int .i64 0,.string ⟨#[]⟩,.int .i64 0,.string ⟨#[]⟩,.int .i64 0,.string ⟨#[]⟩]
 |5=>[.string nm,.int .i64 (drN y1),.int .i64 (toW y2),.int .i64 0,.string ⟨#[]⟩,.int .i64 0,.string ⟨#[]⟩,.int .i64 0,.string ⟨#[]⟩]
 |6=>[.string nm,.int .i64 (drN y1),.int .i64 (toW y2),.int .i64 (1+spN ja6 mo 12),.string ⟨#[]⟩,.int .i64 0,.string ⟨#[]⟩,.int .i64 0,.string ⟨#[]⟩]
 |7=>[.string nm,.int .i64 (drN y1),.int .i64 (toW y2),.int .i64 (1+spN ja6 mo 12),.string on,.int .i64 0,.string ⟨#[]⟩,.int .i64 0,.string ⟨#[]⟩]
 |8=>[.string nm,.int .i64 (drN y1),.int .i64 (toW y2),.int .i64 (1+spN ja6 mo 12),.string on,.int .i64 (orNN r),.string ⟨#[117]⟩,.int .i64 0,.string ⟨#[]⟩]
 |9=>[.string nm,.int .i64 (drN y1),.int .i64 (toW y2),.int .i64 (1+spN ja6 mo 12),.string on,.int .i64 (orNN r),.string ⟨#[117]⟩,.int .i64 (orNN sv),.string ⟨#[]⟩]
 |_=>letW le [.string nm,.int .i64 (drN y1),.int .i64 (toW y2),.int .i64 (1+spN ja6 mo 12),.string on,.int .i64 (orNN r),.string ⟨#[117]⟩,.int .i64 (orNN sv),.string ⟨#[]⟩] 8
theorem jth(nm y1 y2 mo on r sv le:ByteArray):j3y nm y1 y2 mo on r sv le 10=(jdp nm y1 y2 mo on r sv le).cs:=by
 show letW le _ 8=_
 unfold letW jdp letT RuleD.cs
 split<;>rfl
def jrl(b:Nat):List Value:=[.func (.func 26) #[] #[.pointer (some ⟨b+1,0,none⟩)],.func (.func 340) #[] #[.pointer (some ⟨b+2,0,none⟩)],.func (.func 341) #[] #[.pointer (some ⟨b+3,0,none⟩)],.func (.func 342) #[] #[.pointer (some ⟨b+4,0,none⟩)],.func (.func 26) #[] #[.pointer (some ⟨b+5,0,none⟩)],.func (.func 343) #[] #[.pointer (some ⟨b+6,0,none⟩)],.func (.func 340) #[] #[.pointer (some ⟨b+7,0,none⟩)],.func (.func 344) #[] #[.pointer (some ⟨b+9,0,none⟩),.pointer (some ⟨b+8,0,none⟩)],.func (.func 347) #[] #[.pointer (some ⟨b+10,0,none⟩)],.func (.func 349) #[] #[.pointer (some ⟨b+11,0,none⟩)]]
def jb7(b:Nat):List (List Value × TypeId):=[([.string ⟨#[]⟩,.int .i64 0,.int .i64 0,.int .i64 0,.string ⟨#[]⟩,.int .i64 0,.string ⟨#[]⟩,.int .i64 0,.string ⟨#[]⟩],131),([.string ⟨#[82,117,108,101]⟩],9),([.pointer (some ⟨b,0,none⟩)],426),([.pointer (some ⟨b,1,none⟩)],47),([.pointer (some ⟨b,0,none⟩)],428),([.string ⟨#[45]⟩],9),([.pointer (some ⟨b,3,none⟩)],47),([.pointer (some ⟨b,4,none⟩)],426),([.pointer (some ⟨b,5,none⟩)],47),([.pointer (some ⟨b,6,none⟩)],426),([.pointer (some ⟨b,7,none⟩)],47),([.pointer (some ⟨b,8,none⟩)],426),(jrl b,43)]
theorem j0g{nm y1 y2 mo on at_ r sv le:ByteArray}(hR:RuleW nm y1 y2 mo on at_ r sv le)(w:World)(wp:Option Addr)(hw:WAt w wp (jg7 nm y1 y2 mo on at_ sv le)):
  MatK (jrl w.heap.size) (jg7 nm y1 y2 mo on at_ sv le) (fun _=>true) (fun k W=>(jak w (jb7 w.heap.size)).grownBy W (some w.heap.size)/\Zc W w.heap.size (j3y nm y1 y2 mo on r sv le k)) (some ⟨w.heap.size+12,0,none⟩) wp:=by
 have hm:8000<=maxLen:=by decide
 have hB:=jax (jb7 w.heap.size) w
 refine⟨fun k fv s h1 h2=>?_,fun k W hI=>(jex (jb7 w.heap.size) w 12 rfl).grown hI.1 (fun b o h=>by injection h with h;injection h with h;omega),fun k W hI=>VAt.grown (VAt.below hw hB) hI.1 (fun b o h=>?_)⟩
 ·match k,h1,h2 with
  |0,h1,h2=>
   obtain rfl:=Option.some.inj h1
   obtain rfl:=Option.some.inj h2
   refine⟨_,_,rfl,fun _ _=>by kernel_rfl,fun W hI=>?_⟩
   refine(jcw _ ⟨#[82,117,108,101]⟩ _ W (hI.1.cell (jao (jb7 w.heap.size) w 1 rfl) (by simp))).mono ?_
   rintro q w2 ⟨rfl,rfl⟩
   exact⟨by rw[beq_self_eq_true],hI⟩
  |1,h1,h2=>
   obtain rfl:=Option.some.inj h1
   obtain rfl:=Option.some.inj h2
   refine⟨_,_,rfl,fun _ _=>by kernel_rfl,fun W hI=>?_⟩
   refine(jca _ _ w.heap.size 0 _ _ W (hI.1.cell (jao (jb7 w.heap.size) w 2 rfl) (by simp)) hI.2 rfl).mono ?_
   intro q w2 hP
   exact jbh hI.1 hP
  |2,h1,h2=>
   obtain rfl:=Option.some.inj h1
   obtain rfl:=Option.some.inj h2
   refine⟨_,_,rfl,fun _ _=>by kernel_rfl,fun W hI=>?_⟩
   refine(je3 _ _ w.heap.size 1 _ _ W (hI.1.cell (jao (jb7 w.heap.size) w 3 rfl) (by simp)) hI.2 rfl hR.m2).mono ?_
   intro q w2 hP
   rw[hR.k1]at hP
   exact jbh hI.1 hP
  |3,h1,h2=>
   obtain rfl:=Option.some.inj h1
   obtain rfl:=Option.some.inj h2
   refine⟨_,_,rfl,fun _ _=>by kernel_rfl,fun W hI=>?_⟩
   refine(jn3 _ _ w.heap.size _ _ W (hI.1.cell (jao (jb7 w.heap.size) w 4 rfl) (by simp)) hI.2 rfl hR.no hR.m3).mono ?_
   intro q w2 hP
   rw[hR.k2]at hP
   exact jbh hI.1 hP
  |4,h1,h2=>
   obtain rfl:=Option.some.inj h1
   obtain rfl:=Option.some.inj h2
   refine⟨_,_,rfl,fun _ _=>by kernel_rfl,fun W hI=>?_⟩
   refine(jcw _ ⟨#[45]⟩ _ W (hI.1.cell (jao (jb7 w.heap.size) w 5 rfl) (by simp))).mono ?_
   rintro q w2 ⟨rfl,rfl⟩
   exact⟨by rw[beq_self_eq_true],hI⟩
  |5,h1,h2=>
   obtain rfl:=Option.some.inj h1
   obtain rfl:=Option.some.inj h2
   refine⟨_,_,rfl,fun _ _=>by kernel_rfl,fun W hI=>?_⟩
   refine(jjc _ _ w.heap.size 3 _ _ W (hI.1.cell (jao (jb7 w.heap.size) w 6 rfl) (by simp)) hI.2 rfl).mono ?_
   intro q w2 hP
   rw[hR.mo]at hP
   exact jbh hI.1 hP
  |6,h1,h2=>
   obtain rfl:=Option.some.inj h1
   obtain rfl:=Option.some.inj h2
   refine⟨_,_,rfl,fun _ _=>by kernel_rfl,fun W hI=>?_⟩
   refine(jca _ _ w.heap.size 4 _ _ W (hI.1.cell (jao (jb7 w.heap.size) w 7 rfl) (by simp)) hI.2 rfl).mono ?_
   intro q w2 hP
   exact jbh hI.1 hP
  |7,h1,h2=>
   obtain rfl:=Option.some.inj h1
   obtain rfl:=Option.some.inj h2
   refine⟨_,_,rfl,fun _ _=>by kernel_rfl,fun W hI=>?_⟩
   refine(jkf _ r _ _ w.heap.size 6 5 _ _ _ W (hI.1.cell (jao (jb7 w.heap.size) w 9 rfl) (by simp)) (hI.1.cell (jao (jb7 w.heap.size) w 8 rfl) (by simp)) hI.2 rfl rfl (by decide) (by omega) (by omega) (Nat.le_trans hR.m6 hm) (Nat.le_trans hR.m7 hm) hR.ut).mono ?_
   intro q w2 hP
   rw[decide_eq_true hR.k7]at hP
   exact jbh hI.1 hP
  |8,h1,h2=>
   obtain rfl:=Option.some.inj h1
   obtain rfl:=Option.some.inj h2
   refine⟨_,_,rfl,fun _ _=>by kernel_rfl,fun W hI=>?_⟩
   refine(jct _ _ w.heap.size 7 _ _ W (hI.1.cell (jao (jb7 w.heap.size) w 10 rfl) (by simp)) hI.2 rfl (Nat.le_trans hR.m8 hm)).mono ?_
   intro q w2 hP
   rw[decide_eq_true hR.k8]at hP
   exact jbh hI.1 hP
  |9,h1,h2=>
   obtain rfl:=Option.some.inj h1
   obtain rfl:=Option.some.inj h2
   refine⟨_,_,rfl,fun _ _=>by kernel_rfl,fun W hI=>?_⟩
   refine(jhs _ _ w.heap.size 8 _ _ W (hI.1.cell (jao (jb7 w.heap.size) w 11 rfl) (by simp)) hI.2 rfl).mono ?_
   intro q w2 hP
   exact jbh hI.1 hP
  |n+10,h1,_=>simp[jrl]at h1
 ·subst h
  rcases hw with h|⟨b',o',h,hc⟩
  ·simp[jg7]at h
  ·injection h with h
   injection h with h _
   subst h
   have:=qbl (hc 0 _ rfl)
   simp at this
   omega
end
end Go.Proofs.YtofdpfpdocpbpaaGreatDoor
