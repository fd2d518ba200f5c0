/- Packed. -/
import Derived.Test.YtofdpfpdocpbpaaGreatDoorBasePd
import Derived.Laws.OwnMore
import Derived.Lib.QuietBelow
import Derived.Laws.EntriesVeiled
import Derived.Deep.RegionHeld3
set_option maxRecDepth 100000
set_option maxHeartbeats 20000000
set_option linter.unusedSimpArgs false
namespace Go.Proofs.YtofdpfpdocpbpaaGreatDoor
section
open Go.RowKit
structure RuleD where
 name:ByteArray
 lo:Int
 hi:Int
 month:Int
 on:ByteArray
 at_:Int
 of:ByteArray
 save:Int
 letter:ByteArray
def RuleD.cs(r:RuleD):List Value:=[.string r.name,.int .i64 r.lo,.int .i64 r.hi,.int .i64 r.month,.string r.on,.int .i64 r.at_,.string r.of,.int .i64 r.save,.string r.letter]
def RuleD.v(r:RuleD):Value:=.agg #[.string r.name,.int .i64 r.lo,.int .i64 r.hi,.int .i64 r.month,.string r.on,.int .i64 r.at_,.string r.of,.int .i64 r.save,.string r.letter]
def Zd(w:World)(a:Option Addr)(k:Nat)(rows:List (List Value)):Prop:=
 rows=[]\/∃b o,a=some ⟨b,o,none⟩/\∀i j r c,rows[i]? =some r->r[j]? =some c->w.cell? ⟨b,o+i*k+j,none⟩=some c
def RuleD.ok(r:RuleD):Prop:=r.name.size<=maxLen/\r.on.size<=maxLen/\r.of.size<=maxLen/\r.letter.size<=maxLen
theorem Zd.at{w:World}{a:Option Addr}{k:Nat}{rows:List (List Value)}(h:Zd w a k rows){i:Nat}{r:List Value}(hi:rows[i]? =some r):∃b o,a=some ⟨b,o,none⟩/\∀j c,r[j]? =some c->w.cell? ⟨b,o+i*k+j,none⟩=some c:=by
 rcases h with rfl|⟨b,o,ha,hc⟩
 ·simp at hi
 ·exact⟨b,o,ha,fun j c hj=>hc i j r c hi hj⟩
theorem Zd.below{w w':World}{a:Option Addr}{k:Nat}{rows:List (List Value)}(h:Zd w a k rows)(hb:Below w.heap.size w w'):Zd w' a k rows:=by
 rcases h with h|⟨b,o,ha,hc⟩
 ·exact .inl h
 ·exact .inr ⟨b,o,ha,fun i j r c hi hj=>by
   have:=hc i j r c hi hj
   rw[(jal hb).1 _ _ (qbl this)];exact this⟩
end
section
open Go.RowKit
def Room(w:World)(g m:Nat):Prop:=∀x,x<m->(∃v,w.cell? ⟨g,x,none⟩=some v)/\w.frozen? ⟨g,x,none⟩=false
theorem Room.set{w:World}{g m:Nat}(h:Room w g m)(a:Addr)(v:Value):Room (w.setCell a v) g m:=fun x hx=>by
 obtain⟨⟨u,hu⟩,hf⟩:=h x hx
 exact⟨cell?_setCell_some hu,by rw[World.frozen?_setCell];exact hf⟩
theorem j5d{w:World}{base g n q:Nat}{e:TypeId}{xs:List Value}(h:w.ownsRow base e q (.slice (some ⟨g,0,none⟩) n n) n xs):Room w g (n*q):=by
 rcases h.2 with⟨h0,_⟩|⟨g',cap,cur,h1,_,hh,_,_,hs,_⟩
 ·cases h0
 ·injection h1 with h1 h2 h3
  injection h1 with h1
  injection h1 with h1
  subst h1 h3
  intro x hx
  have hx':x<cur.size:=by omega
  exact⟨⟨cur[x],by simp[World.cell?,hh,hx']⟩,by simp[World.frozen?,hh]⟩
end
section
open Go.RowKit Go.Sort
structure EventD where
 id:Int
 name:ByteArray
 zone:ByteArray
 wall:Int
 gap:Int
 fold:Int
def EventD.cs(r:EventD):List Value:=[.int .i64 r.id,.string r.name,.string r.zone,.int .i64 r.wall,.int .i64 r.gap,.int .i64 r.fold]
def EventD.v(r:EventD):Value:=.agg #[.int .i64 r.id,.string r.name,.string r.zone,.int .i64 r.wall,.int .i64 r.gap,.int .i64 r.fold]
end
section
open Go.RowKit Go.Sort
structure VersionD where
 tx:Int
 gone:Bool
 id:Int
 name:ByteArray
 zone:ByteArray
 wall:Int
 gap:Int
 fold:Int
def VersionD.cs(r:VersionD):List Value:=[.int .i64 r.tx,.bool r.gone,.int .i64 r.id,.string r.name,.string r.zone,.int .i64 r.wall,.int .i64 r.gap,.int .i64 r.fold]
def VersionD.v(r:VersionD):Value:=.agg #[.int .i64 r.tx,.bool r.gone,.int .i64 r.id,.string r.name,.string r.zone,.int .i64 r.wall,.int .i64 r.gap,.int .i64 r.fold]
def VersionD.ok(r:VersionD):Prop:=r.name.size<=maxLen/\r.zone.size<=maxLen
theorem ji0:∃i:TypeInfo,Tryz.prog.info? 101=some i/\i.zero=some (.agg #[.int .i64 0,.bool false,.int .i64 0,.string ⟨#[]⟩,.string ⟨#[]⟩,.int .i64 0,.int .i64 0,.int .i64 0])/\i.size=8/\i.bytes=80:=⟨_,rfl,rfl,rfl,rfl⟩
end
section
open Go.RowKit Go.Sort
structure EntryD where
 at_:Int
 id:Int
def EntryD.cs(r:EntryD):List Value:=[.int .i64 r.at_,.int .i64 r.id]
def EntryD.v(r:EntryD):Value:=.agg #[.int .i64 r.at_,.int .i64 r.id]
theorem jnw:∃i:TypeInfo,Tryz.prog.info? 108=some i/\i.zero=some (.agg #[.int .i64 0,.int .i64 0])/\i.size=2/\i.bytes=16:=⟨_,rfl,rfl,rfl,rfl⟩
end
section
open Go.RowKit Go.Sort
structure EraD where
 offset:Int
 rules:ByteArray
 save:Int
 format:ByteArray
 until_:Int
 of:ByteArray
def EraD.cs(r:EraD):List Value:=[.int .i64 r.offset,.string r.rules,.int .i64 r.save,.string r.format,.int .i64 r.until_,.string r.of]
def EraD.v(r:EraD):Value:=.agg #[.int .i64 r.offset,.string r.rules,.int .i64 r.save,.string r.format,.int .i64 r.until_,.string r.of]
def EraD.ok(r:EraD):Prop:=r.rules.size<=maxLen/\r.format.size<=maxLen/\r.of.size<=maxLen
theorem jp4:∃i:TypeInfo,Tryz.prog.info? 148=some i/\i.zero=some (.agg #[.int .i64 0,.string ⟨#[]⟩,.int .i64 0,.string ⟨#[]⟩,.int .i64 0,.string ⟨#[]⟩])/\i.size=6/\i.bytes=72:=⟨_,rfl,rfl,rfl,rfl⟩
end
section
open Go.RowKit Go.Sort
structure LinkD where
 to_:ByteArray
 name:ByteArray
def LinkD.cs(r:LinkD):List Value:=[.string r.to_,.string r.name]
def LinkD.v(r:LinkD):Value:=.agg #[.string r.to_,.string r.name]
def LinkD.ok(r:LinkD):Prop:=r.to_.size<=maxLen/\r.name.size<=maxLen
theorem j1p:∃i:TypeInfo,Tryz.prog.info? 140=some i/\i.zero=some (.agg #[.string ⟨#[]⟩,.string ⟨#[]⟩])/\i.size=2/\i.bytes=32:=⟨_,rfl,rfl,rfl,rfl⟩
end
section
open Go.RowKit Go.Sort
theorem jsb:∃i:TypeInfo,Tryz.prog.info? 131=some i/\i.zero=some (.agg #[.string ⟨#[]⟩,.int .i64 0,.int .i64 0,.int .i64 0,.string ⟨#[]⟩,.int .i64 0,.string ⟨#[]⟩,.int .i64 0,.string ⟨#[]⟩])/\i.size=9/\i.bytes=104:=⟨_,rfl,rfl,rfl,rfl⟩
end
section
open Go.RowKit Go.Sort
structure ZoneD where
 name:ByteArray
 eras:List EraD
def ZoneD.ok(z:ZoneD):Prop:=z.name.size<=maxLen/\z.eras.length<=maxLen/\∀r∈z.eras,r.ok
def EraSl(w:World)(v:Value)(es:List EraD):Prop:=∃a cap,v=.slice a es.length cap/\Zd w a 6 (es.map EraD.cs)
theorem EraSl.below{w w':World}{v:Value}{es:List EraD}(h:EraSl w v es)(hb:Below w.heap.size w w'):EraSl w' v es:=by
 obtain⟨a,cap,rfl,hA⟩:=h
 exact⟨a,cap,rfl,hA.below hb⟩
def Zy(w:World)(a:Option Addr)(zs:List ZoneD):Prop:=
 zs=[]\/∃b o,a=some ⟨b,o,none⟩/\∀i z,zs[i]? =some z->w.cell? ⟨b,o+i*2,none⟩=some (.string z.name)/\∃v,w.cell? ⟨b,o+i*2+1,none⟩=some v/\EraSl w v z.eras
theorem Zy.below{w w':World}{a:Option Addr}{zs:List ZoneD}(h:Zy w a zs)(hb:Below w.heap.size w w'):Zy w' a zs:=by
 rcases h with h|⟨b,o,ha,hc⟩
 ·exact .inl h
 ·refine .inr ⟨b,o,ha,fun i z hi=>?_⟩
  obtain⟨c0,v,c1,he⟩:=hc i z hi
  have hlt:=qbl c0
  exact⟨by rw[(jal hb).1 _ _ hlt];exact c0,v,by rw[(jal hb).1 _ _ hlt];exact c1,he.below hb⟩
theorem Zy.at{w:World}{a:Option Addr}{zs:List ZoneD}(h:Zy w a zs){i:Nat}{z:ZoneD}(hi:zs[i]? =some z):∃b o,a=some ⟨b,o,none⟩/\w.cell? ⟨b,o+i*2,none⟩=some (.string z.name)/\∃v,w.cell? ⟨b,o+i*2+1,none⟩=some v/\EraSl w v z.eras:=by
 rcases h with rfl|⟨b,o,ha,hc⟩
 ·simp at hi
 ·exact⟨b,o,ha,hc i z hi⟩
end
section
open Go.RowKit Go.Sort
theorem Zd.keep{w w':World}{g k:Nat}{rows:List (List Value)}(h:Zd w (some ⟨g,0,none⟩) k rows)(hk:∀x,w'.cell? ⟨g,x,none⟩=w.cell? ⟨g,x,none⟩):Zd w' (some ⟨g,0,none⟩) k rows:=by
 rcases h with h|⟨b,o,ha,hc⟩
 ·exact .inl h
 ·injection ha with ha
  injection ha with h1 h2
  subst h1 h2
  exact .inr ⟨g,0,rfl,fun i j r c hi hj=>by rw[hk];exact hc i j r c hi hj⟩
theorem jpt{p q i j:Nat}(h:q≠p):(⟨q,i,none⟩:Addr)≠⟨p,j,none⟩:=fun e=>h (by injection e)
theorem jpo{w:World}{b:Nat}{x0 x1 v0 v1:Value}(h0:w.cell? ⟨b,0,none⟩=some x0)(h1:w.cell? ⟨b,1,none⟩=some x1):
  ((w.setCell ⟨b,0,none⟩ v0).setCell ⟨b,1,none⟩ v1).cell? ⟨b,0,none⟩=some v0/\((w.setCell ⟨b,0,none⟩ v0).setCell ⟨b,1,none⟩ v1).cell? ⟨b,1,none⟩=some v1:=by
 refine⟨?_,?_⟩
 ·rw[World.cell?_setCell_other _ _ _ _ (by simp),World.cell?_setCell_same _ _ _ h0]
 ·refine World.cell?_setCell_same _ _ _ (u:=x1) ?_
  rw[World.cell?_setCell_other _ _ _ _ (by simp)];exact h1
theorem jsa:∃i:TypeInfo,Tryz.prog.info? 136=some i/\i.zero=some (.agg #[.string ⟨#[]⟩,.slice none 0 0])/\i.size=2/\i.bytes=40:=⟨_,rfl,rfl,rfl,rfl⟩
end
section
open Go.RowKit Go.Sort
structure RelD where
 rules:List RuleD
 zones:List ZoneD
 links:List LinkD
def RelD.ok(r:RelD):Prop:=(r.rules.length<=maxLen/\∀x∈r.rules,x.ok)/\(r.zones.length<=maxLen/\∀x∈r.zones,x.ok)/\(r.links.length<=maxLen/\∀x∈r.links,x.ok)
structure Zi(w:World)(v:Value)(r:RelD):Prop where
 form:∃a b c ca cb cc,v=.agg #[.slice a r.rules.length ca,.slice b r.zones.length cb,.slice c r.links.length cc]/\Zd w a 9 (r.rules.map RuleD.cs)/\Zy w b r.zones/\Zd w c 2 (r.links.map LinkD.cs)
theorem Zi.below{w w':World}{v:Value}{r:RelD}(h:Zi w v r)(hb:Below w.heap.size w w'):Zi w' v r:=by
 obtain⟨a,b,c,ca,cb,cc,hv,h1,h2,h3⟩:=h.form
 exact⟨a,b,c,ca,cb,cc,hv,h1.below hb,h2.below hb,h3.below hb⟩
end
section
open Go.RowKit Go.Sort
def From(B:Nat)(w w':World):Prop:=∀g x,B<=g->w'.cell? ⟨g,x,none⟩=w.cell? ⟨g,x,none⟩/\w'.frozen? ⟨g,x,none⟩=w.frozen? ⟨g,x,none⟩
theorem From.set{B:Nat}{w w':World}(h:From B w w'){p i:Nat}(hp:p<B)(v:Value):From B w (w'.setCell ⟨p,i,none⟩ v):=fun g x hg=>
 ⟨by rw[World.cell?_setCell_other _ _ _ _ (jpt (by omega))];exact(h g x hg).1,by rw[World.frozen?_setCell];exact(h g x hg).2⟩
theorem From.refl(B:Nat)(w:World):From B w w:=fun _ _ _=>⟨rfl,rfl⟩
theorem jwi{w:World}{b:Nat}{x0 x1 x2 v0 v1 v2:Value}(h0:w.cell? ⟨b,0,none⟩=some x0)(h1:w.cell? ⟨b,1,none⟩=some x1)(h2:w.cell? ⟨b,2,none⟩=some x2):
  (((w.setCell ⟨b,0,none⟩ v0).setCell ⟨b,1,none⟩ v1).setCell ⟨b,2,none⟩ v2).cell? ⟨b,0,none⟩=some v0/\(((w.setCell ⟨b,0,none⟩ v0).setCell ⟨b,1,none⟩ v1).setCell ⟨b,2,none⟩ v2).cell? ⟨b,1,none⟩=some v1/\(((w.setCell ⟨b,0,none⟩ v0).setCell ⟨b,1,none⟩ v1).setCell ⟨b,2,none⟩ v2).cell? ⟨b,2,none⟩=some v2:=by
 refine⟨?_,?_,?_⟩
 ·rw[World.cell?_setCell_other _ _ _ _ (by simp),World.cell?_setCell_other _ _ _ _ (by simp),World.cell?_setCell_same _ _ _ h0]
 ·rw[World.cell?_setCell_other _ _ _ _ (by simp)]
  refine World.cell?_setCell_same _ _ _ (u:=x1) ?_
  rw[World.cell?_setCell_other _ _ _ _ (by simp)];exact h1
 ·refine World.cell?_setCell_same _ _ _ (u:=x2) ?_
  rw[World.cell?_setCell_other _ _ _ _ (by simp),World.cell?_setCell_other _ _ _ _ (by simp)];exact h2
def RelD.small(r:RelD):Prop:=r.rules.length<=1048576/\r.zones.length<=1048576/\r.links.length<=1048576/\∀z∈r.zones,z.eras.length<=1048576
end
section
open Go.RowKit Go.Sort
structure TurnD where
 at_:Int
 offset:Int
 save:Int
 abbr:ByteArray
def TurnD.cs(r:TurnD):List Value:=[.int .i64 r.at_,.int .i64 r.offset,.int .i64 r.save,.string r.abbr]
def TurnD.v(r:TurnD):Value:=.agg #[.int .i64 r.at_,.int .i64 r.offset,.int .i64 r.save,.string r.abbr]
def TurnD.ok(r:TurnD):Prop:=r.abbr.size<=maxLen
end
section
open Go.RowKit Go.Sort
def Je(w:World)(v:Value)(l:List TurnD):Prop:=∃a cap,v=.agg #[.slice a l.length cap]/\Zd w a 4 (l.map TurnD.cs)
theorem Je.below{w w':World}{v:Value}{l:List TurnD}(h:Je w v l)(hb:Below w.heap.size w w'):Je w' v l:=by
 obtain⟨a,cap,rfl,hA⟩:=h
 exact⟨a,cap,rfl,hA.below hb⟩
theorem jdc{p q i j:Nat}(h:p≠q):(⟨p,i,none⟩:Addr)≠⟨q,j,none⟩:=fun e=>by injection e with e1;exact h e1
end
section
open Go.RowKit
def jcd(t:TurnD):Bool:=isB t.offset (-100000) 100000&&(isB t.save (-7200) 7200&&decide (t.abbr.size<=20))
theorem turn_no1{t:TurnD}(h:isB t.offset (-100000) 100000=false):jcd t=false:=by unfold jcd;rw[h];rfl
theorem turn_no2{t:TurnD}(h:isB t.save (-7200) 7200=false):jcd t=false:=by unfold jcd;rw[h];simp
theorem turn_no3{t:TurnD}(h:¬t.abbr.size<=20):jcd t=false:=by unfold jcd;rw[decide_eq_false h];simp
theorem turn_yes{t:TurnD}(h1:isB t.offset (-100000) 100000=true)(h2:isB t.save (-7200) 7200=true)(h3:t.abbr.size<=20):jcd t=true:=by unfold jcd;rw[h1,h2,decide_eq_true h3];rfl
def upT:List TurnD->Bool
 |[]=>true
 |[_]=>true
 |x::y::l=>decide (x.at_<y.at_)&&upT (y::l)
theorem j3m{es:List TurnD}:∀{i:Nat} {x y:TurnD},es[i]? =some x->es[i+1]? =some y->¬x.at_<y.at_->upT es=false:=by
 induction es with
 |nil=>intro i x y h;simp at h
 | cons a l ih=>
  intro i x y hx hy hn
  match l,i with
  |[],_=>simp at hy
  |b::l,0=>
   simp at hx hy
   subst hx hy
   simp[upT,hn]
  |b::l,i+1=>
   have:=ih (i:=i) (x:=x) (y:=y) (by simpa using hx) (by simpa using hy) hn
   simp only[upT,this,Bool.and_false]
theorem jvo{es:List TurnD}(h:∀i x y,es[i]? =some x->es[i+1]? =some y->x.at_<y.at_):upT es=true:=by
 induction es with
 |nil=>rfl
 | cons a l ih=>
  match l with
  |[]=>rfl
  |b::l=>
   have h0:=h 0 a b rfl rfl
   have:=ih fun i x y hx hy=>h (i+1) x y (by simpa using hx) (by simpa using hy)
   simp only[upT,this,decide_eq_true h0,Bool.and_true]
theorem j7p{es:List TurnD}(h:upT es=true){i:Nat}{x y:TurnD}(hx:es[i]? =some x)(hy:es[i+1]? =some y):x.at_<y.at_:=by
 by_cases hn:x.at_<y.at_
 ·exact hn
 ·rw[j3m hx hy hn]at h;cases h
theorem j7q{es:List TurnD}(h:upT es=true){i:Nat}{x:TurnD}(hx:es[i]? =some x):∀(d:Nat) {y:TurnD},es[i+d]? =some y->x.at_<=y.at_:=by
 intro d
 induction d with
 |zero=>intro y hy;rw[Nat.add_zero,hx]at hy;obtain rfl:=Option.some.inj hy;exact Int.le_refl _
 |succ d ih=>
  intro y hy
  have hlt:=(List.getElem?_eq_some_iff.mp hy).1
  obtain⟨z,hz⟩:∃z,es[i+d]? =some z:=⟨_,List.getElem?_eq_getElem (by omega)⟩
  have h1:=ih hz
  have h2:=j7p h hz (y:=y) (by rw[show i+d+1=i+(d+1) by omega];exact hy)
  omega
theorem jpg{es:List TurnD}(h:upT es=true){i j:Nat}(hij:i<=j){x y:TurnD}(hx:es[i]? =some x)(hy:es[j]? =some y):x.at_<=y.at_:=
 j7q h hx (j-i) (by rw[show i+(j-i)=j by omega];exact hy)
def jo0(l:List TurnD):Bool:=match l[0]?,l[l.length-1]? with
 |some a,some b=>(a.at_== -62135596800)&&decide (b.at_<=253402300799)
 |_,_=>false
def tabB(l:List TurnD):Bool:=decide (1<=l.length/\l.length<=600)&&(l.all jcd&&(upT l&&jo0 l))
theorem jv2{l:List TurnD}(h:¬(1<=l.length/\l.length<=600)):tabB l=false:=by unfold tabB;rw[decide_eq_false h];rfl
theorem j42{l:List TurnD}(h:l.all jcd=false):tabB l=false:=by unfold tabB;rw[h];simp
theorem jv1{l:List TurnD}(h:upT l=false):tabB l=false:=by unfold tabB;rw[h];simp
theorem jv0{l:List TurnD}(h:jo0 l=false):tabB l=false:=by unfold tabB;rw[h];simp
theorem jrg{l:List TurnD}(h1:1<=l.length/\l.length<=600)(h2:l.all jcd=true)(h3:upT l=true):tabB l=jo0 l:=by unfold tabB;rw[decide_eq_true h1,h2,h3];simp
theorem jyw{l:List TurnD}{n:Nat}{a b:TurnD}(hn:l.length=n+1)(ha:l[0]? =some a)(hb:l[n]? =some b):jo0 l=((a.at_== -62135596800)&&decide (b.at_<=253402300799)):=by
 unfold jo0
 rw[show l.length-1=n by omega,ha,hb]
theorem jv4{l:List TurnD}{a:TurnD}(ha:l[0]? =some a)(h:a.at_≠ -62135596800):tabB l=false:=by
 apply jv0
 unfold jo0
 rw[ha]
 cases l[l.length-1]? with
 |none=>rfl
 |some b=>simp[h]
theorem j41{l:List TurnD}{k:Nat}{x:TurnD}(hx:l[k]? =some x)(h:253402300799<x.at_):tabB l=false:=by
 cases hu:upT l
 ·exact jv1 hu
 ·apply jv0
  have hk:=(List.getElem?_eq_some_iff.mp hx).1
  obtain⟨b,hb⟩:∃b,l[l.length-1]? =some b:=⟨_,List.getElem?_eq_getElem (by omega)⟩
  have:=jpg hu (show k<=l.length-1 by omega) hx hb
  unfold jo0
  rw[hb]
  cases l[0]? with
  |none=>rfl
  |some a=>simp;omega
structure TabR(l:List TurnD):Prop where
 len:1<=l.length/\l.length<=600
 up:upT l=true
 first:∀a,l[0]? =some a->a.at_= -62135596800
 top:∀(k:Nat) x,l[k]? =some x->x.at_<=253402300799
 one:∀x∈l,jcd x=true
theorem j7w{l:List TurnD}(h:tabB l=true):TabR l:=by
 have hh:=h
 unfold tabB at h
 simp only[Bool.and_eq_true,decide_eq_true_eq,List.all_eq_true]at h
 obtain⟨h1,h2,h3,h4⟩:=h
 refine⟨h1,h3,fun a ha=>?_,fun k x hx=>?_,h2⟩
 ·by_cases e:a.at_= -62135596800
  ·exact e
  ·rw[jv4 ha e]at hh;cases hh
 ·by_cases e:x.at_<=253402300799
  ·exact e
  ·rw[j41 hx (by omega)]at hh;cases hh
end
section
open Go.RowKit
theorem ji6(n:Int)(w:World):
  Calls Tryz.prog 114 #[.int .i64 n] w fun e w'=>e=.returned (.bool (isB n (-7200) 7200))/\w'=w:=by
 by_cases h: -7200<=n
 ·go_enter Tryz.func114,Tryz.ntmps114
  go_wp2
  go_ret
  exact⟨ret_bool (by unfold isB;simp[h]),rfl⟩
 ·go_enter Tryz.func114,Tryz.ntmps114
  go_wp2
  go_ret
  exact⟨ret_bool (jhl (by omega)).symm,rfl⟩
theorem jkd(t:TurnD)(w:World)(ok:t.ok):
  Calls Tryz.prog 218 #[t.v] w fun e w'=>e=.returned (.bool (jcd t))/\Below w.heap.size w w':=by
 obtain⟨at_,offset,save,abbr⟩:=t
 unfold TurnD.ok maxLen at ok
 have hS:=fun w=>ji6 save w
 have N1:=@turn_no1 ⟨at_,offset,save,abbr⟩
 have N2:=@turn_no2 ⟨at_,offset,save,abbr⟩
 have N3:=@turn_no3 ⟨at_,offset,save,abbr⟩
 have Y:=@turn_yes ⟨at_,offset,save,abbr⟩
 generalize jcd ⟨at_,offset,save,abbr⟩=b at *
 simp only[TurnD.v]at *
 by_cases h1: -100000<=offset
 ·by_cases h2:offset<=100000
  ·have h12:=jnu h1 h2
   cases h3:isB save (-7200) 7200
   ·have HR:Hid (b=false):=N2 h3
    rw[h3]at hS
    clear N1 N2 N3 Y h12 h3
    go_enter Tryz.func218,Tryz.ntmps218
    go_wp2_with (go_at_call 114;refine(hS _).mono ?_;rintro e w' ⟨rfl,rfl⟩)
    go_ret
    exact⟨ret_bool HR.out.symm,qal _ _⟩
   ·rw[h3]at hS
    have HR:Hid (b=decide (abbr.size<=20)):=by
     by_cases h4:abbr.size<=20
     ·exact(Y h12 h3 h4).trans (decide_eq_true h4).symm
     ·exact(N3 h4).trans (decide_eq_false h4).symm
    clear N1 N2 N3 Y h12 h3
    go_enter Tryz.func218,Tryz.ntmps218
    go_wp2_with (go_at_call 114;refine(hS _).mono ?_;rintro e w' ⟨rfl,rfl⟩)
    go_ret
    exact⟨ret_bool (by rw[HR.out];simp;omega),qal _ _⟩
  ·have HR:Hid (b=false):=N1 (jhl (by simp;omega))
   clear N1 N2 N3 Y
   go_enter Tryz.func218,Tryz.ntmps218
   go_wp2_with (go_at_call 114;refine(hS _).mono ?_;rintro e w' ⟨rfl,rfl⟩)
   go_ret
   exact⟨ret_bool HR.out.symm,qal _ _⟩
 ·have HR:Hid (b=false):=N1 (jhl (by simp;omega))
  clear N1 N2 N3 Y
  go_enter Tryz.func218,Tryz.ntmps218
  go_wp2_with (go_at_call 114;refine(hS _).mono ?_;rintro e w' ⟨rfl,rfl⟩)
  go_ret
  exact⟨ret_bool HR.out.symm,qal _ _⟩
theorem j67{α:Type}{l:List α}{p:α->Bool}{k:Nat}{x:α}(hk:l[k]? =some x)(h:p x=false):l.all p=false:=by
 rw[List.all_eq_false]
 exact⟨x,List.mem_of_getElem? hk,by simp[h]⟩
theorem j3e{α:Type}{l:List α}{p:α->Bool}(h:∀j,j<l.length->∀x,l[j]? =some x->p x=true):l.all p=true:=by
 rw[List.all_eq_true]
 intro x hx
 obtain⟨j,hj⟩:=List.getElem?_of_mem hx
 exact h j (List.getElem?_eq_some_iff.mp hj).1 x hj
theorem jok(l:List TurnD)(a:Option Addr)(cap:Nat)(w:World)(hA:Zd w a 4 (l.map TurnD.cs))(hok:∀r∈l,r.ok)(hl:l.length<=1048576):
  Calls Tryz.prog 217 #[.slice a l.length cap,.func (.func 218) #[] #[]] w fun e w'=>e=.returned (.bool (l.all jcd))/\Below w.heap.size w w':=by
 go_enter Tryz.func217,Tryz.ntmps217
 go_wp2
 go_loopw [9] (fun i wr=>∃k:Nat,k<=l.length/\i=.int .i64 k/\Hid (∀j,j<k->∀x,l[j]? =some x->jcd x=true)/\Below w.heap.size w wr) (fun i _=>l.length-(intOf i).toNat)
 case atStart=>exact⟨0,by omega,rfl,fun j hj=>by omega,Below.refl _ _⟩
 case round=>
  obtain⟨k,hk,rfl,hall,hB⟩:=hrel
  by_cases hlt:k<l.length
  ·obtain⟨r,hr⟩:=qgg hlt
   have hrow:(l.map TurnD.cs)[k]? =some r.cs:=by rw[List.getElem?_map,hr];rfl
   obtain⟨b,o,rfl,hc⟩:=(hA.below hB).at (i:=k) hrow
   have ok:=hok r (List.mem_of_getElem? hr)
   have hS:=fun w=>jkd r w ok
   have c0:wr.cell? ⟨b,o+k*4,none⟩=some (.int .i64 r.at_):=hc 0 _ rfl
   have c1:=hc 1 _ rfl
   have c2:=hc 2 _ rfl
   have c3:=hc 3 _ rfl
   clear hc
   unfold TurnD.v at hS
   cases hb:jcd r
   ·have HR:Hid (l.all jcd=false):=j67 hr hb
    rw[hb]at hS
    clear hb
    go_wp2_with fail
    refine(hS _).mono ?_
    rintro e w2 ⟨rfl,hb2⟩
    go_wp2
    go_ret
    exact⟨ret_bool HR.out.symm,(hB.alloc hB.size _).trans (hb2.mono (by simp;have:=hB.size;omega))⟩
   ·have HR:Hid (∀j,j<k+1->∀x,l[j]? =some x->jcd x=true):=fun j hj x hx=>by
     by_cases e:j=k
     ·subst e;rw[hr]at hx;obtain rfl:=Option.some.inj hx;exact hb
     ·exact hall.out j (by omega) x hx
    rw[hb]at hS
    clear hb
    go_wp2_with fail
    refine(hS _).mono ?_
    rintro e w2 ⟨rfl,hb2⟩
    go_wp2
    go_roundw
    case rel=>exact⟨k+1,by omega,by go_num,HR,(hB.alloc hB.size _).trans (hb2.mono (by simp;have:=hB.size;omega))⟩
    case measure=>simp[intOf];omega
  ·have e:k=l.length:=by omega
   subst e
   have HR:Hid (l.all jcd=true):=j3e hall.out
   go_wp2
   go_ret
   exact⟨ret_bool HR.out.symm,hB⟩
theorem jjo(l:List TurnD)(v:Value)(w:World)(hv:Je w v l)(hok:∀r∈l,r.ok)(hl:l.length<=1048576):
  Calls Tryz.prog 172 #[v] w fun e w'=>e=.returned (.bool (tabB l))/\Below w.heap.size w w':=by
 obtain⟨a,cap,rfl,hA⟩:=hv
 have hB0:=fun o=>qal w o
 by_cases hl0:l.length<1
 ·rw[jv2 (by omega)]
  go_enter Tryz.func172,Tryz.ntmps172
  go_wp2
  go_ret
  exact⟨rfl,hB0 _⟩
 by_cases hl8:600<l.length
 ·rw[jv2 (by omega)]
  go_enter Tryz.func172,Tryz.ntmps172
  go_wp2
  go_ret
  exact⟨rfl,hB0 _⟩
 have h2:=fun w (h:Zd w a 4 (l.map TurnD.cs))=>jok l a cap w h hok (by omega)
 cases ha:l.all jcd
 ·rw[j42 ha]
  rw[ha]at h2
  clear ha
  go_enter Tryz.func172,Tryz.ntmps172
  go_wp2_with fail
  refine(h2 _ (hA.below (hB0 _))).mono ?_
  rintro e w1 ⟨rfl,hb1⟩
  go_wp2
  go_ret
  exact⟨rfl,(hB0 _).trans (hb1.mono (by simp))⟩
 rw[ha]at h2
 have HZ:Hid (upT l=true->tabB l=jo0 l):=fun h=>jrg (by omega) ha h
 have HN:Hid (upT l=false->tabB l=false):=fun h=>jv1 h
 clear ha
 generalize tabB l=zb at *
 go_enter Tryz.func172,Tryz.ntmps172
 go_wp2_with fail
 refine(h2 _ (hA.below (hB0 _))).mono ?_
 rintro e w1 ⟨rfl,hb1⟩
 obtain⟨hc,_⟩:=jal hb1
 have hB1:=(hB0 _).trans (hb1.mono (by simp))
 have x1:w1.cell? ⟨w.heap.size,0,none⟩=some (.slice a l.length cap):=(hc _ _ (by simp)).trans (by simp[go_sem])
 have hA1:=hA.below hB1
 clear hc hb1 h2
 obtain⟨n,hlen⟩:∃n,l.length=n+1:=⟨l.length-1,by omega⟩
 go_wp2
 go_loopw [22] (fun i wr=>∃k:Nat,k<=n/\i=.int .i64 k/\Hid (∀j,j<k->∀x y,l[j]? =some x->l[j+1]? =some y->x.at_<y.at_)/\Below w1.heap.size w1 wr) (fun i _=>n-(intOf i).toNat)
 case atStart=>exact⟨0,by omega,rfl,fun j hj=>by omega,Below.refl _ _⟩
 case round=>
  obtain⟨k,hk,rfl,hall,hB⟩:=hrel
  have y1:wr.cell? ⟨w.heap.size,0,none⟩=some (.slice a l.length cap):=by rw[(jal hB).1 _ _ (qbl x1)];exact x1
  have hBB:=qtr hB1 hB
  by_cases hlt:k<n
  ·obtain⟨r,hr⟩:∃r,l[k]? =some r:=⟨_,List.getElem?_eq_getElem (by omega)⟩
   obtain⟨r2,hr2⟩:∃r,l[k+1]? =some r:=⟨_,List.getElem?_eq_getElem (by omega)⟩
   obtain⟨b,o,rfl,hc⟩:=(hA1.below hB).at (i:=k) (r:=r.cs) (by rw[List.getElem?_map,hr];rfl)
   obtain⟨b',o',he,hd⟩:=(hA1.below hB).at (i:=k+1) (r:=r2.cs) (by rw[List.getElem?_map,hr2];rfl)
   injection he with he
   injection he with e1 e2
   subst e1 e2
   have c4:wr.cell? ⟨b,o+k*4,none⟩=some (.int .i64 r.at_):=hc 0 _ rfl
   have d4:wr.cell? ⟨b,o+(k+1)*4,none⟩=some (.int .i64 r2.at_):=hd 0 _ rfl
   clear hc hd
   by_cases hu:r.at_<r2.at_
   ·have HR:Hid (∀j,j<k+1->∀x y,l[j]? =some x->l[j+1]? =some y->x.at_<y.at_):=fun j hj x y hx hy=>by
     by_cases e:j=k
     ·subst e;rw[hr]at hx;rw[hr2]at hy;obtain rfl:=Option.some.inj hx;obtain rfl:=Option.some.inj hy;exact hu
     ·exact hall.out j (by omega) x y hx hy
    go_wp2_with fail
    go_quiet (fail)
    go_wp2
    go_roundw
    case rel=>exact⟨k+1,by omega,by go_num,HR,below_drewN hB _⟩
    case measure=>simp[intOf];omega
   ·have HR:Hid (zb=false):=HN.out (j3m hr hr2 hu)
    go_wp2_with fail
    go_quiet (fail)
    go_wp2
    go_ret
    exact⟨ret_bool HR.out.symm,below_drewN hBB _⟩
  ·have e:k=n:=by omega
   subst e
   obtain⟨r,hr⟩:∃r,l[k]? =some r:=⟨_,List.getElem?_eq_getElem (by omega)⟩
   obtain⟨f,hf⟩:∃r,l[0]? =some r:=⟨_,List.getElem?_eq_getElem (by omega)⟩
   obtain⟨b,o,rfl,hc⟩:=(hA1.below hB).at (i:=k) (r:=r.cs) (by rw[List.getElem?_map,hr];rfl)
   obtain⟨b',o',he,hd⟩:=(hA1.below hB).at (i:=0) (r:=f.cs) (by rw[List.getElem?_map,hf];rfl)
   injection he with he
   injection he with e1 e2
   subst e1 e2
   have c4:wr.cell? ⟨b,o+k*4,none⟩=some (.int .i64 r.at_):=hc 0 _ rfl
   have d4:wr.cell? ⟨b,o,none⟩=some (.int .i64 f.at_):=by simpa using hd 0 _ rfl
   clear hc hd
   have HR:Hid (zb=((f.at_== -62135596800)&&decide (r.at_<=253402300799))):=by
    simp only[Hid]
    rw[HZ.out (jvo fun i x y hx hy=>hall.out i (by have:=(List.getElem?_eq_some_iff.mp hy).1;omega) x y hx hy)]
    exact jyw hlen hf hr
   cases g:(f.at_== -62135596800)
   ·rw[g]at HR
    go_wp2
    go_ret
    exact⟨ret_bool HR.out.symm,hBB⟩
   ·rw[g]at HR
    go_wp2
    go_ret
    exact⟨ret_bool (by rw[HR.out];simp),hBB⟩
end
section
open Go.RowKit Go.Sort
def js2:TurnD:=⟨0,0,0,⟨#[]⟩⟩
theorem j0e{w:World}{b:Nat}{x0 x1 x2 x3 v0 v1 v2 v3:Value}(h0:w.cell? ⟨b,0,none⟩=some x0)(h1:w.cell? ⟨b,1,none⟩=some x1)(h2:w.cell? ⟨b,2,none⟩=some x2)(h3:w.cell? ⟨b,3,none⟩=some x3):
  ((((w.setCell ⟨b,0,none⟩ v0).setCell ⟨b,1,none⟩ v1).setCell ⟨b,2,none⟩ v2).setCell ⟨b,3,none⟩ v3).cell? ⟨b,0,none⟩=some v0/\((((w.setCell ⟨b,0,none⟩ v0).setCell ⟨b,1,none⟩ v1).setCell ⟨b,2,none⟩ v2).setCell ⟨b,3,none⟩ v3).cell? ⟨b,1,none⟩=some v1/\((((w.setCell ⟨b,0,none⟩ v0).setCell ⟨b,1,none⟩ v1).setCell ⟨b,2,none⟩ v2).setCell ⟨b,3,none⟩ v3).cell? ⟨b,2,none⟩=some v2/\((((w.setCell ⟨b,0,none⟩ v0).setCell ⟨b,1,none⟩ v1).setCell ⟨b,2,none⟩ v2).setCell ⟨b,3,none⟩ v3).cell? ⟨b,3,none⟩=some v3:=by
 refine⟨?_,?_,?_,?_⟩
 ·rw[World.cell?_setCell_other _ _ _ _ (by simp),World.cell?_setCell_other _ _ _ _ (by simp),World.cell?_setCell_other _ _ _ _ (by simp),World.cell?_setCell_same _ _ _ h0]
 ·rw[World.cell?_setCell_other _ _ _ _ (by simp),World.cell?_setCell_other _ _ _ _ (by simp)]
  refine World.cell?_setCell_same _ _ _ (u:=x1) ?_
  rw[World.cell?_setCell_other _ _ _ _ (by simp)];exact h1
 ·rw[World.cell?_setCell_other _ _ _ _ (by simp)]
  refine World.cell?_setCell_same _ _ _ (u:=x2) ?_
  rw[World.cell?_setCell_other _ _ _ _ (by simp),World.cell?_setCell_other _ _ _ _ (by simp)];exact h2
 ·refine World.cell?_setCell_same _ _ _ (u:=x3) ?_
  rw[World.cell?_setCell_other _ _ _ _ (by simp),World.cell?_setCell_other _ _ _ _ (by simp),World.cell?_setCell_other _ _ _ _ (by simp)];exact h3
theorem jhf(n:Int)(w:World):
  Calls Tryz.prog 81 #[.int .i64 n] w fun e w'=>e=.returned (.bool (isB n (-62135596800) 253402300799))/\w'=w:=by
 by_cases h: -62135596800<=n
 ·go_enter Tryz.func81,Tryz.ntmps81
  go_wp2
  go_ret
  exact⟨ret_bool (by unfold isB;simp[h]),rfl⟩
 ·go_enter Tryz.func81,Tryz.ntmps81
  go_wp2
  go_ret
  exact⟨ret_bool (jhl (by omega)).symm,rfl⟩
end
section
open Go.RowKit Go.Sort
def outV(p:Int × Int):Value:=.agg #[.int .i64 p.1,.int .i64 p.2]
def jih(m:Int):Int × Int:=if isB m (-62135596800) 253402300799=true then(m,0)else(0,4)
theorem j4y{m:Int}(h:isB m (-62135596800) 253402300799=true):jih m=(m,0):=by unfold jih;rw[if_pos h]
theorem j4z{m:Int}(h:isB m (-62135596800) 253402300799=false):jih m=(0,4):=by unfold jih;rw[if_neg (by rw[h];simp)]
theorem jd1{w:World}{b:Nat}{x0 x1 v0 v1:Value}(h0:w.cell? ⟨b,0,none⟩=some x0)(h1:w.cell? ⟨b,1,none⟩=some x1):
  ((w.setCell ⟨b,0,none⟩ v0).setCell ⟨b,1,none⟩ v1).cell? ⟨b,0,none⟩=some v0/\((w.setCell ⟨b,0,none⟩ v0).setCell ⟨b,1,none⟩ v1).cell? ⟨b,1,none⟩=some v1:=by
 refine⟨?_,?_⟩
 ·rw[World.cell?_setCell_other _ _ _ _ (by simp),World.cell?_setCell_same _ _ _ h0]
 ·refine World.cell?_setCell_same _ _ _ (u:=x1) ?_
  rw[World.cell?_setCell_other _ _ _ _ (by simp)];exact h1
theorem jea(m:Int)(w:World):
  Calls Tryz.prog 221 #[.int .i64 m] w fun e w'=>e=.returned (outV (jih m))/\Below w.heap.size w w':=by
 have hB0:=fun o=>qal w o
 have hM:=fun w=>jhf m w
 cases h:isB m (-62135596800) 253402300799
 ·rw[j4z h]
  rw[h]at hM
  clear h
  go_enter Tryz.func221,Tryz.ntmps221
  go_wp2_with (go_at_call 81;refine(hM _).mono ?_;rintro e w' ⟨rfl,rfl⟩)
  exact bodyPost_ret (v:=outV (0,4)) (by simp[results,Tryz.results221,go_sem,outV]) rfl ⟨rfl,hB0 _⟩
 ·rw[j4y h]
  rw[h]at hM
  clear h
  go_enter Tryz.func221,Tryz.ntmps221
  go_wp2_with (go_at_call 81;refine(hM _).mono ?_;rintro e w' ⟨rfl,rfl⟩)
  exact bodyPost_ret (v:=outV (m,0)) (by simp[results,Tryz.results221,go_sem,outV]) rfl ⟨rfl,hB0 _⟩
end
section
open Go.RowKit Go.Sort
structure HapD where
 at_:Int
 save:Int
 letter:ByteArray
def HapD.cs(r:HapD):List Value:=[.int .i64 r.at_,.int .i64 r.save,.string r.letter]
def HapD.v(r:HapD):Value:=.agg #[.int .i64 r.at_,.int .i64 r.save,.string r.letter]
def HapD.sz(r:HapD):Nat:=r.letter.size
def hsz(l:List HapD):Nat:=(l.map HapD.sz).sum
end
end Go.Proofs.YtofdpfpdocpbpaaGreatDoor
