/- Events of one's own: their cells, written. -/
import Derived.Test.YtfghkjmbbfidoaaGreatDoorSAd
set_option maxHeartbeats 0
set_option linter.unusedSimpArgs false
namespace Go.Proofs.YtfghkjmbbfidoaaGreatDoor
open Go.RowKit Go.Sort
theorem Jb.below{w w':World}{base:Nat}{v:Value}{L:List EventD}(h:Jb w base v L)(hb:Bw w w'):Jb w' base v L:=jac h hb
theorem Jb.seq{w:World}{base:Nat}{v:Value}{P:List EventD}(h:Jb w base v P):∃a cap,v=.slice a P.length cap/\Za w a 6 (P.map EventD.cs):=by
 obtain⟨a,cap,h1,h2,h3⟩:=jbe (rows:=P.map EventD.cs) (by rw[llm];exact h) jbl
 rw[llm]at h1 h3
 exact⟨a,cap,h1,h2⟩
theorem jf0{w:World}{B g n c:Nat}{L:List EventD}(h:Jb w B (so g n c) L){i:Nat}{x:EventD}(hx:L[i]? =some x):w.cell? (ad g (i*6))=some (iv x.id)/\w.cell? (ad g (i*6+1))=some (.string x.name)/\w.cell? (ad g (i*6+2))=some (.string x.zone)/\w.cell? (ad g (i*6+3))=some (iv x.wall)/\w.cell? (ad g (i*6+4))=some (iv x.gap)/\w.cell? (ad g (i*6+5))=some (iv x.fold):=by
 have hr:(L.map EventD.cs)[i]? =some x.cs:=by rw[lgm,hx];rfl
 have hl:∀r∈L.map EventD.cs,r.length=6:=fun r hr=>by obtain⟨y,_,rfl⟩:=List.mem_map.1 hr;rfl
 exact⟨h.cell (ja3 hl (i:=i) (j:=0) hr rfl),h.cell (ja3 hl (i:=i) (j:=1) hr rfl),h.cell (ja3 hl (i:=i) (j:=2) hr rfl),h.cell (ja3 hl (i:=i) (j:=3) hr rfl),h.cell (ja3 hl (i:=i) (j:=4) hr rfl),h.cell (ja3 hl (i:=i) (j:=5) hr rfl)⟩
theorem jev{base g:Nat}(hg:base<=g):∀(L:List Value) (o:Nat) (w w':World),Below base w w'->Below base w (w'.setCells g o L)
 |[],_,_,_,h=>h
 |v::L,o,w,_,h=>jev hg L (o+1) w _ (h.setCell (p:=⟨g,o,none⟩) hg v)
theorem owns_puts{e:TypeId}{size base g n cap:Nat}:∀(L:List Value) (o:Nat) (w:World) (A B C:List Value),w.ownsRow base e size (so g n cap) n (A++B++C)->A.length=o->B.length=L.length->(w.setCells g o L).ownsRow base e size (so g n cap) n (A++L++C)
 |[],o,w,A,B,C,h,_,hB=>by
  obtain rfl:B=[]:=List.length_eq_zero_iff.mp hB
  exact h
 |v::L,o,w,A,[],C,h,_,hB=>by simp at hB
 |v::L,o,w,A,b::B,C,h,hA,hB=>by
  have h2:=(World.ownsRow.stored h o v).1
  rw[show(A++b::B++C).set o v=A++[v]++B++C by subst hA;simp]at h2
  have:=owns_puts L (o+1) _ (A++[v]) B C h2 (by simp[hA]) (by simpa using hB)
  rw[show A++v::L++C=A++[v]++L++C by simp]
  exact this
theorem Jb.put{w:World}{base g n cap:Nat}{C:List EventD}(h:Jb w base (so g n cap) C)(hn:n=C.length)(i:Nat)(hi:i<n)(y:EventD):Jb (w.setCells g (i*6) y.cs) base (so g n cap) (C.set i y):=by
 subst hn
 have hs:C=C.take i++C[i]::C.drop (i+1):=by simp
 have h1:w.ownsRow base 59 6 (so g C.length cap) C.length (((C.take i).map EventD.cs).flatten++(C[i]).cs++((C.drop (i+1)).map EventD.cs).flatten):=by
  have h2:=h
  unfold Jb at h2
  rw[show(C.map EventD.cs).flatten=((C.take i).map EventD.cs).flatten++(C[i]).cs++((C.drop (i+1)).map EventD.cs).flatten by
   conv=>lhs;rw[hs,lma,List.flatten_append,List.map_cons,List.flatten_cons]
   rw[List.append_assoc]]at h2
  exact h2
 have h3:=owns_puts y.cs (i*6) w _ _ _ h1 (by rw[ja6 jbl,llm,List.length_take,Nat.min_eq_left (Nat.le_of_lt hi)]) rfl
 show World.ownsRow _ _ _ _ _ _ _
 rw[List.length_set,List.set_eq_take_append_cons_drop,if_pos hi]
 simpa using h3
