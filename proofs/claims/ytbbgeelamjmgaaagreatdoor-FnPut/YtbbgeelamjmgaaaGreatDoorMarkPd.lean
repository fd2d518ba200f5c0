import Derived.Test.YtbbgeelamjmgaaaGreatDoorRelPd
set_option maxHeartbeats 0
set_option linter.unusedSimpArgs false
open Go.RowKit Go.Sort
namespace Go.Proofs.YtbbgeelamjmgaaaGreatDoor
structure Zc(S:Nat->Prop)(w w':World):Prop where
 os:w'.os=w.os
 tape:w'.tape=w.tape
 output:w'.output=w.output
 size:w.heap.size<=w'.heap.size
 block:∀b,b<w.heap.size->¬S b->w'.heap[b]? =w.heap[b]?
 room:∀g m,Zg w g m->Zg w' g m
theorem Zc.refl(S:Nat->Prop)(w:World):Zc S w w:=⟨rfl,rfl,rfl,ZD _,λ_ _ _=>rfl,λ_ _ h=>h⟩
theorem Zc.set{S:Nat->Prop}{w w':World}(h:Zc S w w'){g o:Nat}(hg:S g)(v:Value):Zc S w (w'.setCell (O g o) v):=by
 refine⟨h.os,h.tape,h.output,by simpa using h.size,λb hb hn=>?_,λ_ _ hr=>(h.room _ _ hr).set _ _⟩;rw[<- h.block b hb hn,Go.Sort.setCell_eq];have az:g≠b:=λe=>hn (e ▸ hg)
 simp[Go.Sort.mapBlock,Array.getElem?_modify,az]
def zc(l:List pE):Nat:=(l.map λz=>1+6*z.ZC.length).sum
