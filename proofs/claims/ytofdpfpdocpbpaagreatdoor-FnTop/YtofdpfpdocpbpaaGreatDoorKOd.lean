/- Packed. -/
import Derived.Test.YtofdpfpdocpbpaaGreatDoorCards
import Derived.Test.YtofdpfpdocpbpaaGreatDoorTie
import Derived.Test.YtofdpfpdocpbpaaGreatDoorBasePd
import Derived.ProofKit
import Derived.OpenShut
import Derived.ShutString
import Derived.Deep.DeepHandedRow
import Derived.Lib.SmallJoins
import Derived.Stop.LaidErr
import Derived.Test.YtofdpfpdocpbpaaGreatDoorSAd
import Derived.Test.YtofdpfpdocpbpaaGreatDoorKB2d
import Derived.Test.YtofdpfpdocpbpaaGreatDoorKJd
import Derived.Test.YtofdpfpdocpbpaaGreatDoorDDd
import Derived.Test.YtofdpfpdocpbpaaGreatDoorTimePd
set_option maxRecDepth 20000
set_option maxHeartbeats 20000000
set_option linter.unusedSimpArgs false
namespace Go.Proofs.YtofdpfpdocpbpaaGreatDoor
section
open Go.ChangeShapes Go.WideShapes Go.ChangeAt Go.RowKit
theorem own:ownKnob Tryz.prog.godebug=none:=by kernel_rfl
theorem jxt:laidOutB Tryz.prog=true:=by kernel_rfl
theorem gTab : Tryz.prog.globalNamed "loop.example/g00364/impl.monthLengths" = some 8 := by kernel_rfl
theorem gTabType:(Tryz.prog.globals[8]?).map (·.type)=some 338:=by kernel_rfl
theorem j29:Tryz.prog.cellsOf 338=13:=by kernel_rfl
theorem jux:Tryz.prog.cellsOf 2=1:=by kernel_rfl
theorem jvl {H:Type} {enc:TypeId × Value->H} {W W':World} {gs:List (DataW H)} {q:List MemPlace}
  (hV : DataW.TrodVars enc Tryz.prog W (fun _ => true) ["loop.example/g00364/impl.monthLengths"] gs q) (hlt : ∀ x ∈ q, x.block < W.heap.size) (hT : Tab W) (hb : Below W.heap.size W W') :
  DataW.TrodVars enc Tryz.prog W' (fun b => decide (b < W.heap.size)) ["loop.example/g00364/impl.monthLengths"] gs q := by
 obtain⟨g,t,cs,fuel,d,p,rfl,hg,ht,hvar,hd,rfl⟩:=trodVars_one hV
 obtain rfl:=Option.some.inj (gTab.symm.trans hg)
 obtain rfl:=Option.some.inj (gTabType.symm.trans ht)
 have hg0:8<W.heap.size:=qbl (hT 0 (by omega))
 obtain⟨fuel',hd'⟩:=Below.trod jxt (by kernel_rfl) (of_decide_eq_true (by kernel_rfl)) (v:=.agg cs) (⟨fuel,by simpa [Value.cells]using hd⟩:DataW.Trod enc Tryz.prog W 0 (fun _=>true) true 338 (.agg cs) d p) hb (fun x hx=>hlt x (List.mem_append_right _ hx))
 exact trodVars_mk1 hg ht (var?_below hb hg hg0 hvar) (by simpa [Value.cells]using hd')
def j8r(w:World):World:=
 { w with heap:=w.heap.modify 8 fun
   |.cells _ t frozen=>.cells #[.int .i64 0,.int .i64 31,.int .i64 28,.int .i64 31,.int .i64 30,.int .i64 31,.int .i64 30,.int .i64 31,.int .i64 31,.int .i64 30,.int .i64 31,.int .i64 30,.int .i64 31] t frozen
   |o=>o }
end
section
open Go.ChangeShapes Go.WideShapes Go.ChangeAt Go.RowKit
def jnp(w:World)(g:Nat)(cs:Array Value):World:=
 { w with heap:=w.heap.modify g fun
   |.cells _ t frozen=>.cells cs t frozen
   |o=>o }
def j51(w:World):World:=
 jnp (jnp w 5 #[.int .u8 128,.int .u8 191,.int .u8 160,.int .u8 191,.int .u8 128,.int .u8 159,.int .u8 144,.int .u8 191,.int .u8 128,.int .u8 143,.int .u8 0,.int .u8 0,.int .u8 0,.int .u8 0,.int .u8 0,.int .u8 0,.int .u8 0,.int .u8 0,.int .u8 0,.int .u8 0,.int .u8 0,.int .u8 0,.int .u8 0,.int .u8 0,.int .u8 0,.int .u8 0,.int .u8 0,.int .u8 0,.int .u8 0,.int .u8 0,.int .u8 0,.int .u8 0])
  4 (Go.Pinned.utf8FirstZ.map fun(n:Nat)=>Value.int .u8 n).toArray
end
section
open Go.ChangeShapes Go.WideShapes Go.ChangeAt Go.RowKit
theorem j1l {H:Type} {enc:TypeId × Value->H} {W:World} {a:Option Addr} {len cap:Nat} {d:DataW H} {p:List MemPlace}
  (h:DataW.Trod enc Tryz.prog W 0 (fun _=>true) true 22 (.slice a len cap) d p):j7c W a len:=by
 obtain⟨fuel,hf⟩:=h
 rcases open_ints Tryz.underlying22 Tryz.underlying5 (by kernel_rfl) hf with⟨hcs,_⟩|⟨x,l,c,zs,hcs,_,hl,hm,hz,_,hcell,hwz⟩
 ·simp[Value.cells]at hcs
  obtain⟨rfl,rfl,rfl⟩:=hcs
  exact .inl rfl
 ·simp[Value.cells]at hcs
  obtain⟨rfl,rfl,rfl⟩:=hcs
  by_cases h0:len=0
  ·exact .inl h0
  ·obtain⟨b,off,spot⟩:=x
   have hz':zs.length=cap:=by simpa using hz
   have hc0:=hcell 0 (by omega)
   have hspot:spot=none:=by simpa [Addr.add]using World.cell?_spot hc0
   subst hspot
   refine .inr ⟨b,off,rfl,fun i hi=>⟨zs.getD i 0,?_,?_,?_⟩⟩
   ·have:=hcell i (by omega)
    have e:(⟨b,off,none⟩:Addr).add i=⟨b,off+i,none⟩:=by unfold Addr.add;split<;>simp_all
    rw[e]at this
    exact this
   ·have hw:=hwz (zs.getD i 0) (by rw[List.getD_eq_getElem?_getD,List.getElem?_eq_getElem (by omega)];simp)
    exact(bounds_u8 hw).1
   ·have hw:=hwz (zs.getD i 0) (by rw[List.getD_eq_getElem?_getD,List.getElem?_eq_getElem (by omega)];simp)
    exact(bounds_u8 hw).2
end
section
open Go.RowKit
def juq:Nat->FuncId
 |0=>93
 |1=>94
 |2=>95
 |3=>96
 |4=>97
 |5=>98
 |_=>99
theorem j2y(p:Option Addr)(w:World):Calls Tryz.prog 59 #[.iface 157 (.pointer p)] w fun q w'=>q=.returned (.tuple #[.agg #[.func (.func 93) #[.pointer p] #[]],.nilIface])/\Below w.heap.size w w':=by
 have hmf:∀(fn:Fn) (first cap:Array Value) (w:World),(Instr.makeFunc fn first cap).run Tryz.prog w=.ok (.func fn first cap) w:=fun _ _ _ _=>rfl
 have t0:∀w:World,(Instr.typeAssert (.iface 157 (.pointer p)) 117 157 true).run Tryz.prog w=.ok (.tuple #[.pointer p,.bool true]) w:=fun _=>by kernel_rfl
 go_enter Tryz.func59,Tryz.ntmps59
 go_wp2
 exact bodyPost_ret (v:=.tuple #[.agg #[.func (.func 93) #[.pointer p] #[]],.nilIface]) (by simp[results,Tryz.results59,go_sem]) rfl ⟨rfl,qal w _⟩
theorem j2x(p:Option Addr)(w:World):Calls Tryz.prog 59 #[.iface 158 (.pointer p)] w fun q w'=>q=.returned (.tuple #[.agg #[.func (.func 94) #[.pointer p] #[]],.nilIface])/\Below w.heap.size w w':=by
 have hmf:∀(fn:Fn) (first cap:Array Value) (w:World),(Instr.makeFunc fn first cap).run Tryz.prog w=.ok (.func fn first cap) w:=fun _ _ _ _=>rfl
 have t0:∀w:World,(Instr.typeAssert (.iface 158 (.pointer p)) 117 157 true).run Tryz.prog w=.ok (.tuple #[.pointer none,.bool false]) w:=fun _=>by kernel_rfl
 have t1:∀w:World,(Instr.typeAssert (.iface 158 (.pointer p)) 117 158 true).run Tryz.prog w=.ok (.tuple #[.pointer p,.bool true]) w:=fun _=>by kernel_rfl
 go_enter Tryz.func59,Tryz.ntmps59
 go_wp2
 exact bodyPost_ret (v:=.tuple #[.agg #[.func (.func 94) #[.pointer p] #[]],.nilIface]) (by simp[results,Tryz.results59,go_sem]) rfl ⟨rfl,qal w _⟩
theorem j2w(p:Option Addr)(w:World):Calls Tryz.prog 59 #[.iface 159 (.pointer p)] w fun q w'=>q=.returned (.tuple #[.agg #[.func (.func 95) #[.pointer p] #[]],.nilIface])/\Below w.heap.size w w':=by
 have hmf:∀(fn:Fn) (first cap:Array Value) (w:World),(Instr.makeFunc fn first cap).run Tryz.prog w=.ok (.func fn first cap) w:=fun _ _ _ _=>rfl
 have t0:∀w:World,(Instr.typeAssert (.iface 159 (.pointer p)) 117 157 true).run Tryz.prog w=.ok (.tuple #[.pointer none,.bool false]) w:=fun _=>by kernel_rfl
 have t1:∀w:World,(Instr.typeAssert (.iface 159 (.pointer p)) 117 158 true).run Tryz.prog w=.ok (.tuple #[.pointer none,.bool false]) w:=fun _=>by kernel_rfl
 have t2:∀w:World,(Instr.typeAssert (.iface 159 (.pointer p)) 117 159 true).run Tryz.prog w=.ok (.tuple #[.pointer p,.bool true]) w:=fun _=>by kernel_rfl
 go_enter Tryz.func59,Tryz.ntmps59
 go_wp2
 exact bodyPost_ret (v:=.tuple #[.agg #[.func (.func 95) #[.pointer p] #[]],.nilIface]) (by simp[results,Tryz.results59,go_sem]) rfl ⟨rfl,qal w _⟩
theorem j2v(p:Option Addr)(w:World):Calls Tryz.prog 59 #[.iface 160 (.pointer p)] w fun q w'=>q=.returned (.tuple #[.agg #[.func (.func 96) #[.pointer p] #[]],.nilIface])/\Below w.heap.size w w':=by
 have hmf:∀(fn:Fn) (first cap:Array Value) (w:World),(Instr.makeFunc fn first cap).run Tryz.prog w=.ok (.func fn first cap) w:=fun _ _ _ _=>rfl
 have t0:∀w:World,(Instr.typeAssert (.iface 160 (.pointer p)) 117 157 true).run Tryz.prog w=.ok (.tuple #[.pointer none,.bool false]) w:=fun _=>by kernel_rfl
 have t1:∀w:World,(Instr.typeAssert (.iface 160 (.pointer p)) 117 158 true).run Tryz.prog w=.ok (.tuple #[.pointer none,.bool false]) w:=fun _=>by kernel_rfl
 have t2:∀w:World,(Instr.typeAssert (.iface 160 (.pointer p)) 117 159 true).run Tryz.prog w=.ok (.tuple #[.pointer none,.bool false]) w:=fun _=>by kernel_rfl
 have t3:∀w:World,(Instr.typeAssert (.iface 160 (.pointer p)) 117 160 true).run Tryz.prog w=.ok (.tuple #[.pointer p,.bool true]) w:=fun _=>by kernel_rfl
 go_enter Tryz.func59,Tryz.ntmps59
 go_wp2
 exact bodyPost_ret (v:=.tuple #[.agg #[.func (.func 96) #[.pointer p] #[]],.nilIface]) (by simp[results,Tryz.results59,go_sem]) rfl ⟨rfl,qal w _⟩
theorem j2u(p:Option Addr)(w:World):Calls Tryz.prog 59 #[.iface 161 (.pointer p)] w fun q w'=>q=.returned (.tuple #[.agg #[.func (.func 97) #[.pointer p] #[]],.nilIface])/\Below w.heap.size w w':=by
 have hmf:∀(fn:Fn) (first cap:Array Value) (w:World),(Instr.makeFunc fn first cap).run Tryz.prog w=.ok (.func fn first cap) w:=fun _ _ _ _=>rfl
 have t0:∀w:World,(Instr.typeAssert (.iface 161 (.pointer p)) 117 157 true).run Tryz.prog w=.ok (.tuple #[.pointer none,.bool false]) w:=fun _=>by kernel_rfl
 have t1:∀w:World,(Instr.typeAssert (.iface 161 (.pointer p)) 117 158 true).run Tryz.prog w=.ok (.tuple #[.pointer none,.bool false]) w:=fun _=>by kernel_rfl
 have t2:∀w:World,(Instr.typeAssert (.iface 161 (.pointer p)) 117 159 true).run Tryz.prog w=.ok (.tuple #[.pointer none,.bool false]) w:=fun _=>by kernel_rfl
 have t3:∀w:World,(Instr.typeAssert (.iface 161 (.pointer p)) 117 160 true).run Tryz.prog w=.ok (.tuple #[.pointer none,.bool false]) w:=fun _=>by kernel_rfl
 have t4:∀w:World,(Instr.typeAssert (.iface 161 (.pointer p)) 117 161 true).run Tryz.prog w=.ok (.tuple #[.pointer p,.bool true]) w:=fun _=>by kernel_rfl
 go_enter Tryz.func59,Tryz.ntmps59
 go_wp2
 exact bodyPost_ret (v:=.tuple #[.agg #[.func (.func 97) #[.pointer p] #[]],.nilIface]) (by simp[results,Tryz.results59,go_sem]) rfl ⟨rfl,qal w _⟩
theorem j2t(p:Option Addr)(w:World):Calls Tryz.prog 59 #[.iface 162 (.pointer p)] w fun q w'=>q=.returned (.tuple #[.agg #[.func (.func 98) #[.pointer p] #[]],.nilIface])/\Below w.heap.size w w':=by
 have hmf:∀(fn:Fn) (first cap:Array Value) (w:World),(Instr.makeFunc fn first cap).run Tryz.prog w=.ok (.func fn first cap) w:=fun _ _ _ _=>rfl
 have t0:∀w:World,(Instr.typeAssert (.iface 162 (.pointer p)) 117 157 true).run Tryz.prog w=.ok (.tuple #[.pointer none,.bool false]) w:=fun _=>by kernel_rfl
 have t1:∀w:World,(Instr.typeAssert (.iface 162 (.pointer p)) 117 158 true).run Tryz.prog w=.ok (.tuple #[.pointer none,.bool false]) w:=fun _=>by kernel_rfl
 have t2:∀w:World,(Instr.typeAssert (.iface 162 (.pointer p)) 117 159 true).run Tryz.prog w=.ok (.tuple #[.pointer none,.bool false]) w:=fun _=>by kernel_rfl
 have t3:∀w:World,(Instr.typeAssert (.iface 162 (.pointer p)) 117 160 true).run Tryz.prog w=.ok (.tuple #[.pointer none,.bool false]) w:=fun _=>by kernel_rfl
 have t4:∀w:World,(Instr.typeAssert (.iface 162 (.pointer p)) 117 161 true).run Tryz.prog w=.ok (.tuple #[.pointer none,.bool false]) w:=fun _=>by kernel_rfl
 have t5:∀w:World,(Instr.typeAssert (.iface 162 (.pointer p)) 117 162 true).run Tryz.prog w=.ok (.tuple #[.pointer p,.bool true]) w:=fun _=>by kernel_rfl
 go_enter Tryz.func59,Tryz.ntmps59
 go_wp2
 exact bodyPost_ret (v:=.tuple #[.agg #[.func (.func 98) #[.pointer p] #[]],.nilIface]) (by simp[results,Tryz.results59,go_sem]) rfl ⟨rfl,qal w _⟩
theorem j2s(p:Option Addr)(w:World):Calls Tryz.prog 59 #[.iface 163 (.pointer p)] w fun q w'=>q=.returned (.tuple #[.agg #[.func (.func 99) #[.pointer p] #[]],.nilIface])/\Below w.heap.size w w':=by
 have hmf:∀(fn:Fn) (first cap:Array Value) (w:World),(Instr.makeFunc fn first cap).run Tryz.prog w=.ok (.func fn first cap) w:=fun _ _ _ _=>rfl
 have t0:∀w:World,(Instr.typeAssert (.iface 163 (.pointer p)) 117 157 true).run Tryz.prog w=.ok (.tuple #[.pointer none,.bool false]) w:=fun _=>by kernel_rfl
 have t1:∀w:World,(Instr.typeAssert (.iface 163 (.pointer p)) 117 158 true).run Tryz.prog w=.ok (.tuple #[.pointer none,.bool false]) w:=fun _=>by kernel_rfl
 have t2:∀w:World,(Instr.typeAssert (.iface 163 (.pointer p)) 117 159 true).run Tryz.prog w=.ok (.tuple #[.pointer none,.bool false]) w:=fun _=>by kernel_rfl
 have t3:∀w:World,(Instr.typeAssert (.iface 163 (.pointer p)) 117 160 true).run Tryz.prog w=.ok (.tuple #[.pointer none,.bool false]) w:=fun _=>by kernel_rfl
 have t4:∀w:World,(Instr.typeAssert (.iface 163 (.pointer p)) 117 161 true).run Tryz.prog w=.ok (.tuple #[.pointer none,.bool false]) w:=fun _=>by kernel_rfl
 have t5:∀w:World,(Instr.typeAssert (.iface 163 (.pointer p)) 117 162 true).run Tryz.prog w=.ok (.tuple #[.pointer none,.bool false]) w:=fun _=>by kernel_rfl
 have t6:∀w:World,(Instr.typeAssert (.iface 163 (.pointer p)) 117 163 true).run Tryz.prog w=.ok (.tuple #[.pointer p,.bool true]) w:=fun _=>by kernel_rfl
 go_enter Tryz.func59,Tryz.ntmps59
 go_wp2
 exact bodyPost_ret (v:=.tuple #[.agg #[.func (.func 99) #[.pointer p] #[]],.nilIface]) (by simp[results,Tryz.results59,go_sem]) rfl ⟨rfl,qal w _⟩
end
section
open Go.RowKit
theorem jqf:∀(k:Nat) (p:Option Addr) (w:World),k<7->Calls Tryz.prog 59 #[.iface (cmdT k) (.pointer p)] w fun q w'=>q=.returned (.tuple #[.agg #[.func (.func (juq k)) #[.pointer p] #[]],.nilIface])/\Below w.heap.size w w'
 |0,p,w,_=>j2y p w
 |1,p,w,_=>j2x p w
 |2,p,w,_=>j2w p w
 |3,p,w,_=>j2v p w
 |4,p,w,_=>j2u p w
 |5,p,w,_=>j2t p w
 |6,p,w,_=>j2s p w
 |_+7,_,_,h=>absurd h (by omega)
theorem juo:∀(j:Nat) (args:Array Value) (w:World),j<7->(callFunc (juq j) args).run Tryz.prog w=.ok (.enter (juq j) args) w
 |0,_,_,_=>by kernel_rfl
 |1,_,_,_=>by kernel_rfl
 |2,_,_,_=>by kernel_rfl
 |3,_,_,_=>by kernel_rfl
 |4,_,_,_=>by kernel_rfl
 |5,_,_,_=>by kernel_rfl
 |6,_,_,_=>by kernel_rfl
 |_+7,_,_,h=>absurd h (by omega)
theorem jty {line:ByteArray} {ws:List ByteArray} (hL:Ji line ws) (k:Nat) (hk:k<7) (hno:∀j,j<k->cmdB line ws j=false) (hyes:cmdB line ws k=true) (txt:ByteArray) (x:Option Addr) (w:World) (Q:World->Prop) (hM:MxJ w)
  (hD:∀W p,Below w.heap.size w W->Zc W p (cmdR line ws k)->Calls Tryz.prog (juq k) #[.pointer (some ⟨p,0,none⟩),.pointer x] W fun q w'=>q=.returned (.tuple #[.string txt,.nilIface])/\Q w'):
  Calls Tryz.prog 41 #[.pointer x,.string line] w fun q w'=>q=.returned (.tuple #[.string txt,.nilIface])/\Q w':=by
 have hC:=jkp hL k hk hno hyes w hM
 have hDO:=fun p W=>jqf k p W hk
 have hen:=fun args W=>juo k args W hk
 have HD:=hidQ hD
 clear hno hyes hL hM hD
 obtain⟨T,hT⟩:∃t,cmdT k=t:=⟨_,rfl⟩
 obtain⟨N,hN⟩:∃t,juq k=t:=⟨_,rfl⟩
 rw[hN]at HD
 simp only[hT]at hC hDO
 simp only[hN]at hDO hen
 clear hT hN
 generalize cmdR line ws k=R at *
 go_enter Tryz.func41,Tryz.ntmps41
 go_wp2_with fail
 refine hC.mono ?_
 rintro q w1 ⟨rfl,hv1,hb1⟩
 have HV1:=hidQ (And.intro hv1 hb1)
 clear hC hv1 hb1
 go_wp2_with fail
 refine(hDO _ _).mono ?_
 rintro q w2 ⟨rfl,hb2⟩
 have bW:=qal w2 (.cells #[.func (.func N) #[.pointer (some ⟨w.heap.size+k,0,none⟩)] #[]] 113)
 have hb12:=qtr hb2 bW
 have hDD:=HD.out _ _ (HV1.out.2.trans (hb12.mono HV1.out.2.size)) (HV1.out.1.below hb12)
 clear hDO hb2 bW hb12 HD HV1
 go_wp2_with fail
 refine hDD.mono ?_
 rintro q w3 ⟨rfl,hQ⟩
 have HQ:=hidQ hQ
 clear hDD hQ hen
 go_wp2
 go_ret2
 exact⟨rfl,HQ.out⟩
theorem jmm(p:Addr)(w:World):Calls Tryz.prog 42 #[.nilIface,.iface 446 (.pointer (some p))] w fun q w'=>q=.returned (.bool false)/\w'=w:=by
 have heq:(binOp BinOp.eql 49 .nilIface (.iface 446 (.pointer (some p)))).run Tryz.prog w=.ok (.bool false) w:=by kernel_rfl
 go_enter Tryz.func42,Tryz.ntmps42
 go_wp2
 go_ret
 exact⟨rfl,rfl⟩
def ErrC(w:World):Prop:=∃p,w.cell? ⟨1,0,none⟩=some (.iface 446 (.pointer (some p)))
theorem ErrC.of_below{w w':World}(h:ErrC w)(hb:Below w.heap.size w w'):ErrC w':=by
 obtain⟨p,hc⟩:=h
 exact⟨p,jab hb hc⟩
theorem jke (line txt:ByteArray) (x:Option Addr) (w:World) (Q:World->Prop) (hE:∀w',Q w'->ErrC w')
  (hD:Calls Tryz.prog 41 #[.pointer x,.string line] w fun q w'=>q=.returned (.tuple #[.string txt,.nilIface])/\Q w'):
  Calls Tryz.prog 22 #[.pointer x,.string line] w fun q w'=>q=.returned (.string txt)/\Q w':=by
 have hIs:=fun p W=>jmm p W
 go_enter Tryz.func22,Tryz.ntmps22
 go_wp2_with fail
 refine hD.mono ?_
 rintro q w1 ⟨rfl,hQ⟩
 obtain⟨p,hc⟩:=hE _ hQ
 have HQ:=hidQ hQ
 clear hD hE hQ
 go_wp2_with fail
 refine(hIs _ _).mono ?_
 rintro q w2 ⟨rfl,hw⟩
 subst hw
 clear hIs
 go_wp2
 go_ret
 exact⟨rfl,HQ.out⟩
end
section
open Go.ChangeShapes Go.WideShapes Go.ChangeAt Go.RowKit Go.Stop
theorem j6h : Tryz.prog.globalNamed "loop.example/g00364/impl.errNoDeskLine" = some 0 := by kernel_rfl
theorem j36:(Tryz.prog.globals[0]?).map (·.type)=some 49:=by kernel_rfl
theorem j6i : Tryz.prog.globalNamed "loop.example/g00364/impl.errNoCommand" = some 1 := by kernel_rfl
theorem j37:(Tryz.prog.globals[1]?).map (·.type)=some 49:=by kernel_rfl
theorem j7z : "*" ++ "errors.errorString" = "*errors.errorString" := by decide
theorem rowE (u : TypeId) (h : Tryz.prog.typeName? 3 u = some "*errors.errorString") : u = 446 :=
 typeName_ptr_named (nm := "errors.errorString") (by rw [j7z]; kernel_rfl) (by kernel_rfl) (by decide) u (by rw [j7z]; exact h)
theorem j4a:Tryz.prog.cellsOf 465=1:=by kernel_rfl
theorem j39:Tryz.prog.cellsOf 9=1:=by kernel_rfl
theorem j2b:(Tryz.prog.globals[3]?).map (·.type)=some 239:=by kernel_rfl
theorem j3a:Tryz.prog.cellsOf 239=20:=by kernel_rfl
theorem j28:Tryz.prog.cellsOf 198=1:=by kernel_rfl
abbrev laidT : List (String × DataW Unit) := [("math/bits.deBruijn32tab", Rows.laid_math_bits_deBruijn32tab), ("math/bits.deBruijn64tab", Rows.laid_math_bits_deBruijn64tab), ("internal/strconv.uint64pow10", Rows.laid_internal_strconv_uint64pow10), ("unicode/utf8.acceptRanges", Rows.laid_unicode_utf8_acceptRanges), ("loop.example/g00364/impl.monthLengths", Rows.laid_loop_example_g00364_impl_monthLengths), ("loop.example/g00364/impl.errNoCommand", Rows.laid_loop_example_g00364_impl_errNoCommand), ("loop.example/g00364/impl.errNoDeskLine", Rows.laid_loop_example_g00364_impl_errNoDeskLine), ("unicode/utf8.first", Rows.laid_unicode_utf8_first)]
theorem jw9 {W : World} (h : laidMetH Tryz.prog Rows.fnTopRow.laid W) : laidMet Tryz.prog laidT W := (show laidMet Tryz.prog laidT W /\ handlesMet Tryz.prog [("errors.errorType", Rows.laid_errors_errorType)] W from h).1
theorem pow_T{W:World}(h:laidMet Tryz.prog laidT W):Pow W:=Lib.tabIs_of_head (zs:=Lib.pow10Tab) gPow j2b Tryz.underlying239 Tryz.underlying198 j28 j3a (laidMet.tail (laidMet.tail h))
theorem tab_T{W:World}(h:laidMet Tryz.prog laidT W):Tab W:=fun i hi=>
 (Lib.tabIs_of_head (zs:=tabList) gTab gTabType Tryz.underlying338 Tryz.underlying2 jux j29 (laidMet.tail (laidMet.tail (laidMet.tail (laidMet.tail h))))).cell gTab i hi |>.trans (by rw[List.getD_eq_getElem?_getD])
theorem j84{W:World}(h:laidMet Tryz.prog laidT W):ErrC W:=by
 obtain⟨a,s,h1,_⟩:=laid_sentinel (P:=Tryz.prog) (laidMet.tail (laidMet.tail (laidMet.tail (laidMet.tail (laidMet.tail h))))) j6i j37 Tryz.underlying49 rowE Tryz.underlying446 Tryz.underlying465 rfl rfl Tryz.underlying9 j4a j39
 exact⟨a,by simpa using World.var?_cell j6i h1 0⟩
theorem j83{W:World}(h:laidMet Tryz.prog laidT W):∃p,jmv W p:=by
 obtain⟨a,s,h1,_⟩:=laid_sentinel (P:=Tryz.prog) (laidMet.tail (laidMet.tail (laidMet.tail (laidMet.tail (laidMet.tail (laidMet.tail h)))))) j6h j36 Tryz.underlying49 rowE Tryz.underlying446 Tryz.underlying465 rfl rfl Tryz.underlying9 j4a j39
 exact⟨a,by simpa [jmv]using World.var?_cell j6h h1 0⟩
section
variable {H : Type} {enc : TypeId × Value -> H} {P : Program} {w : World} {spare : Nat -> Bool}
theorem jcc{n:String}{ns:List String}{gs:List (DataW H)}{ps:List MemPlace}(h:DataW.TrodVars enc P w spare (n::ns) gs ps):∃d ds pa q,gs=d::ds/\ps=pa++q/\DataW.TrodVars enc P w spare [n] [d] pa/\DataW.TrodVars enc P w spare ns ds q:=by
 cases gs with
 |nil=>simp[DataW.TrodVars]at h
 |cons d ds=>
  obtain⟨g,t,cs,fuel,p,q,h1,h2,h3,h4,hs,e⟩:=h
  exact⟨d,ds,_,q,rfl,e,trodVars_mk1 h1 h2 h3 h4,hs⟩
theorem jm0{n:String}{ns:List String}{d:DataW H}{ds:List (DataW H)}{pa q:List MemPlace}(h:DataW.TrodVars enc P w spare [n] [d] pa)(hs:DataW.TrodVars enc P w spare ns ds q):DataW.TrodVars enc P w spare (n::ns) (d::ds) (pa++q):=by
 obtain⟨g,t,cs,fuel,d2,p,e,h1,h2,h3,h4,rfl⟩:=trodVars_one h
 obtain rfl:=(List.cons.inj e).1
 exact⟨g,t,cs,fuel,p,q,h1,h2,h3,h4,hs,rfl⟩
end
theorem jpb {H:Type} {enc:TypeId × Value->H} {W W':World} {n:String} {g0:Nat} {d:DataW H} {q:List MemPlace} {u:TypeId} {x0:Value} (hg0:Tryz.prog.globalNamed n=some g0) (ht0:(Tryz.prog.globals[g0]?).map (·.type)=some 49)
  (hV:DataW.TrodVars enc Tryz.prog W (fun _=>true) [n] [d] q) (hT:W.cell? ⟨g0,0,none⟩=some (.iface u x0)) (hb:Below W.heap.size W W'):
  DataW.TrodVars enc Tryz.prog W' (fun b=>decide (b<W.heap.size)) [n] [d] q:=by
 obtain⟨g,t,cs,fuel,d2,pl,e,hg,ht,hvar,hd,rfl⟩:=trodVars_one hV
 obtain rfl:=(List.cons.inj e).1
 obtain rfl:=Option.some.inj (hg0.symm.trans hg)
 obtain rfl:=Option.some.inj (ht0.symm.trans ht)
 have hlt:g0<W.heap.size:=qbl hT
 obtain⟨l⟩:=cs
 obtain⟨x,hx,ix,hy⟩:=held_of_trod_list Tryz.underlying49 hd
 simp only at hx
 subst hx
 obtain⟨rfl,rfl⟩:=Prod.mk.inj hy
 exact trodVars_mk1 hg ht (var?_below hb hg hlt hvar) (trod_held Tryz.underlying49 ix 0)
theorem js7 {H:Type} {enc:TypeId × Value->H} {W W':World} {gs:List (DataW H)} {q:List MemPlace} {p:Addr}
  (hV : DataW.TrodVars enc Tryz.prog W (fun _ => true) ["loop.example/g00364/impl.errNoDeskLine", "loop.example/g00364/impl.monthLengths", "loop.example/g00364/impl.errNoCommand"] gs q) (hlt : ∀ x ∈ q, x.block < W.heap.size) (hT : Tab W) (hC : ErrC W) (hE : jmv W p) (hb : Below W.heap.size W W') :
  DataW.TrodVars enc Tryz.prog W' (fun b => decide (b < W.heap.size)) ["loop.example/g00364/impl.errNoDeskLine", "loop.example/g00364/impl.monthLengths", "loop.example/g00364/impl.errNoCommand"] gs q := by
 obtain⟨d0,ds0,p0,q0,rfl,rfl,h0,r0⟩:=jcc hV
 obtain⟨d1,ds1,p1,q1,rfl,rfl,h1,r1⟩:=jcc r0
 obtain⟨d2,ds2,p2,q2,rfl,rfl,h2,r2⟩:=jcc r1
 obtain⟨pc,hpc⟩:=hC
 have e:ds2=[]/\q2=[]:=trodVars_none r2
 obtain⟨rfl,rfl⟩:=e
 refine jm0 (jpb j6h j36 h0 hE hb) (jm0 (jvl h1 (fun x hx=>hlt x (List.mem_append_right _ (List.mem_append_left _ hx))) hT hb) ?_)
 have:=jpb j6i j37 h2 hpc hb
 simpa using this
def jqv:ByteArray:=⟨#[116,104,101,32,108,105,110,101,32,109,97,121,32,110,111,116,32,115,116,97,110,100,32,105,110,32,97,32,100,101,115,107,39,115,32,116,101,120,116]⟩
def jqw:ByteArray:=⟨#[116,104,101,32,108,105,110,101,32,105,115,32,110,111,32,99,111,109,109,97,110,100]⟩
def jxu(w:World):World:=
 jnp (jnp (jnp w 6 #[.int .u8 0,.int .u8 1,.int .u8 28,.int .u8 2,.int .u8 29,.int .u8 14,.int .u8 24,.int .u8 3,.int .u8 30,.int .u8 22,.int .u8 20,.int .u8 15,.int .u8 25,.int .u8 17,.int .u8 4,.int .u8 8,.int .u8 31,.int .u8 27,.int .u8 13,.int .u8 23,.int .u8 21,.int .u8 19,.int .u8 16,.int .u8 7,.int .u8 26,.int .u8 12,.int .u8 18,.int .u8 6,.int .u8 11,.int .u8 5,.int .u8 10,.int .u8 9])
  7 #[.int .u8 0,.int .u8 1,.int .u8 56,.int .u8 2,.int .u8 57,.int .u8 49,.int .u8 28,.int .u8 3,.int .u8 61,.int .u8 58,.int .u8 42,.int .u8 50,.int .u8 38,.int .u8 29,.int .u8 17,.int .u8 4,.int .u8 62,.int .u8 47,.int .u8 59,.int .u8 36,.int .u8 45,.int .u8 43,.int .u8 51,.int .u8 22,.int .u8 53,.int .u8 39,.int .u8 33,.int .u8 30,.int .u8 24,.int .u8 18,.int .u8 12,.int .u8 5,.int .u8 63,.int .u8 55,.int .u8 48,.int .u8 27,.int .u8 60,.int .u8 41,.int .u8 37,.int .u8 16,.int .u8 46,.int .u8 35,.int .u8 44,.int .u8 21,.int .u8 52,.int .u8 32,.int .u8 23,.int .u8 11,.int .u8 54,.int .u8 26,.int .u8 40,.int .u8 15,.int .u8 34,.int .u8 20,.int .u8 31,.int .u8 10,.int .u8 25,.int .u8 14,.int .u8 19,.int .u8 9,.int .u8 13,.int .u8 8,.int .u8 7,.int .u8 6])
  3 #[.int .u64 1,.int .u64 10,.int .u64 100,.int .u64 1000,.int .u64 10000,.int .u64 100000,.int .u64 1000000,.int .u64 10000000,.int .u64 100000000,.int .u64 1000000000,.int .u64 10000000000,.int .u64 100000000000,.int .u64 1000000000000,.int .u64 10000000000000,.int .u64 100000000000000,.int .u64 1000000000000000,.int .u64 10000000000000000,.int .u64 100000000000000000,.int .u64 1000000000000000000,.int .u64 10000000000000000000]
end
end Go.Proofs.YtofdpfpdocpbpaaGreatDoor
