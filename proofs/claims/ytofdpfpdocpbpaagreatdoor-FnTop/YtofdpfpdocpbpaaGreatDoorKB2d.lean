/- Packed. -/
import Derived.Test.YtofdpfpdocpbpaaGreatDoorJAd
set_option maxRecDepth 20000
set_option maxHeartbeats 20000000
set_option linter.unusedSimpArgs false
namespace Go.Proofs.YtofdpfpdocpbpaaGreatDoor
section
open Go.RowKit
theorem RdP.undrew{w:World}{b:Nat}{fs:List FormD}{ws:List ByteArray}{l0:List Value}{q:Ending}{w':World}(h:RdP w.drew b fs ws l0 q w'):RdP w b fs ws l0 q w':=⟨h.end_,(jb4 (jaa w) b).trans h.grown,h.var,h.vex⟩
def fs_put:List FormD:=[.the ⟨#[112,117,116]⟩,.num 0,.any 1,.any 2,.any 6,.any 7,.num 4,.num 5]
def z_put:List Value:=[.int .i64 0,.string ⟨#[]⟩,.string ⟨#[]⟩,.int .i64 0,.int .i64 0,.int .i64 0,.string ⟨#[]⟩,.string ⟨#[]⟩]
def fs_drop:List FormD:=[.the ⟨#[100,114,111,112]⟩,.num 0]
def z_drop:List Value:=[.int .i64 0]
def fs_batch:List FormD:=[.the ⟨#[98,97,116,99,104]⟩,.num 0]
def z_batch:List Value:=[.int .i64 0]
def fs_at:List FormD:=[.the ⟨#[97,116]⟩,.num 0]
def z_at:List Value:=[.int .i64 0]
def fs_find:List FormD:=[.the ⟨#[102,105,110,100]⟩,.any 0,.any 1,.any 2,.any 3]
def z_find:List Value:=[.string ⟨#[]⟩,.string ⟨#[]⟩,.string ⟨#[]⟩,.string ⟨#[]⟩]
def fs_asof:List FormD:=[.the ⟨#[97,115,111,102]⟩,.num 0]
def z_asof:List Value:=[.int .i64 0]
theorem j0r(line:ByteArray)(ws:List ByteArray)(b:Nat)(w:World)(hL:Jt line ws)(hM:MxJ w)(hV:Zc w b z_put):
  Calls Tryz.prog 376 #[.pointer (some ⟨b,0,none⟩),.string line] w (RdP w b fs_put ws z_put):=by
 have hlt:b<w.heap.size:=qbl (hV.c 0 rfl)
 have hMt:=jam fs_put line ws z_put b w.drew 8 hL (hM.of_below (jaa w)) (hV.below (jaa w)) hlt (by intro f hf;simp[fs_put]at hf;rcases hf with rfl|rfl|rfl|rfl|rfl|rfl|rfl|rfl<;>simp[FormD.inN,z_put]) (by simp[fs_put])
 rw[show fs_put.length=8 from rfl]at hMt
 have k1:=fun s W=>jaw s W
 have k2:=fun p W=>ja7 p W
 have k3:=fun p W=>jco p W
 clear hV hL hM
 go_enter Tryz.func376,Tryz.ntmps376
 go_wp2_with fail
 go_region_held3 (fun _=>True) (trivial) (first|(go_at_call 13;refine Calls.mono (w:=jak w.drew (asF b w.drew.heap.size fs_put)) hMt ?_;rintro q w2 hP;have hq:=hP.end_;subst hq)|(go_at_call 14;refine(k1 _ _).mono ?_;rintro q w' ⟨rfl,rfl⟩)|(go_at_call 16;refine(k2 _ _).mono ?_;rintro q w' ⟨rfl,rfl⟩)|(go_at_call 326;refine(k3 _ _).mono ?_;rintro q w' ⟨rfl,rfl⟩)|fail)
 all_goals
  have HP:=hidQ hP.undrew
  clear hP hMt
  generalize okF fs_put ws=ob at *
  go_wp2
  go_ret
  exact HP.out
theorem jws(line:ByteArray)(ws:List ByteArray)(b:Nat)(w:World)(hL:Jt line ws)(hM:MxJ w)(hV:Zc w b z_drop):
  Calls Tryz.prog 377 #[.pointer (some ⟨b,0,none⟩),.string line] w (RdP w b fs_drop ws z_drop):=by
 have hlt:b<w.heap.size:=qbl (hV.c 0 rfl)
 have hMt:=jam fs_drop line ws z_drop b w.drew 2 hL (hM.of_below (jaa w)) (hV.below (jaa w)) hlt (by intro f hf;simp[fs_drop]at hf;rcases hf with rfl|rfl<;>simp[FormD.inN,z_drop]) (by simp[fs_drop])
 rw[show fs_drop.length=2 from rfl]at hMt
 have k1:=fun s W=>jaw s W
 have k2:=fun p W=>ja7 p W
 clear hV hL hM
 go_enter Tryz.func377,Tryz.ntmps377
 go_wp2_with fail
 go_region_held3 (fun _=>True) (trivial) (first|(go_at_call 13;refine Calls.mono (w:=jak w.drew (asF b w.drew.heap.size fs_drop)) hMt ?_;rintro q w2 hP;have hq:=hP.end_;subst hq)|(go_at_call 14;refine(k1 _ _).mono ?_;rintro q w' ⟨rfl,rfl⟩)|(go_at_call 16;refine(k2 _ _).mono ?_;rintro q w' ⟨rfl,rfl⟩)|fail)
 all_goals
  have HP:=hidQ hP.undrew
  clear hP hMt
  generalize okF fs_drop ws=ob at *
  go_wp2
  go_ret
  exact HP.out
theorem jtl(line:ByteArray)(ws:List ByteArray)(b:Nat)(w:World)(hL:Jt line ws)(hM:MxJ w)(hV:Zc w b z_batch):
  Calls Tryz.prog 380 #[.pointer (some ⟨b,0,none⟩),.string line] w (RdP w b fs_batch ws z_batch):=by
 have hlt:b<w.heap.size:=qbl (hV.c 0 rfl)
 have hMt:=jam fs_batch line ws z_batch b w.drew 2 hL (hM.of_below (jaa w)) (hV.below (jaa w)) hlt (by intro f hf;simp[fs_batch]at hf;rcases hf with rfl|rfl<;>simp[FormD.inN,z_batch]) (by simp[fs_batch])
 rw[show fs_batch.length=2 from rfl]at hMt
 have k1:=fun s W=>jaw s W
 have k2:=fun p W=>ja7 p W
 clear hV hL hM
 go_enter Tryz.func380,Tryz.ntmps380
 go_wp2_with fail
 go_region_held3 (fun _=>True) (trivial) (first|(go_at_call 13;refine Calls.mono (w:=jak w.drew (asF b w.drew.heap.size fs_batch)) hMt ?_;rintro q w2 hP;have hq:=hP.end_;subst hq)|(go_at_call 14;refine(k1 _ _).mono ?_;rintro q w' ⟨rfl,rfl⟩)|(go_at_call 16;refine(k2 _ _).mono ?_;rintro q w' ⟨rfl,rfl⟩)|fail)
 all_goals
  have HP:=hidQ hP.undrew
  clear hP hMt
  generalize okF fs_batch ws=ob at *
  go_wp2
  go_ret
  exact HP.out
theorem j5g(line:ByteArray)(ws:List ByteArray)(b:Nat)(w:World)(hL:Jt line ws)(hM:MxJ w)(hV:Zc w b z_at):
  Calls Tryz.prog 381 #[.pointer (some ⟨b,0,none⟩),.string line] w (RdP w b fs_at ws z_at):=by
 have hlt:b<w.heap.size:=qbl (hV.c 0 rfl)
 have hMt:=jam fs_at line ws z_at b w.drew 2 hL (hM.of_below (jaa w)) (hV.below (jaa w)) hlt (by intro f hf;simp[fs_at]at hf;rcases hf with rfl|rfl<;>simp[FormD.inN,z_at]) (by simp[fs_at])
 rw[show fs_at.length=2 from rfl]at hMt
 have k1:=fun s W=>jaw s W
 have k2:=fun p W=>ja7 p W
 clear hV hL hM
 go_enter Tryz.func381,Tryz.ntmps381
 go_wp2_with fail
 go_region_held3 (fun _=>True) (trivial) (first|(go_at_call 13;refine Calls.mono (w:=jak w.drew (asF b w.drew.heap.size fs_at)) hMt ?_;rintro q w2 hP;have hq:=hP.end_;subst hq)|(go_at_call 14;refine(k1 _ _).mono ?_;rintro q w' ⟨rfl,rfl⟩)|(go_at_call 16;refine(k2 _ _).mono ?_;rintro q w' ⟨rfl,rfl⟩)|fail)
 all_goals
  have HP:=hidQ hP.undrew
  clear hP hMt
  generalize okF fs_at ws=ob at *
  go_wp2
  go_ret
  exact HP.out
theorem jwr(line:ByteArray)(ws:List ByteArray)(b:Nat)(w:World)(hL:Jt line ws)(hM:MxJ w)(hV:Zc w b z_find):
  Calls Tryz.prog 382 #[.pointer (some ⟨b,0,none⟩),.string line] w (RdP w b fs_find ws z_find):=by
 have hlt:b<w.heap.size:=qbl (hV.c 0 rfl)
 have hMt:=jam fs_find line ws z_find b w.drew 5 hL (hM.of_below (jaa w)) (hV.below (jaa w)) hlt (by intro f hf;simp[fs_find]at hf;rcases hf with rfl|rfl|rfl|rfl|rfl<;>simp[FormD.inN,z_find]) (by simp[fs_find])
 rw[show fs_find.length=5 from rfl]at hMt
 have k1:=fun s W=>jaw s W
 have k3:=fun p W=>jco p W
 clear hV hL hM
 go_enter Tryz.func382,Tryz.ntmps382
 go_wp2_with fail
 go_region_held3 (fun _=>True) (trivial) (first|(go_at_call 13;refine Calls.mono (w:=jak w.drew (asF b w.drew.heap.size fs_find)) hMt ?_;rintro q w2 hP;have hq:=hP.end_;subst hq)|(go_at_call 14;refine(k1 _ _).mono ?_;rintro q w' ⟨rfl,rfl⟩)|(go_at_call 326;refine(k3 _ _).mono ?_;rintro q w' ⟨rfl,rfl⟩)|fail)
 all_goals
  have HP:=hidQ hP.undrew
  clear hP hMt
  generalize okF fs_find ws=ob at *
  go_wp2
  go_ret
  exact HP.out
theorem jwt(line:ByteArray)(ws:List ByteArray)(b:Nat)(w:World)(hL:Jt line ws)(hM:MxJ w)(hV:Zc w b z_asof):
  Calls Tryz.prog 383 #[.pointer (some ⟨b,0,none⟩),.string line] w (RdP w b fs_asof ws z_asof):=by
 have hlt:b<w.heap.size:=qbl (hV.c 0 rfl)
 have hMt:=jam fs_asof line ws z_asof b w.drew 2 hL (hM.of_below (jaa w)) (hV.below (jaa w)) hlt (by intro f hf;simp[fs_asof]at hf;rcases hf with rfl|rfl<;>simp[FormD.inN,z_asof]) (by simp[fs_asof])
 rw[show fs_asof.length=2 from rfl]at hMt
 have k1:=fun s W=>jaw s W
 have k2:=fun p W=>ja7 p W
 clear hV hL hM
 go_enter Tryz.func383,Tryz.ntmps383
 go_wp2_with fail
 go_region_held3 (fun _=>True) (trivial) (first|(go_at_call 13;refine Calls.mono (w:=jak w.drew (asF b w.drew.heap.size fs_asof)) hMt ?_;rintro q w2 hP;have hq:=hP.end_;subst hq)|(go_at_call 14;refine(k1 _ _).mono ?_;rintro q w' ⟨rfl,rfl⟩)|(go_at_call 16;refine(k2 _ _).mono ?_;rintro q w' ⟨rfl,rfl⟩)|fail)
 all_goals
  have HP:=hidQ hP.undrew
  clear hP hMt
  generalize okF fs_asof ws=ob at *
  go_wp2
  go_ret
  exact HP.out
def jip(line:ByteArray):ByteArray:=⟨(Lib.trimPrefix line.data.toList [114,117,108,101,115,32]).toArray⟩
def jd8(line:ByteArray):ByteArray:=⟨(Lib.replaceAll (jip line).data.toList [59] [10]).toArray⟩
theorem jtk(line:ByteArray)(b:Nat)(w:World)(hM:MxJ w)(hV:Zc w b [.string ⟨#[]⟩])(h1:(jip line).size<=10000)(h2:Lib.countB (jip line) ⟨#[59]⟩<=10000):
  Calls Tryz.prog 378 #[.pointer (some ⟨b,0,none⟩),.string line] w fun q w'=>q=.returned (.bool (Lib.hasPrefix line.data.toList [114,117,108,101,115,32]))/\w.grownBy w' (some b)/\Zc w' b [.string (jd8 line)]:=by
 obtain⟨m,hm⟩:=hM
 have hC:=fun W=>Tryz.strings_CutPrefix line ⟨#[114,117,108,101,115,32]⟩ W
 have hR:=Tryz.strings_ReplaceAll (jip line) ⟨#[59]⟩ ⟨#[10]⟩ m w (by omega) hm (by decide) (by rw[show(⟨#[10]⟩:ByteArray).size=1 from rfl];omega)
 have e0:=hV.c 0 rfl
 have hlt:=qbl e0
 have HF:=hidQ (fun w' (hb:Below w.heap.size w w')=>And.intro ((hV.below hb).f 0 (u:=.string ⟨#[]⟩) rfl) (And.intro ((jb4 hb b).trans (jae w' b 0 (.string (jd8 line)))) ((hV.below hb).set (j:=0) (.string (jd8 line)))))
 have HE:=hidQ (fun w' (hb:Below w.heap.size w w')=>jab hb e0)
 change ∀W,Calls Tryz.prog 242 #[.string line,.string ⟨#[114,117,108,101,115,32]⟩] W fun e w'=>e=.returned (.tuple #[.string (jip line),.bool (Lib.hasPrefix line.data.toList [114,117,108,101,115,32])])/\w'=W at hC
 change Calls Tryz.prog 379 #[.string (jip line),.string ⟨#[59]⟩,.string ⟨#[10]⟩] w fun e w'=>e=.returned (.string (jd8 line))/\Below w.heap.size w w' at hR
 clear hV hm h1 h2
 generalize Lib.hasPrefix line.data.toList [114,117,108,101,115,32]=hp at *
 generalize jip line=rs at *
 generalize jd8 line=rt at *
 go_enter Tryz.func378,Tryz.ntmps378
 go_wp2_with fail
 refine(hC _).mono ?_
 rintro q w1 ⟨rfl,hw⟩
 subst hw
 go_wp2_with fail
 refine hR.mono ?_
 rintro q w2 ⟨rfl,hb⟩
 obtain⟨f0,hg,hv⟩:=HF.out _ hb
 have e1:=HE.out _ hb
 have HP:=hidQ (And.intro hg hv)
 clear hg hv HF HE hb hR hC e0
 go_wp2
 go_ret
 exact⟨rfl,HP.out.1,HP.out.2⟩
end
section
open Go.RowKit
def cmdZ:Nat->List Value
 |0=>z_put
 |1=>z_drop
 |2=>[.string ⟨#[]⟩]
 |3=>z_batch
 |4=>z_at
 |5=>z_find
 |_=>z_asof
def cmdF:Nat->List FormD
 |0=>fs_put
 |1=>fs_drop
 |3=>fs_batch
 |4=>fs_at
 |5=>fs_find
 |_=>fs_asof
def cmdT:Nat->TypeId
 |0=>157
 |1=>158
 |2=>159
 |3=>160
 |4=>161
 |5=>162
 |_=>163
def cmdS:Nat->TypeId
 |0=>167
 |1=>169
 |2=>171
 |3=>173
 |4=>174
 |5=>176
 |_=>178
def cmdN:Nat->FuncId
 |0=>376
 |1=>377
 |2=>378
 |3=>380
 |4=>381
 |5=>382
 |_=>383
def cmdB(line:ByteArray)(ws:List ByteArray)(j:Nat):Bool:=if j=2 then Lib.hasPrefix line.data.toList [114,117,108,101,115,32]else okF (cmdF j) ws
def cmdR(line:ByteArray)(ws:List ByteArray)(j:Nat):List Value:=if j=2 then [.string (jd8 line)]else runF (cmdF j) ws (cmdZ j)
structure Ji(line:ByteArray)(ws:List ByteArray):Prop where
 w:Jt line ws
 nl:decide (0<=Lib.indexByte line.data.toList 10)=false
 r1:(jip line).size<=10000
 r2:Lib.countB (jip line) ⟨#[59]⟩<=10000
theorem jk6{line:ByteArray}{ws:List ByteArray}{b:Nat}{w:World}{fs:List FormD}{l0:List Value}{K:FuncId}(h:Calls Tryz.prog K #[.pointer (some ⟨b,0,none⟩),.string line] w (RdP w b fs ws l0)):Calls Tryz.prog K #[.pointer (some ⟨b,0,none⟩),.string line] w fun q w'=>q=.returned (.bool (okF fs ws))/\w.grownBy w' (some b)/\(okF fs ws=true->Zc w' b (runF fs ws l0)):=h.mono fun _ _ hP=>⟨hP.end_,hP.grown,hP.var⟩
theorem j25{line:ByteArray}{ws:List ByteArray}(hL:Ji line ws):∀(j b:Nat) (w:World),j<7->MxJ w->Zc w b (cmdZ j)->Calls Tryz.prog (cmdN j) #[.pointer (some ⟨b,0,none⟩),.string line] w fun q w'=>q=.returned (.bool (cmdB line ws j))/\w.grownBy w' (some b)/\(cmdB line ws j=true->Zc w' b (cmdR line ws j))
 |0,b,w,_,hM,hV=>jk6 (j0r line ws b w hL.w hM hV)
 |1,b,w,_,hM,hV=>jk6 (jws line ws b w hL.w hM hV)
 |2,b,w,_,hM,hV=>(jtk line b w hM hV hL.r1 hL.r2).mono fun _ _ hP=>⟨hP.1,hP.2.1,fun _=>hP.2.2⟩
 |3,b,w,_,hM,hV=>jk6 (jtl line ws b w hL.w hM hV)
 |4,b,w,_,hM,hV=>jk6 (j5g line ws b w hL.w hM hV)
 |5,b,w,_,hM,hV=>jk6 (jwr line ws b w hL.w hM hV)
 |6,b,w,_,hM,hV=>jk6 (jwt line ws b w hL.w hM hV)
 |n+7,_,_,h,_,_=>absurd h (by omega)
def cmdV(b:Nat):List Value:=[.iface 157 (.pointer (some ⟨b,0,none⟩)),.iface 158 (.pointer (some ⟨b+1,0,none⟩)),.iface 159 (.pointer (some ⟨b+2,0,none⟩)),.iface 160 (.pointer (some ⟨b+3,0,none⟩)),.iface 161 (.pointer (some ⟨b+4,0,none⟩)),.iface 162 (.pointer (some ⟨b+5,0,none⟩)),.iface 163 (.pointer (some ⟨b+6,0,none⟩))]
theorem j61:∀(j b:Nat),j<7->(cmdV b)[j]? =some (.iface (cmdT j) (.pointer (some ⟨b+j,0,none⟩)))
 |0,_,_=>rfl
 |1,_,_=>rfl
 |2,_,_=>rfl
 |3,_,_=>rfl
 |4,_,_=>rfl
 |5,_,_=>rfl
 |6,_,_=>rfl
 |n+7,_,h=>absurd h (by omega)
def cmdA(b:Nat):List (List Value × TypeId):=[(z_put,167),(z_drop,169),([.string ⟨#[]⟩],171),(z_batch,173),(z_at,174),(z_find,176),(z_asof,178),(cmdV b,117)]
theorem j62:∀(j b:Nat),j<7->(cmdA b)[j]? =some (cmdZ j,cmdS j)
 |0,_,_=>rfl
 |1,_,_=>rfl
 |2,_,_=>rfl
 |3,_,_=>rfl
 |4,_,_=>rfl
 |5,_,_=>rfl
 |6,_,_=>rfl
 |n+7,_,h=>absurd h (by omega)
structure CmdI(w:World)(i:Nat)(wr:World):Prop where
 bel:Below w.heap.size w wr
 var:∀j,i<=j->j<7->Zc wr (w.heap.size+j) (cmdZ j)
 row:∀j v,(cmdV w.heap.size)[j]? =some v->wr.cell? ⟨w.heap.size+7,j,none⟩=some v
 mx:MxJ w
theorem CmdI.start{w:World}(hM:MxJ w):CmdI w 0 (jak w (cmdA w.heap.size)):=⟨jax _ _,fun j _ hj=>jch _ _ j (j62 j _ hj),fun j _ hv=>(jch (cmdA w.heap.size) w 7 rfl).c j hv,hM⟩
theorem CmdI.next{w wr w':World}{i:Nat}(h:CmdI w i wr)(hg:wr.grownBy w' (some (w.heap.size+i)))(hi:i<7):CmdI w (i+1) w':=by
 have hb:=h.bel.grown hg h.bel.size (fun j hj=>by injection hj with hj;omega)
 exact⟨hb,fun j h1 h2=>(h.var j (by omega) h2).app hg (by simp;omega),fun j v hv=>hg.cell (h.row j v hv) (by simp;omega),h.mx⟩
theorem jus : ∀ (j : Nat) (n : Nat) (p : Option Addr) (w : World), j < 7 -> (method (n + 1) (cmdT j) (.pointer p) "loop.example/g00364/impl.read").run Tryz.prog w = .ok (cmdN j, .pointer p) w
 |0,_,_,_,_=>by kernel_rfl
 |1,_,_,_,_=>by kernel_rfl
 |2,_,_,_,_=>by kernel_rfl
 |3,_,_,_,_=>by kernel_rfl
 |4,_,_,_,_=>by kernel_rfl
 |5,_,_,_,_=>by kernel_rfl
 |6,_,_,_,_=>by kernel_rfl
 |_+7,_,_,_,h=>absurd h (by omega)
theorem jq3 : ∀ (j : Nat) (p : Option Addr) (w : World), j < 7 -> (method (Tryz.prog.types.size + Made.depth) (cmdT j) (.pointer p) "loop.example/g00364/impl.read").run Tryz.prog w = .ok (cmdN j, .pointer p) w
 |0,_,_,_=>by kernel_rfl
 |1,_,_,_=>by kernel_rfl
 |2,_,_,_=>by kernel_rfl
 |3,_,_,_=>by kernel_rfl
 |4,_,_,_=>by kernel_rfl
 |5,_,_,_=>by kernel_rfl
 |6,_,_,_=>by kernel_rfl
 |_+7,_,_,h=>absurd h (by omega)
theorem jy9:∀(j:Nat) (args:Array Value) (w:World),j<7->(callFunc (cmdN j) args).run Tryz.prog w=.ok (.enter (cmdN j) args) w
 |0,_,_,_=>by kernel_rfl
 |1,_,_,_=>by kernel_rfl
 |2,_,_,_=>by kernel_rfl
 |3,_,_,_=>by kernel_rfl
 |4,_,_,_=>by kernel_rfl
 |5,_,_,_=>by kernel_rfl
 |6,_,_,_=>by kernel_rfl
 |_+7,_,_,h=>absurd h (by omega)
theorem jkp{line:ByteArray}{ws:List ByteArray}(hL:Ji line ws)(k:Nat)(hk:k<7)(hno:∀j,j<k->cmdB line ws j=false)(hyes:cmdB line ws k=true)(w:World)(hM:MxJ w):
  Calls Tryz.prog 60 #[.string line] w fun q w'=>q=.returned (.iface (cmdT k) (.pointer (some ⟨w.heap.size+k,0,none⟩)))/\Zc w' (w.heap.size+k) (cmdR line ws k)/\Below w.heap.size w w':=by
 have hCt:=fun W=>Tryz.strings_Contains_one line 10 W
 rw[hL.nl]at hCt
 have HS:=hidQ (CmdI.start hM)
 have HRd:=hidQ (j25 hL)
 have HNo:=hidQ hno
 have HYes:=hidQ hyes
 clear hno hyes hL hM
 go_enter Tryz.func60,Tryz.ntmps60
 go_wp2_with fail
 refine(hCt _).mono ?_
 rintro q w1 ⟨rfl,hw⟩
 subst hw
 clear hCt
 go_wp2
 go_loopw [5,32] (fun _ t wr=>∃i:Nat,t=.int .i64 i/\i<=k/\Hid (CmdI w1 i wr)) (fun _ t _=>k-(intOf t).toNat)
 case atStart=>exact⟨0,rfl,by omega,HS⟩
 case round=>
  obtain⟨i,rfl,hik,HI⟩:=hrel
  have hi7:i<7:=by omega
  have hc:=HI.out.row i _ (j61 i _ hi7)
  have hR:=HRd.out i (w1.heap.size+i) wr hi7 (HI.out.mx.of_below HI.out.bel) (HI.out.var i (Nat.le_refl _) hi7)
  have hm1:=fun n=>jus i n (some ⟨w1.heap.size+i,0,none⟩) wr hi7
  have hen:=fun args W=>jy9 i args W hi7
  have hm2:=jq3 i (some ⟨w1.heap.size+i,0,none⟩) wr hi7
  by_cases e:i=k
  ·subst e
   rw[HYes.out]at hR
   have HBel:=hidQ HI.out.bel
   clear HS HRd HNo HYes HI hik
   obtain⟨T,hT⟩:∃x,cmdT i=x:=⟨_,rfl⟩
   have HT:=hidQ hT
   simp only[hT]at hc hm1 hm2
   clear hT
   generalize cmdN i=N at *
   go_wp2_with fail
   refine hR.mono ?_
   rintro q w2 ⟨rfl,hg,hv⟩
   have HP:=hidQ (And.intro (hv trivial) (HBel.out.grown hg HBel.out.size (fun j hj=>by injection hj with hj;omega)))
   clear hR hg hv hm1 hm2 hen hc HBel
   go_wp2
   go_ret
   exact⟨by rw[HT.out];rfl,HP.out.1,HP.out.2⟩
  ·rw[HNo.out i (by omega)]at hR
   have HX:=hidQ (fun w' (hg:wr.grownBy w' (some (w1.heap.size+i)))=>HI.out.next hg hi7)
   clear HS HI
   generalize cmdT i=T at *
   generalize cmdN i=N at *
   go_wp2_with fail
   refine hR.mono ?_
   rintro q w2 ⟨rfl,hg,_⟩
   have HI2:=hidQ (HX.out _ hg)
   clear hR hg hm1 hm2 hen hc HX
   go_wp2
   go_roundw
   case rel=>exact⟨i+1,by go_num,by omega,HI2⟩
   case measure=>simp[intOf];omega
end
end Go.Proofs.YtofdpfpdocpbpaaGreatDoor
