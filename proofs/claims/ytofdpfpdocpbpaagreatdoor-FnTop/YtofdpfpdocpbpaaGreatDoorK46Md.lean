/- The law's desk: the tables of its rules, and what its clocks show. -/
import Derived.Test.YtofdpfpdocpbpaaGreatDoorKLd
set_option maxHeartbeats 20000000
set_option linter.unusedSimpArgs false
namespace Go.Proofs.YtofdpfpdocpbpaaGreatDoor
open Go.RowKit
def tmAt:List Int:=[-62135596800,323226000,341370000,354675600,372819600,386125200,404874000,417574800,436323600,449024400,467773200,481078800,499222800,512528400,530672400,543978000,562122000,575427600,594176400,606877200,625626000,638326800,657075600,670381200,688525200,701830800,719974800,733280400,752029200,764730000,783478800,796179600,814928400,828234000,846378000,859683600,877827600,891133200,909277200,922582800,941331600,954032400,972781200,985482000,1004230800,1017536400,1035680400,1048986000,1067130000,1080435600,1099184400,1111885200,1130634000,1143334800,1162083600,1174784400,1193533200,1206838800,1224982800,1238288400,1256432400,1269738000,1288486800,1301187600,1319936400,1332637200,1351386000,1364691600,1382835600,1396141200,1414285200,1427590800,1445734800,1459040400,1477789200,1490490000,1509238800,1521939600,1540688400,1553994000,1572138000,1585443600,1603587600,1616893200,1635642000,1648342800,1667091600,1679792400,1698541200,1711846800,1729990800,1743296400,1761440400,1774746000,1792890000,1806195600,1824944400,1837645200,1856394000,1869094800,1887843600,1901149200,1919293200,1932598800,1950742800,1964048400,1982797200,1995498000,2014246800,2026947600,2045696400,2058397200,2077146000,2090451600,2108595600,2121901200,2140045200]
def tmK:Bool->List Int->List TurnD
 |_,[]=>[]
 |true,a::l=>⟨a,7200,3600,⟨#[67,69,83,84]⟩⟩::tmK false l
 |false,a::l=>⟨a,3600,0,⟨#[67,69,84]⟩⟩::tmK true l
def tM:List TurnD:=tmK false tmAt
theorem jv3:tabD (relC sMax) (jat (relC sMax) ⟨#[80]⟩).name=(0,tM.take 117):=by kernel_rfl
theorem jv5:∀c,c<30->tabD (relC (yS c)) (jat (relC (yS c)) ⟨#[80]⟩).name=(0,tM.take (23+2*c))
 |0,_=>by as_aux_lemma=>kernel_rfl
 |1,_=>by as_aux_lemma=>kernel_rfl
 |2,_=>by as_aux_lemma=>kernel_rfl
 |3,_=>by as_aux_lemma=>kernel_rfl
 |4,_=>by as_aux_lemma=>kernel_rfl
 |5,_=>by as_aux_lemma=>kernel_rfl
 |6,_=>by as_aux_lemma=>kernel_rfl
 |7,_=>by as_aux_lemma=>kernel_rfl
 |8,_=>by as_aux_lemma=>kernel_rfl
 |9,_=>by as_aux_lemma=>kernel_rfl
 |10,_=>by as_aux_lemma=>kernel_rfl
 |11,_=>by as_aux_lemma=>kernel_rfl
 |12,_=>by as_aux_lemma=>kernel_rfl
 |13,_=>by as_aux_lemma=>kernel_rfl
 |14,_=>by as_aux_lemma=>kernel_rfl
 |15,_=>by as_aux_lemma=>kernel_rfl
 |16,_=>by as_aux_lemma=>kernel_rfl
 |17,_=>by as_aux_lemma=>kernel_rfl
 |18,_=>by as_aux_lemma=>kernel_rfl
 |19,_=>by as_aux_lemma=>kernel_rfl
 |20,_=>by as_aux_lemma=>kernel_rfl
 |21,_=>by as_aux_lemma=>kernel_rfl
 |22,_=>by as_aux_lemma=>kernel_rfl
 |23,_=>by as_aux_lemma=>kernel_rfl
 |24,_=>by as_aux_lemma=>kernel_rfl
 |25,_=>by as_aux_lemma=>kernel_rfl
 |26,_=>by as_aux_lemma=>kernel_rfl
 |27,_=>by as_aux_lemma=>kernel_rfl
 |28,_=>by as_aux_lemma=>kernel_rfl
 |29,_=>by as_aux_lemma=>kernel_rfl
 |_+30,h=>absurd h (by omega)
def chkM(k y:Nat)(b:Bool):Bool:=(momT (0,tM.take k) (e1 y)==(if b then wal1 y-7200 else wal1 y-3600,true))&&(momT (0,tM.take k) (e2 y)==(wal2 y-3600,true))
theorem jsr:(List.range 30).all (fun y=>chkM 117 y true)=true:=by kernel_rfl
theorem jss:∀c,c<30->(List.range 30).all (fun y=>chkM (23+2*c) y (decide (y<=c)))=true
 |0,_=>by as_aux_lemma=>kernel_rfl
 |1,_=>by as_aux_lemma=>kernel_rfl
 |2,_=>by as_aux_lemma=>kernel_rfl
 |3,_=>by as_aux_lemma=>kernel_rfl
 |4,_=>by as_aux_lemma=>kernel_rfl
 |5,_=>by as_aux_lemma=>kernel_rfl
 |6,_=>by as_aux_lemma=>kernel_rfl
 |7,_=>by as_aux_lemma=>kernel_rfl
 |8,_=>by as_aux_lemma=>kernel_rfl
 |9,_=>by as_aux_lemma=>kernel_rfl
 |10,_=>by as_aux_lemma=>kernel_rfl
 |11,_=>by as_aux_lemma=>kernel_rfl
 |12,_=>by as_aux_lemma=>kernel_rfl
 |13,_=>by as_aux_lemma=>kernel_rfl
 |14,_=>by as_aux_lemma=>kernel_rfl
 |15,_=>by as_aux_lemma=>kernel_rfl
 |16,_=>by as_aux_lemma=>kernel_rfl
 |17,_=>by as_aux_lemma=>kernel_rfl
 |18,_=>by as_aux_lemma=>kernel_rfl
 |19,_=>by as_aux_lemma=>kernel_rfl
 |20,_=>by as_aux_lemma=>kernel_rfl
 |21,_=>by as_aux_lemma=>kernel_rfl
 |22,_=>by as_aux_lemma=>kernel_rfl
 |23,_=>by as_aux_lemma=>kernel_rfl
 |24,_=>by as_aux_lemma=>kernel_rfl
 |25,_=>by as_aux_lemma=>kernel_rfl
 |26,_=>by as_aux_lemma=>kernel_rfl
 |27,_=>by as_aux_lemma=>kernel_rfl
 |28,_=>by as_aux_lemma=>kernel_rfl
 |29,_=>by as_aux_lemma=>kernel_rfl
 |_+30,h=>absurd h (by omega)
def at1(y c:Nat):Int:=if y<=c then wal1 y-7200 else wal1 y-3600
theorem jh9{y:Nat}(hy:y<30):momD (relC sMax) (e1 y)=(wal1 y-7200,true):=by
 have h:=jgg jsr hy
 unfold chkM at h
 simp only[Bool.and_eq_true,beq_iff_eq]at h
 show momT (tabD (relC sMax) (jat (relC sMax) ⟨#[80]⟩).name) (e1 y)=_
 rw[jv3,h.1]
 rfl
theorem jrv{y:Nat}(hy:y<30):momD (relC sMax) (e2 y)=(wal2 y-3600,true):=by
 have h:=jgg jsr hy
 unfold chkM at h
 simp only[Bool.and_eq_true,beq_iff_eq]at h
 show momT (tabD (relC sMax) (jat (relC sMax) ⟨#[80]⟩).name) (e2 y)=_
 rw[jv3,h.2]
theorem jrw{y c:Nat}(hy:y<30)(hc:c<30):momD (relC (yS c)) (e1 y)=(at1 y c,true):=by
 have h:=jgg (jss c hc) hy
 unfold chkM at h
 simp only[Bool.and_eq_true,beq_iff_eq]at h
 show momT (tabD (relC (yS c)) (jat (relC (yS c)) ⟨#[80]⟩).name) (e1 y)=_
 rw[jv5 c hc,h.1]
 unfold at1
 simp only[decide_eq_true_eq]
theorem j8h{y c:Nat}(hy:y<30)(hc:c<30):momD (relC (yS c)) (e2 y)=(wal2 y-3600,true):=by
 have h:=jgg (jss c hc) hy
 unfold chkM at h
 simp only[Bool.and_eq_true,beq_iff_eq]at h
 show momT (tabD (relC (yS c)) (jat (relC (yS c)) ⟨#[80]⟩).name) (e2 y)=_
 rw[jv5 c hc,h.2]
end Go.Proofs.YtofdpfpdocpbpaaGreatDoor
