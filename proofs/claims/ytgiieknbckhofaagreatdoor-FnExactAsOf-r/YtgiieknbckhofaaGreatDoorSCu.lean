/- Packed. -/
import Derived.Test.YtgiieknbckhofaaGreatDoorSAu
import Derived.Test.YtgiieknbckhofaaGreatDoorOffPu
import Derived.Test.YtgiieknbckhofaaGreatDoorRightQu
import Derived.Test.YtgiieknbckhofaaGreatDoorStrTu
set_option maxRecDepth 100000
set_option maxHeartbeats 20000000
set_option linter.unusedSimpArgs false
namespace Go.Proofs.YtgiieknbckhofaaGreatDoor
section
open Go.RowKit
def jbm (e : EventD) : Bool := isB e.id 1 1000000 && (jay e.name && (jay e.zone && (isB e.wall (-62135596800) 253402300799 && (isB e.gap 0 2 && isB e.fold 0 2))))
theorem jlm (e : EventD) (w : World) (m1 : e.name.size <= maxLen) (m2 : e.zone.size <= maxLen) :
  Cl 87 #[e.v] w fun r w' => r = .returned (.bool (jbm e)) /\ Bw w w' := by
 obtain ⟨id, name, zone, wall, gap, fold⟩ := e
 simp only [EventD.v, jbm] at *
 have hB := qal w (.cells #[iv id, .string name, .string zone, iv wall, iv gap, iv fold] 79)
 have k0 := fun w => jau id 1 1000000 w
 have k1 := fun w => jbv name w m1
 have k2 := fun w => jbv zone w m2
 have k3 := fun w => jlt wall w
 have k4 := fun w => jau gap 0 2 w
 have k5 := fun w => jau fold 0 2 w
 go_enter Tryz.func87, Tryz.ntmps87
 go_wp2_with fail
 refine (k0 _).mono ?_
 rintro e wx ⟨rfl, bJ⟩
 have dr := bJ.symm
 clear bJ
 subst dr
 cases h0 : isB id 1 1000000
 case false =>
  have H0 := hid h0
  clear h0
  go_wp2
  go_ret
  exact ⟨ret_bool (by rw [H0.out]; rfl), hB⟩
 have H0 := hid h0
 clear h0
 go_wp2_with fail
 refine (k1 _).mono ?_
 rintro e wx ⟨rfl, bJ⟩
 have dr := bJ.symm
 clear bJ
 subst dr
 cases h1 : jay name
 case false =>
  have H1 := hid h1
  clear h1
  go_wp2
  go_ret
  exact ⟨ret_bool (by rw [H0.out, H1.out]; rfl), hB⟩
 have H1 := hid h1
 clear h1
 go_wp2_with fail
 refine (k2 _).mono ?_
 rintro e wx ⟨rfl, bJ⟩
 have dr := bJ.symm
 clear bJ
 subst dr
 cases h2 : jay zone
 case false =>
  have H2 := hid h2
  clear h2
  go_wp2
  go_ret
  exact ⟨ret_bool (by rw [H0.out, H1.out, H2.out]; rfl), hB⟩
 have H2 := hid h2
 clear h2
 go_wp2_with fail
 refine (k3 _).mono ?_
 rintro e wx ⟨rfl, bJ⟩
 have dr := bJ.symm
 clear bJ
 subst dr
 cases h3 : isB wall (-62135596800) 253402300799
 case false =>
  have H3 := hid h3
  clear h3
  go_wp2
  go_ret
  exact ⟨ret_bool (by rw [H0.out, H1.out, H2.out, H3.out]; rfl), hB⟩
 have H3 := hid h3
 clear h3
 go_wp2_with fail
 refine (k4 _).mono ?_
 rintro e wx ⟨rfl, bJ⟩
 have dr := bJ.symm
 clear bJ
 subst dr
 cases h4 : isB gap 0 2
 case false =>
  have H4 := hid h4
  clear h4
  go_wp2
  go_ret
  exact ⟨ret_bool (by rw [H0.out, H1.out, H2.out, H3.out, H4.out]; rfl), hB⟩
 have H4 := hid h4
 clear h4
 go_wp2_with fail
 refine (k5 _).mono ?_
 rintro e wx ⟨rfl, bJ⟩
 have dr := bJ.symm
 clear bJ
 subst dr
 cases h5 : isB fold 0 2
 case false =>
  have H5 := hid h5
  clear h5
  go_wp2
  go_ret
  exact ⟨ret_bool (by rw [H0.out, H1.out, H2.out, H3.out, H4.out, H5.out]; rfl), hB⟩
 have H5 := hid h5
 clear h5
 go_wp2
 go_ret
 exact ⟨ret_bool (by rw [H0.out, H1.out, H2.out, H3.out, H4.out, H5.out]; rfl), hB⟩
theorem jjg (e : EventD) (w : World) (m1 : e.name.size <= maxLen) (m2 : e.zone.size <= maxLen) :
  Cl 96 #[e.v] w fun r w' => r = .returned (.bool (jbm e)) /\ Bw w w' := by
 obtain ⟨id, name, zone, wall, gap, fold⟩ := e
 simp only [EventD.v, jbm] at *
 have hB := qal w (.cells #[iv id, .string name, .string zone, iv wall, iv gap, iv fold] 79)
 have k1 := fun w => ja6 name w m1
 have k2 := fun w => ja6 zone w m2
 have k3 := fun w => jg2 wall w
 have k4 := fun w => jby gap w
 have k5 := fun w => jby fold w
 cases h0 : isB id 1 1000000
 case false =>
  have q : ¬ ((1 : Int) <= id /\ id <= 1000000) := of_decide_eq_false h0
  clear h0
  by_cases q1 : (1 : Int) <= id
  ·have q2 : ¬ id <= 1000000 := fun h => q ⟨q1, h⟩
   clear q
   go_enter Tryz.func96, Tryz.ntmps96
   go_wp2
   go_ret
   exact ⟨rfl, hB⟩
  ·clear q
   go_enter Tryz.func96, Tryz.ntmps96
   go_wp2
   go_ret
   exact ⟨rfl, hB⟩
 obtain ⟨q1, q2⟩ := jaw h0
 clear h0
 go_enter Tryz.func96, Tryz.ntmps96
 go_wp2_with fail
 refine (k1 _).mono ?_
 rintro e wx ⟨rfl, bJ⟩
 have dr := bJ.symm
 clear bJ
 subst dr
 cases h1 : jay name
 case false =>
  have H1 := hid h1
  clear h1
  go_wp2
  go_ret
  exact ⟨ret_bool (by rw [H1.out]; rfl), hB⟩
 have H1 := hid h1
 clear h1
 go_wp2_with fail
 refine (k2 _).mono ?_
 rintro e wx ⟨rfl, bJ⟩
 have dr := bJ.symm
 clear bJ
 subst dr
 cases h2 : jay zone
 case false =>
  have H2 := hid h2
  clear h2
  go_wp2
  go_ret
  exact ⟨ret_bool (by rw [H1.out, H2.out]; rfl), hB⟩
 have H2 := hid h2
 clear h2
 go_wp2_with fail
 refine (k3 _).mono ?_
 rintro e wx ⟨rfl, bJ⟩
 have dr := bJ.symm
 clear bJ
 subst dr
 cases h3 : isB wall (-62135596800) 253402300799
 case false =>
  have H3 := hid h3
  clear h3
  go_wp2
  go_ret
  exact ⟨ret_bool (by rw [H1.out, H2.out, H3.out]; rfl), hB⟩
 have H3 := hid h3
 clear h3
 go_wp2_with fail
 refine (k4 _).mono ?_
 rintro e wx ⟨rfl, bJ⟩
 have dr := bJ.symm
 clear bJ
 subst dr
 cases h4 : isB gap 0 2
 case false =>
  have H4 := hid h4
  clear h4
  go_wp2
  go_ret
  exact ⟨ret_bool (by rw [H1.out, H2.out, H3.out, H4.out]; rfl), hB⟩
 have H4 := hid h4
 clear h4
 go_wp2_with fail
 refine (k5 _).mono ?_
 rintro e wx ⟨rfl, bJ⟩
 have dr := bJ.symm
 clear bJ
 subst dr
 cases h5 : isB fold 0 2
 case false =>
  have H5 := hid h5
  clear h5
  go_wp2
  go_ret
  exact ⟨ret_bool (by rw [H1.out, H2.out, H3.out, H4.out, H5.out]; rfl), hB⟩
 have H5 := hid h5
 clear h5
 go_wp2
 go_ret
 exact ⟨ret_bool (by rw [H1.out, H2.out, H3.out, H4.out, H5.out]; rfl), hB⟩
end
section
open Go.RowKit Go.Sort
def je5 (a b : EventD) : Bool := decide (a.id = b.id) && ((a.name.toList == b.name.toList) && ((a.zone.toList == b.zone.toList) && (decide (a.wall = b.wall) && (decide (a.gap = b.gap) && decide (a.fold = b.fold)))))
theorem jo4 : ∃ a b c d e f g h i j k l m n o p q r, (Tryz.prog.fieldsOf 79).toList = [⟨ "Id", 2, 0, false, a, b, c⟩, ⟨ "Name", 9, 1, false, d, e, f⟩, ⟨ "Zone", 9, 2, false, g, h, i⟩, ⟨ "Wall", 2, 3, false, j, k, l⟩, ⟨ "Gap", 2, 4, false, m, n, o⟩, ⟨ "Fold", 2, 5, false, p, q, r⟩] := ⟨_, _, _, _, _, _, _, _, _, _, _, _, _, _, _, _, _, _, rfl⟩
theorem jsj (a b : EventD) (w : World) : (Op.equalIn 10000 79 (.agg #[iv a.id, .string a.name, .string a.zone, iv a.wall, iv a.gap, iv a.fold]) (.agg #[iv b.id, .string b.name, .string b.zone, iv b.wall, iv b.gap, iv b.fold])).run Tryz.prog w = .ok (je5 a b) w := by
 have ht : Tryz.prog.underlying 79 = some (.struct (Tryz.prog.fieldsOf 79)) := by kernel_rfl
 have hp : Tryz.prog.stoodInHeld 79 = false := by kernel_rfl
 obtain ⟨_, _, _, _, _, _, _, _, _, _, _, _, _, _, _, _, _, _, hf⟩ := jo4
 rw [run_equalIn_agg _ 9999 _ _ _ ht hp, hf]
 obtain ⟨a1, a2, a3, a4, a5, a6⟩ := a
 obtain ⟨b1, b2, b3, b4, b5, b6⟩ := b
 simp only [je5]
 simp [Op.eqFields, go_sem]
 by_cases h1 : a1 = b1
 ·by_cases h2 : a2.toList = b2.toList
  ·by_cases h3 : a3.toList = b3.toList
   ·by_cases h4 : a4 = b4
    ·by_cases h5 : a5 = b5
     ·by_cases h6 : a6 = b6
      ·simp [h1, h2, h3, h4, h5, h6]
      ·simp [h1, h2, h3, h4, h5, h6]
     ·simp [h1, h2, h3, h4, h5]
    ·simp [h1, h2, h3, h4]
   ·simp [h1, h2, h3]
  ·simp [h1, h2]
 ·simp [h1]
theorem jil (a b : EventD) (w : World) : (binOp .neq 79 (.agg #[iv a.id, .string a.name, .string a.zone, iv a.wall, iv a.gap, iv a.fold]) (.agg #[iv b.id, .string b.name, .string b.zone, iv b.wall, iv b.gap, iv b.fold])).run Tryz.prog w = .ok (.bool (!je5 a b)) w := by
 rw [run_neq_struct, jsj]; rfl
theorem jxi (a b : EventD) (w : World) : (binOp .eql 79 (.agg #[iv a.id, .string a.name, .string a.zone, iv a.wall, iv a.gap, iv a.fold]) (.agg #[iv b.id, .string b.name, .string b.zone, iv b.wall, iv b.gap, iv b.fold])).run Tryz.prog w = .ok (.bool (je5 a b)) w := by
 rw [run_eql_struct, jsj]; rfl
theorem jjl (op : BinOp) (x y : Operand) (v1 v2 : Array Value) (w : World) : (eqGuard op 79 x y (.agg v1) (.agg v2)).run Tryz.prog w = .ok () w := run_eqGuard_agg w _ _ _ _ _ _ (by kernel_rfl)
def jc3 (l : List VersionD) (i : Nat) (v : VersionD) : Bool := match jcs (l.take i) v.id with
 | some e => je5 e v.ev
 | none => false
def jd4 (l : List VersionD) : Nat -> Int
 | 0 => 0
 | k + 1 => match l[k]? with
  | some v => v.tx
  | none => 0
def verI (l : List VersionD) (aO : Int) (i : Nat) (v : VersionD) : Bool := decide (jd4 l i < v.tx) && (decide (v.tx <= aO) && (jbm v.ev && (!v.gone || jc3 l i v)))
def verK (l : List VersionD) (aO : Int) : Nat -> Bool
 | 0 => true
 | k + 1 => verK l aO k && (match l[k]? with
  | some v => verI l aO k v
  | none => true)
def verB (l : List VersionD) (aO : Int) : Bool := decide (l.length <= 60) && verK l aO l.length
theorem j1m {l : List VersionD} {aO : Int} {k : Nat} {v : VersionD} (hv : l[k]? = some v) (h : verI l aO k v = false) : ∀ {n : Nat}, k < n -> verK l aO n = false := by
 intro n
 induction n with
 | zero => intro hn; omega
 | succ n ih =>
  intro hn
  rw [verK]
  by_cases e : k = n
  ·subst e; rw [hv]; simp [h]
  ·rw [ih (by omega)]; rfl
theorem jyg {l : List VersionD} {aO : Int} {k : Nat} {v : VersionD} (hv : l[k]? = some v) (h : verI l aO k v = true) (hk : verK l aO k = true) : verK l aO (k + 1) = true := by rw [verK, hk, hv]; simp [h]
theorem juu {l : List VersionD} {aO : Int} (h : ¬ l.length <= 60) : verB l aO = false := by unfold verB; rw [dfe h]; rfl
theorem j1n {l : List VersionD} {aO : Int} (h : l.length <= 60) : verB l aO = verK l aO l.length := by unfold verB; rw [dte h]; rfl
theorem jt4 {l : List VersionD} {i : Nat} {v : VersionD} (h : jcl (l.take i) v.id = none) : jc3 l i v = false := by unfold jc3 jcs; rw [h]
theorem jt5 {l : List VersionD} {i k : Nat} {v x : VersionD} (h : jcl (l.take i) v.id = some k) (hx : (l.take i)[k]? = some x) (hg : x.gone = true) : jc3 l i v = false := by unfold jc3 jcs; rw [h]; simp only; rw [hx]; simp [hg]
theorem jz9 {l : List VersionD} {i k : Nat} {v x : VersionD} (h : jcl (l.take i) v.id = some k) (hx : (l.take i)[k]? = some x) (hg : x.gone = false) : jc3 l i v = je5 x.ev v.ev := by unfold jc3 jcs; rw [h]; simp only; rw [hx]; simp [hg]
theorem jg8 (l : List VersionD) (aO cur : Int) (r0 r1 r2 r3 r4 r5 va ia : Option Addr) (p0 q0 p1 q1 p2 q2 p3 q3 p4 q4 p5 q5 n cv ni ci : Nat) (w : World) (hA : Za w va 8 (l.map VersionD.cs)) (de : ∀ v ∈ l, v.ok) (hn : l.length = n) (hl : n <= 1048576) (lE : n <= cv) :
  Cl 50 #[.agg #[iv aO, .slice r0 p0 q0, .slice r1 p1 q1, .slice r2 p2 q2, .slice r3 p3 q3, .slice r4 p4 q4, .slice r5 p5 q5, iv cur, .slice va n cv, .slice ia ni ci]] w fun e w' => e = .returned (.bool (verB l aO)) /\ Bw w w' := by
 have ag : Bw w (w.alloc (.cells #[iv aO, .slice r0 p0 q0, .slice r1 p1 q1, .slice r2 p2 q2, .slice r3 p3 q3, .slice r4 p4 q4, .slice r5 p5 q5, iv cur, .slice va n cv, .slice ia ni ci] 42)) := qal _ _
 have mK := fun a b w => jil a b w
 have iX := fun op x y v1 v2 w => jjl op x y v1 v2 w
 by_cases K5 : 60 < n
 ·rw [juu (by omega)]
  have AN : (60 : Int) < (n : Int) := by omega
  go_enter Tryz.func50, Tryz.ntmps50
  go_wp2
  go_ret
  exact ⟨rfl, ag⟩
 have AN : ¬ (60 : Int) < (n : Int) := by omega
 obtain ⟨VB, qq⟩ := qeb (verB l aO)
 have HV : Hid (VB = verK l aO n) := by simp only [Hid]; rw [<- qq, j1n (by omega), hn]
 rw [qq]
 clear qq
 have HN := hid hn
 have HO := hid de
 obtain ⟨s0, s4⟩ : (fun z : World => z.cell? (ad w.heap.size 0) = some (iv aO) /\ z.cell? (ad w.heap.size 8) = some (.slice va n cv)) (w.alloc (.cells #[iv aO, .slice r0 p0 q0, .slice r1 p1 q1, .slice r2 p2 q2, .slice r3 p3 q3, .slice r4 p4 q4, .slice r5 p5 q5, iv cur, .slice va n cv, .slice ia ni ci] 42)) := by simp [go_sem]
 have eM := hA.below ag
 clear hn de hA
 go_enter Tryz.func50, Tryz.ntmps50
 go_wp2
 generalize (w.alloc (.cells #[iv aO, .slice r0 p0 q0, .slice r1 p1 q1, .slice r2 p2 q2, .slice r3 p3 q3, .slice r4 p4 q4, .slice r5 p5 q5, iv cur, .slice va n cv, .slice ia ni ci] 42)) = w0 at *
 go_loopw [3, 4, 5, 6] (fun t s _ _ wr => ∃ i : Nat, i <= n /\ s = iv i /\ t = iv (jd4 l i) /\ Hid (verK l aO i = true) /\ Bw w0 wr) (fun _ s _ _ _ => n - (intOf s).toNat)
 case atStart => exact ⟨0, by omega, rfl, rfl, rfl, brf _ _⟩
 case round =>
  obtain ⟨wa, eW⟩ := qea wr
  subst eW
  obtain ⟨i, hin, rfl, rfl, HK, aM⟩ := hrel
  have t0 := jaa aM s0
  have t4 := jaa aM s4
  have iI := eM.below aM
  have ck := qtr ag aM
  clear s0 s4 eM ag
  by_cases hlt : i < n
  ·have a1 : (i : Int) < (n : Int) := by omega
   have a0 : (0 : Int) <= (i : Int) := by omega
   have a2 : (i : Int) <= (cv : Int) := by omega
   obtain ⟨v, hv⟩ : ∃ v, l[i]? = some v := ⟨_, lgg (by have := HN.out; omega)⟩
   have ap : (l.map VersionD.cs)[i]? = some v.cs := by rw [lgm, hv]; rfl
   obtain ⟨b, ob, rfl, hc⟩ := iI.at (i := i) ap
   have c0 : wa.cell? (ad b (ob + i * 8)) = some (iv v.tx) := hc 0 _ rfl
   have c1 : wa.cell? (ad b (ob + i * 8 + 1)) = some (.bool v.gone) := hc 1 _ rfl
   have c2 : wa.cell? (ad b (ob + i * 8 + 2)) = some (iv v.id) := hc 2 _ rfl
   have c3 : wa.cell? (ad b (ob + i * 8 + 3)) = some (.string v.name) := hc 3 _ rfl
   have c4 : wa.cell? (ad b (ob + i * 8 + 4)) = some (.string v.zone) := hc 4 _ rfl
   have c5 : wa.cell? (ad b (ob + i * 8 + 5)) = some (iv v.wall) := hc 5 _ rfl
   have c6 : wa.cell? (ad b (ob + i * 8 + 6)) = some (iv v.gap) := hc 6 _ rfl
   have c7 : wa.cell? (ad b (ob + i * 8 + 7)) = some (iv v.fold) := hc 7 _ rfl
   clear hc ap
   have sU := HO.out v (lmg hv)
   have gT : Hid (verI l aO i v = false -> VB = false) := fun h1 => by rw [HV.out]; exact j1m hv h1 (by omega)
   have lS : Hid (verI l aO i v = true -> verK l aO (i + 1) = true) := fun h => jyg hv h HK.out
   have oY : Hid (jd4 l (i + 1) = v.tx) := by simp only [Hid]; rw [jd4, hv]
   have ed := fun w => jlm v.ev w sU.1 sU.2
   simp only [EventD.v, VersionD.ev] at ed
   have G3 : ∀ w1, Bw wa w1 -> Za w1 (some (ad b ob)) 8 ((l.take i).map VersionD.cs) := fun w1 hb => by
    rcases iI.below hb with h0 | ⟨b', o', gj, fc⟩
    ·have := HN.out; simp at h0; rw [h0] at this; simp at this; omega
    ·refine .inr ⟨b', o', gj, fun x y r u hr hu => fc x y r u ?_ hu⟩
     rw [List.map_take] at hr
     have hx : x < i := by have := (lgs hr).1; simp at this; omega
     rw [List.getElem?_take_of_lt hx] at hr
     exact hr
   have hL := fun w1 hb => jgk (l.take i) (some (ad b ob)) i cv v.id w1 (G3 w1 hb) (by rw [List.length_take, HN.out]; omega) (by omega)
   obtain ⟨kk, Ch⟩ := qeb (jcl (l.take i) v.id)
   rw [Ch] at hL
   have xf := hid Ch
   clear Ch G3
   go_upto_region 8 with fail
   clear c0 c1 c3 c4 c5 c6 c7
   have bV : Bw wa (wa.alloc (.cells #[iv v.tx, .bool v.gone, iv v.id, .string v.name, .string v.zone, iv v.wall, iv v.gap, iv v.fold] 87)) := qal _ _
   obtain ⟨y0, y1, y2, y3, y4, y5, y6, y7⟩ : (fun z : World => z.cell? (ad wa.heap.size 0) = some (iv v.tx) /\ z.cell? (ad wa.heap.size 1) = some (.bool v.gone) /\ z.cell? (ad wa.heap.size 2) = some (iv v.id) /\ z.cell? (ad wa.heap.size 3) = some (.string v.name) /\ z.cell? (ad wa.heap.size 4) = some (.string v.zone) /\ z.cell? (ad wa.heap.size 5) = some (iv v.wall) /\ z.cell? (ad wa.heap.size 6) = some (iv v.gap) /\ z.cell? (ad wa.heap.size 7) = some (iv v.fold)) (wa.alloc (.cells #[iv v.tx, .bool v.gone, iv v.id, .string v.name, .string v.zone, iv v.wall, iv v.gap, iv v.fold] 87)) := by simp [go_sem]
   have u0 := jaa bV t0
   have u4 := jaa bV t4
   have Fw := iI.below bV
   have AZ := qtr ck bV
   have dv := qtr aM bV
   have mh : Cl 54 #[.slice (some (ad b ob)) i cv, iv v.id] (wa.alloc (.cells #[iv v.tx, .bool v.gone, iv v.id, .string v.name, .string v.zone, iv v.wall, iv v.gap, iv v.fold] 87)).drew _ := hL (wa.alloc (.cells #[iv v.tx, .bool v.gone, iv v.id, .string v.name, .string v.zone, iv v.wall, iv v.gap, iv v.fold] 87)).drew (bV.trans ((jac _).mono bV.size))
   clear t0 t4 iI ck aM hL bV c2
   generalize (wa.alloc (.cells #[iv v.tx, .bool v.gone, iv v.id, .string v.name, .string v.zone, iv v.wall, iv v.gap, iv v.fold] 87)) = wv at *
   generalize wa.heap.size = bt at *
   skip
   go_wp2_with fail
   refine wp_region_noPanic ?_
   refine wp_region_held_drew (S := fun w' => w'.cell? (ad w.heap.size 8) = some (.slice (some (ad b ob)) n cv) /\ w'.cell? (ad bt 2) = some (iv v.id)) (by kernel_rfl) ⟨(show wv.drew.cell? (ad w.heap.size 8) = _ from u4), (show wv.drew.cell? (ad bt 2) = _ from y2)⟩ (fun dh => ?_)
   have z0 := jaa (jac wv) u0
   have z4 := jaa (jac wv) u4
   have x0 := jaa (jac wv) y0
   have x1 := jaa (jac wv) y1
   have x2 := jaa (jac wv) y2
   have x3 := jaa (jac wv) y3
   have x4 := jaa (jac wv) y4
   have x5 := jaa (jac wv) y5
   have x6 := jaa (jac wv) y6
   have x7 := jaa (jac wv) y7
   have iJ := Fw.below (jac wv)
   have dW := AZ.trans ((jac wv).mono AZ.size)
   have eO := dv.trans ((jac wv).mono dv.size)
   clear u0 u4 Fw AZ dv y0 y1 y2 y3 y4 y5 y6 y7
   refine wpAnyH_take (i := 0) (v := ?v1) rfl (by kernel_rfl) (by kernel_rfl) (by kernel_rfl) (fun _ _ _ h => h) (Or.inl ⟨by kernel_rfl, ?y1⟩) dh ?z1
   case y1 => (intro wq dF; (try dsimp only at dF); go_simp; try with_reducible rfl)
   try simp only [Act.put, qq1, qq2, qq3]
   refine wpAnyH_take (i := 1) (v := ?v2) rfl (by kernel_rfl) (by kernel_rfl) (by kernel_rfl) (fun _ _ _ h => h) (Or.inl ⟨by kernel_rfl, ?y2⟩) dh ?z2
   case y2 => (intro wq dF; (try dsimp only at dF); go_simp; try with_reducible rfl)
   try simp only [Act.put, qq1, qq2, qq3]
   refine wpAnyH_take (i := 2) (v := ?v3) rfl (by kernel_rfl) (by kernel_rfl) (by kernel_rfl) (fun _ _ _ h => h) (Or.inl ⟨by kernel_rfl, ?y3⟩) dh ?z3
   case y3 => (intro wq dF; (try dsimp only at dF); go_simp; try with_reducible rfl)
   try simp only [Act.put, qq1, qq2, qq3]
   refine wpAnyH_take (i := 3) (v := ?v4) rfl (by kernel_rfl) (by kernel_rfl) (by kernel_rfl) (fun _ _ _ h => h) (Or.inl ⟨by kernel_rfl, ?y4⟩) dh ?z4
   case y4 => (intro wq dF; (try dsimp only at dF); go_simp; try with_reducible rfl)
   try simp only [Act.put, qq1, qq2, qq3]
   refine wpAnyH_take (i := 4) (v := ?v5) rfl (by kernel_rfl) (by kernel_rfl) (by kernel_rfl) (fun _ _ _ h => h) (Or.inl ⟨by kernel_rfl, ?y5⟩) dh ?z5
   case y5 => (intro wq dF; (try dsimp only at dF); go_simp; try with_reducible rfl)
   try simp only [Act.put, qq1, qq2, qq3]
   refine wpAnyH_take (i := 5) (v := ?v6) rfl (by kernel_rfl) (by kernel_rfl) (by kernel_rfl) (fun _ _ _ h => h) (Or.inl ⟨by kernel_rfl, ?y6⟩) dh ?z6
   case y6 => (intro wq dF; (try dsimp only at dF); go_simp; try with_reducible rfl)
   try simp only [Act.put, qq1, qq2, qq3]
   refine wpAnyH_take (i := 6) (v := ?v7) rfl (by kernel_rfl) (by kernel_rfl) (by kernel_rfl) (fun _ _ _ h => h) (Or.inl ⟨by kernel_rfl, ?y7⟩) dh ?z7
   case y7 => (intro wq dF; (try dsimp only at dF); go_simp; try with_reducible rfl)
   try simp only [Act.put, qq1, qq2, qq3]
   refine wpAnyH_ready (rs := [7]) (by kernel_rfl) (by simp) ?_
   refine AllReadyH.cons rfl (fun K hK => ?_) AllReadyH.nil
   go_simp
   refine mh.mono ?_
   rintro e wx ⟨rfl, bJ⟩
   have dr := bJ.symm
   clear bJ
   subst dr
   go_wp2_with fail
   refine hK.out _ _ ⟨z4, x2⟩ (fun dh => ?_)
   clear hK K mh
   try simp only [Act.put, qq1, qq2, qq3]
   refine wpAnyH_take (i := 8) (v := ?v8) rfl (by kernel_rfl) (by kernel_rfl) (by kernel_rfl) (fun _ _ _ h => h) (Or.inl ⟨by kernel_rfl, ?y8⟩) dh ?z8
   case y8 => (intro wq dF; (try dsimp only at dF); go_simp; try with_reducible rfl)
   try simp only [Act.put, qq1, qq2, qq3]
   try simp only [Act.put, List.getElem_toArray, List.getElem_cons_succ, List.getElem_cons_zero, qq1, qq2, qq3]
   refine wpAnyH_done (by kernel_rfl) ?_ _
   refine NoPanic.normal ?_
   clear dh
   generalize wv.drew = wz at *
   generalize kO : jd4 l i = pt at *
   have nN : Hid (verI l aO i v = (decide (pt < v.tx) && (decide (v.tx <= aO) && (jbm v.ev && (!v.gone || jc3 l i v))))) := by simp only [Hid]; rw [verI, kO]
   clear kO
   by_cases e1 : v.tx <= pt
   ·have Pi : ¬ pt < v.tx := by omega
    have gJ := cell_regrown x0
    have iw := cell_regrown x1
    have iy := cell_regrown x2
    have iz := cell_regrown x3
    have iA := cell_regrown x4
    have iB := cell_regrown x5
    have iC := cell_regrown x6
    have iD := cell_regrown x7
    have iE := cell_regrown z0
    have iF := cell_regrown z4
    have r1 : decide (v.tx <= pt) = true := dte e1
    go_wp2_with fail
    refine wp_region_quiet_below (by kernel_rfl) (by kernel_rfl) ?_
    repeat (first | go_big_quiet_step (fail) | quiet_step (fail))
    refine wpQuiet_nil ?_
    intro _ hw
    obtain ⟨⟨dq, aQ⟩, gQ⟩ := hw
    subst gQ
    have bg := below_regrown wz dq aQ
    have dV := qtr dW bg
    have lZ := qtr eO bg
    clear bg dW eO ed gJ iw iy iz iA iB iC iD iE iF
    generalize grow (redrawn wz dq) aQ = wE at *
    obtain rfl : VB = false := gT.out (by rw [nN.out]; rw [dfe (show ¬ pt < v.tx by omega)]; rfl)
    go_wp2
    go_ret
    exact ⟨rfl, dV⟩
   by_cases e2 : aO < v.tx
   ·have Pj : ¬ v.tx <= aO := by omega
    have gJ := cell_regrown x0
    have iw := cell_regrown x1
    have iy := cell_regrown x2
    have iz := cell_regrown x3
    have iA := cell_regrown x4
    have iB := cell_regrown x5
    have iC := cell_regrown x6
    have iD := cell_regrown x7
    have iE := cell_regrown z0
    have iF := cell_regrown z4
    have r1 : decide (v.tx <= pt) = false := dfe e1
    have r2 : decide (aO < v.tx) = true := dte e2
    go_wp2_with fail
    refine wp_region_quiet_below (by kernel_rfl) (by kernel_rfl) ?_
    repeat (first | go_big_quiet_step (fail) | quiet_step (fail))
    refine wpQuiet_nil ?_
    intro _ hw
    obtain ⟨⟨dq, aQ⟩, gQ⟩ := hw
    subst gQ
    have bg := below_regrown wz dq aQ
    have dV := qtr dW bg
    have lZ := qtr eO bg
    clear bg dW eO ed gJ iw iy iz iA iB iC iD iE iF
    generalize grow (redrawn wz dq) aQ = wE at *
    obtain rfl : VB = false := gT.out (by rw [nN.out]; rw [dfe (show ¬ v.tx <= aO by omega)]; simp)
    go_wp2
    go_ret
    exact ⟨rfl, dV⟩
   have JA : pt < v.tx := by omega
   have JC : v.tx <= aO := by omega
   have jL : Hid (verI l aO i v = (jbm v.ev && (!v.gone || jc3 l i v))) := by simp only [Hid]; rw [nN.out, dte JA, dte JC]; rfl
   clear nN
   rename Hid (verI l aO i v = (jbm v.ev && (!v.gone || jc3 l i v))) => nN
   have Ez : jbm ⟨v.id, v.name, v.zone, v.wall, v.gap, v.fold⟩ = jbm v.ev := rfl
   rw [Ez] at ed
   clear Ez
   cases e3 : jbm v.ev
   case false =>
    rw [e3] at ed
    have gJ := cell_regrown x0
    have iw := cell_regrown x1
    have iy := cell_regrown x2
    have iz := cell_regrown x3
    have iA := cell_regrown x4
    have iB := cell_regrown x5
    have iC := cell_regrown x6
    have iD := cell_regrown x7
    have iE := cell_regrown z0
    have iF := cell_regrown z4
    have r1 : decide (v.tx <= pt) = false := dfe e1
    have r2 : decide (aO < v.tx) = false := dfe e2
    have cE : ∀ dd os, Cl _ _ (grow (redrawn wz dd) os) fun e w2 => e = .returned (.bool false) /\ ∃ p : Regrown, w2 = grow (redrawn wz p.d) p.os := fun dd os => Calls.regrown_of (ed _)
    go_wp2_with fail
    refine wp_region_quiet_below (by kernel_rfl) (by kernel_rfl) ?_
    repeat (first | go_big_quiet_step ((go_at_call 87; exact cE _ _)) | quiet_step ((go_at_call 87; exact cE _ _)))
    refine wpQuiet_nil ?_
    intro _ hw
    obtain ⟨⟨dq, aQ⟩, gQ⟩ := hw
    subst gQ
    have bg := below_regrown wz dq aQ
    have dV := qtr dW bg
    have lZ := qtr eO bg
    clear bg dW eO ed gJ iw iy iz iA iB iC iD iE iF
    generalize grow (redrawn wz dq) aQ = wE at *
    obtain rfl : VB = false := gT.out (by rw [nN.out]; rw [e3]; rfl)
    go_wp2
    go_ret
    exact ⟨rfl, dV⟩
   rw [e3] at ed
   have yR : Hid (verI l aO i v = (!v.gone || jc3 l i v)) := by simp only [Hid]; rw [nN.out, e3]; rfl
   clear nN e3
   cases e4 : v.gone
   case false =>
    have HG : Hid (verK l aO (i + 1) = true) := lS.out (by rw [yR.out]; rw [e4]; rfl)
    rw [e4] at x1
    clear e4
    have gJ := cell_regrown x0
    have iw := cell_regrown x1
    have iy := cell_regrown x2
    have iz := cell_regrown x3
    have iA := cell_regrown x4
    have iB := cell_regrown x5
    have iC := cell_regrown x6
    have iD := cell_regrown x7
    have iE := cell_regrown z0
    have iF := cell_regrown z4
    have r1 : decide (v.tx <= pt) = false := dfe e1
    have r2 : decide (aO < v.tx) = false := dfe e2
    have cE : ∀ dd os, Cl _ _ (grow (redrawn wz dd) os) fun e w2 => e = .returned (.bool true) /\ ∃ p : Regrown, w2 = grow (redrawn wz p.d) p.os := fun dd os => Calls.regrown_of (ed _)
    go_wp2_with fail
    refine wp_region_quiet_below (by kernel_rfl) (by kernel_rfl) ?_
    repeat (first | go_big_quiet_step ((go_at_call 87; exact cE _ _)) | quiet_step ((go_at_call 87; exact cE _ _)))
    refine wpQuiet_nil ?_
    intro _ hw
    obtain ⟨⟨dq, aQ⟩, gQ⟩ := hw
    subst gQ
    have bg := below_regrown wz dq aQ
    have dV := qtr dW bg
    have lZ := qtr eO bg
    have xE := gJ dq aQ
    clear bg dW eO ed gJ iw iy iz iA iB iC iD iE iF
    generalize grow (redrawn wz dq) aQ = wE at *
    go_wp2
    go_roundw
    case rel => exact ⟨i + 1, by omega, by go_num, by rw [oY.out], HG.out, lZ⟩
    case measure => simp [intOf]; omega
   have xj : Hid (verI l aO i v = jc3 l i v) := by simp only [Hid]; rw [yR.out, e4]; rfl
   rw [e4] at x1
   clear e4 yR
   cases kk with
   | none =>
    simp only [numI]
    have gJ := cell_regrown x0
    have iw := cell_regrown x1
    have iy := cell_regrown x2
    have iz := cell_regrown x3
    have iA := cell_regrown x4
    have iB := cell_regrown x5
    have iC := cell_regrown x6
    have iD := cell_regrown x7
    have iE := cell_regrown z0
    have iF := cell_regrown z4
    have r1 : decide (v.tx <= pt) = false := dfe e1
    have r2 : decide (aO < v.tx) = false := dfe e2
    have cE : ∀ dd os, Cl _ _ (grow (redrawn wz dd) os) fun e w2 => e = .returned (.bool true) /\ ∃ p : Regrown, w2 = grow (redrawn wz p.d) p.os := fun dd os => Calls.regrown_of (ed _)
    go_wp2_with fail
    refine wp_region_quiet_below (by kernel_rfl) (by kernel_rfl) ?_
    repeat (first | go_big_quiet_step ((go_at_call 87; exact cE _ _)) | quiet_step ((go_at_call 87; exact cE _ _)))
    refine wpQuiet_nil ?_
    intro _ hw
    obtain ⟨⟨dq, aQ⟩, gQ⟩ := hw
    subst gQ
    have bg := below_regrown wz dq aQ
    have dV := qtr dW bg
    have lZ := qtr eO bg
    clear bg dW eO ed gJ iw iy iz iA iB iC iD iE iF
    generalize grow (redrawn wz dq) aQ = wE at *
    obtain rfl : VB = false := gT.out (by rw [xj.out]; exact jt4 xf.out)
    go_wp2
    go_ret
    exact ⟨rfl, dV⟩
   | some k =>
    simp only [numI]
    obtain ⟨mG, ⟨x, sJ, hid⟩, _⟩ := jdg xf.out
    rw [List.length_take, HN.out] at mG
    have KX : k < i := by omega
    have qF : l[k]? = some x := by rw [List.getElem?_take_of_lt KX] at sJ; exact sJ
    have vO : (l.map VersionD.cs)[k]? = some x.cs := by rw [lgm, qF]; rfl
    obtain ⟨b2, o2, zZ, dZ⟩ := iJ.at (i := k) vO
    injection zZ with zZ
    injection zZ with eab1 eab2
    subst eab1 eab2
    have m1 : wz.cell? (ad b (ob + k * 8 + 1)) = some (.bool x.gone) := dZ 1 _ rfl
    have m2 : wz.cell? (ad b (ob + k * 8 + 2)) = some (iv x.id) := dZ 2 _ rfl
    have m3 : wz.cell? (ad b (ob + k * 8 + 3)) = some (.string x.name) := dZ 3 _ rfl
    have m4 : wz.cell? (ad b (ob + k * 8 + 4)) = some (.string x.zone) := dZ 4 _ rfl
    have m5 : wz.cell? (ad b (ob + k * 8 + 5)) = some (iv x.wall) := dZ 5 _ rfl
    have m6 : wz.cell? (ad b (ob + k * 8 + 6)) = some (iv x.gap) := dZ 6 _ rfl
    have m7 : wz.cell? (ad b (ob + k * 8 + 7)) = some (iv x.fold) := dZ 7 _ rfl
    have k0 : ¬ (k : Int) < 0 := by omega
    have k1 : (0 : Int) <= (k : Int) := by omega
    have k2 : (k : Int) < (n : Int) := by omega
    clear dZ vO qF mG hid
    cases e5 : x.gone
    case true =>
     obtain rfl : VB = false := gT.out (by rw [xj.out]; exact jt5 xf.out sJ e5)
     rw [e5] at m1
     clear e5 sJ
     have gJ := cell_regrown x0
     have iw := cell_regrown x1
     have iy := cell_regrown x2
     have iz := cell_regrown x3
     have iA := cell_regrown x4
     have iB := cell_regrown x5
     have iC := cell_regrown x6
     have iD := cell_regrown x7
     have iE := cell_regrown z0
     have iF := cell_regrown z4
     have vT := cell_regrown m1
     have r1 : decide (v.tx <= pt) = false := dfe e1
     have r2 : decide (aO < v.tx) = false := dfe e2
     have cE : ∀ dd os, Cl _ _ (grow (redrawn wz dd) os) fun e w2 => e = .returned (.bool true) /\ ∃ p : Regrown, w2 = grow (redrawn wz p.d) p.os := fun dd os => Calls.regrown_of (ed _)
     have r5 : decide ((k : Int) < 0) = false := dfe k0
     go_wp2_with fail
     refine wp_region_quiet_below (by kernel_rfl) (by kernel_rfl) ?_
     repeat (first | go_big_quiet_step ((go_at_call 87; exact cE _ _)) | quiet_step ((go_at_call 87; exact cE _ _)))
     refine wpQuiet_nil ?_
     intro _ hw
     obtain ⟨⟨dq, aQ⟩, gQ⟩ := hw
     subst gQ
     have bg := below_regrown wz dq aQ
     have dV := qtr dW bg
     have lZ := qtr eO bg
     clear bg dW eO ed gJ iw iy iz iA iB iC iD iE iF vT
     generalize grow (redrawn wz dq) aQ = wE at *
     go_wp2
     go_ret
     exact ⟨rfl, dV⟩
    have EO : Hid (verI l aO i v = je5 x.ev v.ev) := by simp only [Hid]; rw [xj.out]; exact jz9 xf.out sJ e5
    rw [e5] at m1
    clear e5 sJ xj
    clear mK
    cases e6 : je5 x.ev v.ev
    case false =>
     obtain rfl : VB = false := gT.out (by rw [EO.out]; exact e6)
     have E6 := hid e6
     clear e6
     have gJ := cell_regrown x0
     have iw := cell_regrown x1
     have iy := cell_regrown x2
     have iz := cell_regrown x3
     have iA := cell_regrown x4
     have iB := cell_regrown x5
     have iC := cell_regrown x6
     have iD := cell_regrown x7
     have iE := cell_regrown z0
     have iF := cell_regrown z4
     have vT := cell_regrown m1
     have D6 := cell_regrown m2
     have D7 := cell_regrown m3
     have D8 := cell_regrown m4
     have D9 := cell_regrown m5
     have Da := cell_regrown m6
     have Db := cell_regrown m7
     have r1 : decide (v.tx <= pt) = false := dfe e1
     have r2 : decide (aO < v.tx) = false := dfe e2
     have cE : ∀ dd os, Cl _ _ (grow (redrawn wz dd) os) fun e w2 => e = .returned (.bool true) /\ ∃ p : Regrown, w2 = grow (redrawn wz p.d) p.os := fun dd os => Calls.regrown_of (ed _)
     have r5 : decide ((k : Int) < 0) = false := dfe k0
     have vr := fun w => jil x.ev v.ev w
     simp only [E6.out] at vr
     simp only [VersionD.ev] at vr
     go_wp2_with fail
     refine wp_region_quiet_below (by kernel_rfl) (by kernel_rfl) ?_
     repeat (first | go_big_quiet_step ((go_at_call 87; exact cE _ _)) | quiet_step ((go_at_call 87; exact cE _ _)))
     refine wpQuiet_nil ?_
     intro _ hw
     obtain ⟨⟨dq, aQ⟩, gQ⟩ := hw
     subst gQ
     have bg := below_regrown wz dq aQ
     have dV := qtr dW bg
     have lZ := qtr eO bg
     clear bg dW eO ed gJ iw iy iz iA iB iC iD iE iF vT D6 D7 D8 D9 Da Db
     generalize grow (redrawn wz dq) aQ = wE at *
     go_wp2
     go_ret
     exact ⟨rfl, dV⟩
    have HG : Hid (verK l aO (i + 1) = true) := lS.out (by rw [EO.out]; exact e6)
    have E6 := hid e6
    clear e6
    have gJ := cell_regrown x0
    have iw := cell_regrown x1
    have iy := cell_regrown x2
    have iz := cell_regrown x3
    have iA := cell_regrown x4
    have iB := cell_regrown x5
    have iC := cell_regrown x6
    have iD := cell_regrown x7
    have iE := cell_regrown z0
    have iF := cell_regrown z4
    have vT := cell_regrown m1
    have D6 := cell_regrown m2
    have D7 := cell_regrown m3
    have D8 := cell_regrown m4
    have D9 := cell_regrown m5
    have Da := cell_regrown m6
    have Db := cell_regrown m7
    have r1 : decide (v.tx <= pt) = false := dfe e1
    have r2 : decide (aO < v.tx) = false := dfe e2
    have cE : ∀ dd os, Cl _ _ (grow (redrawn wz dd) os) fun e w2 => e = .returned (.bool true) /\ ∃ p : Regrown, w2 = grow (redrawn wz p.d) p.os := fun dd os => Calls.regrown_of (ed _)
    have r5 : decide ((k : Int) < 0) = false := dfe k0
    have vr := fun w => jil x.ev v.ev w
    simp only [E6.out] at vr
    simp only [VersionD.ev] at vr
    go_wp2_with fail
    refine wp_region_quiet_below (by kernel_rfl) (by kernel_rfl) ?_
    repeat (first | go_big_quiet_step ((go_at_call 87; exact cE _ _)) | quiet_step ((go_at_call 87; exact cE _ _)))
    refine wpQuiet_nil ?_
    intro _ hw
    obtain ⟨⟨dq, aQ⟩, gQ⟩ := hw
    subst gQ
    have bg := below_regrown wz dq aQ
    have dV := qtr dW bg
    have lZ := qtr eO bg
    have xE := gJ dq aQ
    clear bg dW eO ed gJ iw iy iz iA iB iC iD iE iF vT D6 D7 D8 D9 Da Db
    generalize grow (redrawn wz dq) aQ = wE at *
    go_wp2
    go_roundw
    case rel => exact ⟨i + 1, by omega, by go_num, by rw [oY.out], HG.out, lZ⟩
    case measure => simp [intOf]; omega
  ·have hE : i = n := by omega
   subst hE
   have a1 : ¬ (i : Int) < (i : Int) := by omega
   obtain rfl : VB = true := by rw [HV.out]; exact HK.out
   clear iI
   go_wp2
   go_ret
   exact ⟨rfl, ck⟩
end
section
open Go.RowKit
def txI (l : List VersionD) (aO : Int) (i : Nat) (v : VersionD) : Bool := decide (jd4 l i < v.tx) && (decide (v.tx <= aO) && jbm v.ev)
def txK (l : List VersionD) (aO : Int) : Nat -> Bool
 | 0 => true
 | k + 1 => txK l aO k && (match l[k]? with
  | some v => txI l aO k v
  | none => true)
def txB (l : List VersionD) (aO : Int) : Bool := decide (l.length <= 60) && txK l aO l.length
theorem jux {l : List VersionD} {aO : Int} {k : Nat} {v : VersionD} (hv : l[k]? = some v) (h : txI l aO k v = false) : ∀ {n : Nat}, k < n -> txK l aO n = false := by
 intro n
 induction n with
 | zero => intro hn; omega
 | succ n ih =>
  intro hn
  rw [txK]
  by_cases e : k = n
  ·subst e; rw [hv]; simp [h]
  ·rw [ih (by omega)]; rfl
theorem j1s {l : List VersionD} {aO : Int} {k : Nat} {v : VersionD} (hv : l[k]? = some v) (h : txI l aO k v = true) (hk : txK l aO k = true) : txK l aO (k + 1) = true := by rw [txK, hk, hv]; simp [h]
theorem jyl {l : List VersionD} {aO : Int} (h : ¬ l.length <= 60) : txB l aO = false := by unfold txB; rw [dfe h]; rfl
theorem j28 {l : List VersionD} {aO : Int} (h : l.length <= 60) : txB l aO = txK l aO l.length := by unfold txB; rw [dte h]; rfl
def jb7 (l : List VersionD) : Nat -> Bool
 | 0 => true
 | k + 1 => jb7 l k && (match l[k]? with
  | some v => !v.gone || jc3 l k v
  | none => true)
theorem jus (l : List VersionD) (aO : Int) : ∀ k, verK l aO k = (txK l aO k && jb7 l k)
 | 0 => rfl
 | k + 1 => by
  rw [verK, txK, jb7, jus l aO k]
  cases l[k]? with
  | none => simp
  | some v => simp only [verI, txI]; cases txK l aO k <;> cases jb7 l k <;> cases decide (jd4 l k < v.tx) <;> cases decide (v.tx <= aO) <;> cases jbm v.ev <;> simp
theorem jlg (l : List VersionD) (aO : Int) : verB l aO = (txB l aO && jb7 l l.length) := by unfold verB txB; rw [jus]; cases decide (l.length <= 60) <;> simp
theorem jfs (l : List VersionD) (aO cur : Int) (r0 r1 r2 r3 r4 r5 va ia : Option Addr) (p0 q0 p1 q1 p2 q2 p3 q3 p4 q4 p5 q5 n cv ni ci : Nat) (w : World) (hA : Za w va 8 (l.map VersionD.cs)) (de : ∀ v ∈ l, v.ok) (hn : l.length = n) (hl : n <= 1048576) :
  Cl 61 #[.agg #[iv aO, .slice r0 p0 q0, .slice r1 p1 q1, .slice r2 p2 q2, .slice r3 p3 q3, .slice r4 p4 q4, .slice r5 p5 q5, iv cur, .slice va n cv, .slice ia ni ci]] w fun e w' => e = .returned (.bool (txB l aO)) /\ Bw w w' := by
 have ag : Bw w (w.alloc (.cells #[iv aO, .slice r0 p0 q0, .slice r1 p1 q1, .slice r2 p2 q2, .slice r3 p3 q3, .slice r4 p4 q4, .slice r5 p5 q5, iv cur, .slice va n cv, .slice ia ni ci] 42)) := qal _ _
 by_cases K5 : 60 < n
 ·rw [jyl (by omega)]
  have AN : (60 : Int) < (n : Int) := by omega
  go_enter Tryz.func61, Tryz.ntmps61
  go_wp2
  go_ret
  exact ⟨rfl, ag⟩
 have AN : ¬ (60 : Int) < (n : Int) := by omega
 obtain ⟨VB, qq⟩ := qeb (txB l aO)
 have HV : Hid (VB = txK l aO n) := by simp only [Hid]; rw [<- qq, j28 (by omega), hn]
 rw [qq]
 clear qq
 have HN := hid hn
 have HO := hid de
 have s0 : (w.alloc (.cells #[iv aO, .slice r0 p0 q0, .slice r1 p1 q1, .slice r2 p2 q2, .slice r3 p3 q3, .slice r4 p4 q4, .slice r5 p5 q5, iv cur, .slice va n cv, .slice ia ni ci] 42)).cell? (ad w.heap.size 0) = some (iv aO) := by simp [go_sem]
 have eM := hA.below ag
 clear hn de hA
 go_enter Tryz.func61, Tryz.ntmps61
 go_wp2
 generalize (w.alloc (.cells #[iv aO, .slice r0 p0 q0, .slice r1 p1 q1, .slice r2 p2 q2, .slice r3 p3 q3, .slice r4 p4 q4, .slice r5 p5 q5, iv cur, .slice va n cv, .slice ia ni ci] 42)) = w0 at *
 go_loopw [3, 13] (fun t s wr => ∃ i : Nat, i <= n /\ s = iv i /\ t = iv (jd4 l i) /\ Hid (txK l aO i = true) /\ Bw w0 wr) (fun _ s _ => n - (intOf s).toNat)
 case atStart => exact ⟨0, by omega, rfl, rfl, rfl, brf _ _⟩
 case round =>
  obtain ⟨wa, eW⟩ := qea wr
  subst eW
  obtain ⟨i, hin, rfl, rfl, HK, aM⟩ := hrel
  have t0 := jaa aM s0
  have iI := eM.below aM
  have ck := qtr ag aM
  clear s0 eM ag
  by_cases hlt : i < n
  ·have a1 : (i : Int) < (n : Int) := by omega
   obtain ⟨v, hv⟩ : ∃ v, l[i]? = some v := ⟨_, lgg (by have := HN.out; omega)⟩
   have ap : (l.map VersionD.cs)[i]? = some v.cs := by rw [lgm, hv]; rfl
   obtain ⟨b, ob, rfl, hc⟩ := iI.at (i := i) ap
   have c0 : wa.cell? (ad b (ob + i * 8)) = some (iv v.tx) := hc 0 _ rfl
   have c1 : wa.cell? (ad b (ob + i * 8 + 1)) = some (.bool v.gone) := hc 1 _ rfl
   have c2 : wa.cell? (ad b (ob + i * 8 + 2)) = some (iv v.id) := hc 2 _ rfl
   have c3 : wa.cell? (ad b (ob + i * 8 + 3)) = some (.string v.name) := hc 3 _ rfl
   have c4 : wa.cell? (ad b (ob + i * 8 + 4)) = some (.string v.zone) := hc 4 _ rfl
   have c5 : wa.cell? (ad b (ob + i * 8 + 5)) = some (iv v.wall) := hc 5 _ rfl
   have c6 : wa.cell? (ad b (ob + i * 8 + 6)) = some (iv v.gap) := hc 6 _ rfl
   have c7 : wa.cell? (ad b (ob + i * 8 + 7)) = some (iv v.fold) := hc 7 _ rfl
   clear hc ap
   have sU := HO.out v (lmg hv)
   have gT : Hid (txI l aO i v = false -> VB = false) := fun h1 => by rw [HV.out]; exact jux hv h1 (by omega)
   have lS : Hid (txI l aO i v = true -> txK l aO (i + 1) = true) := fun h => j1s hv h HK.out
   have oY : Hid (jd4 l (i + 1) = v.tx) := by simp only [Hid]; rw [jd4, hv]
   have ed := fun w => jjg v.ev w sU.1 sU.2
   simp only [EventD.v, VersionD.ev] at ed
   have KD := qbl t0
   have az := Nat.ne_of_lt KD
   clear hv sU iI
   obtain ⟨pt, kO⟩ := qeb (jd4 l i)
   have rS : Hid (txI l aO i v = (decide (pt < v.tx) && (decide (v.tx <= aO) && jbm v.ev))) := by simp only [Hid, txI]; rw [kO]
   rw [kO]
   clear kO
   have iK : ∀ o, Bw w (wa.alloc o) := fun o => ck.alloc ck.size _
   have hsz := ck.size
   by_cases e1 : v.tx <= pt
   ·obtain rfl : VB = false := gT.out (by rw [rS.out, dfe (by omega)]; rfl)
    go_wp2
    go_ret
    exact ⟨rfl, iK _⟩
   have nM : Hid (txI l aO i v = (decide (v.tx <= aO) && jbm v.ev)) := by simp only [Hid]; rw [rS.out, dte (by omega)]; rfl
   clear rS
   by_cases e2 : aO < v.tx
   ·obtain rfl : VB = false := gT.out (by rw [nM.out, dfe (by omega)]; rfl)
    go_wp2
    go_ret
    exact ⟨rfl, iK _⟩
   have jL : Hid (txI l aO i v = jbm v.ev) := by simp only [Hid]; rw [nM.out, dte (by omega)]; rfl
   clear nM
   simp only [VersionD.ev] at jL
   obtain ⟨eb, Gq⟩ := qeb (jbm ⟨v.id, v.name, v.zone, v.wall, v.gap, v.fold⟩)
   rw [Gq] at ed jL
   clear Gq
   cases eb
   ·obtain rfl : VB = false := gT.out jL.out
    go_wp2_with fail
    refine (ed _).mono ?_
    rintro e wx ⟨rfl, bJ⟩
    go_wp2
    go_ret
    exact ⟨rfl, (iK _).trans (bJ.mono (by simp; omega))⟩
   have HG : Hid (txK l aO (i + 1) = true) := lS.out jL.out
   clear jL gT lS
   go_wp2_with fail
   refine (ed _).mono ?_
   rintro e wx ⟨rfl, bJ⟩
   have xv : wx.cell? (ad wa.heap.size 0) = some (iv v.tx) := jaa bJ (by simp [go_sem])
   have fX := (aM.alloc aM.size _).trans (bJ.mono (by simp; have := aM.size; omega))
   clear bJ
   go_wp2
   go_roundw
   case rel => exact ⟨i + 1, by omega, by go_num, by rw [oY.out], HG, fX⟩
   case measure => simp [intOf]; omega
  ·obtain rfl : i = n := by omega
   have HF : Hid (VB = true) := by simp only [Hid]; rw [HV.out]; exact HK.out
   go_wp2
   go_ret
   exact ⟨ret_bool HF.out.symm, ck⟩
end
section
open Go.RowKit Go.ChangeMaps Go.MapKept
def jb9 : Value -> Option (DataW EventD × List MemPlace)
 | .agg ⟨[.int .i64 a, .string b, .string c, .int .i64 d, .int .i64 e, .int .i64 f]⟩ => some (.held ⟨a, b, c, d, e, f⟩, [])
 | _ => none
theorem jo5 (e : EventD) : jb9 e.v = some (.held e, []) := by cases e; rfl
theorem jcf {v : Value} {z : DataW EventD × List MemPlace} (h : jb9 v = some z) : ∃ e : EventD, v = e.v /\ z = (.held e, []) := by
 unfold jb9 at h
 split at h
 ·cases h; exact ⟨_, rfl, rfl⟩
 ·cases h
def MapV (D : DataW EventD) (f : Int -> Option EventD) : Prop := ∀ id e, (f id = some e -> Maps.has D (.int .i64 id) = true /\ ∀ z, D.atKey (.int .i64 id) z = .held e) /\ (f id = none -> Maps.has D (.int .i64 id) = false)
structure Zj (w : World) (b n : Nat) (f : Int -> Option EventD) : Prop where
 own : ∃ D, w.ownsMap Tryz.prog 2 jb9 b n D /\ MapV D f
def putF (f : Int -> Option EventD) (e : EventD) (id : Int) : Option EventD := if e.id = id then some e else f id
def delF (f : Int -> Option EventD) (i : Int) (id : Int) : Option EventD := if i = id then none else f id
theorem Zj.made (w : World) : Zj (w.alloc (.map #[] 0)) w.heap.size 0 (fun _ => none) := ⟨_, World.ownsMap_made w _ _ _, fun _ _ => ⟨fun h => by (cases h), fun _ => rfl⟩⟩
theorem Zj.lt {w : World} {b n : Nat} {f : Int -> Option EventD} (h : Zj w b n f) : b < w.heap.size := by
 obtain ⟨D, h1, _⟩ := h.own
 exact h1.lt
theorem Zj.kept {w w' : World} {b n : Nat} {f : Int -> Option EventD} {row : Option Nat} (h : Zj w b n f) (hg : w.grownBy w' row) (az : some b ≠ row) : Zj w' b n f := by
 obtain ⟨D, h1, h2⟩ := h.own
 exact ⟨D, h1.kept hg az, h2⟩
theorem Zj.below {w w' : World} {b n : Nat} {f : Int -> Option EventD} (h : Zj w b n f) (hb : Bw w w') : Zj w' b n f := h.kept (row := none) ⟨hb.os, hb.tape, hb.output, hb.size, fun k hk _ => hb.block k hk⟩ (by simp)
theorem Zj.alloc {w : World} {b n : Nat} {f : Int -> Option EventD} (h : Zj w b n f) (o : Obj) : Zj (w.alloc o) b n f := by
 obtain ⟨D, h1, h2⟩ := h.own
 exact ⟨D, h1.alloc o, h2⟩
theorem jwi {id : Int} (h : 1 <= id /\ id <= 1000000) : (Lit.int .i64 id).wf = true := by
 have h1 : IntKind.min .i64 = -9223372036854775808 := rfl
 have h2 : IntKind.max .i64 = 9223372036854775807 := rfl
 show (decide (IntKind.min .i64 <= id) && decide (id <= IntKind.max .i64)) = true
 rw [h1, h2, dte (by omega), dte (by omega)]
 rfl
theorem juk (w : World) : (zeroValue 79).run Tryz.prog w = .ok (EventD.v ⟨0, ⟨#[]⟩, ⟨#[]⟩, 0, 0, 0⟩) w := by kernel_rfl
theorem mapT : Tryz.prog.underlying 70 = some (.map 2 79) := by kernel_rfl
theorem keyT : Tryz.prog.underlying 2 = some (.int .i64) := by kernel_rfl
theorem Zj.look {w : World} {b n : Nat} {f : Int -> Option EventD} (h : Zj w b n f) {id : Int} (iY : 1 <= id /\ id <= 1000000) : ∃ e : EventD, (Instr.lookup 70 (.map (some b)) (iv id) true).run Tryz.prog w = .ok (.tuple #[e.v, .bool (f id).isSome]) w /\ ∀ x, f id = some x -> e = x := by
 obtain ⟨D, h1, h2⟩ := h.own
 obtain ⟨v, ps, hr, hv⟩ := h1.look_ok (Maps.int_keyed keyT) mapT (juk w) (jo5 _) (Maps.keyOf_int_mk keyT (jwi iY))
 obtain ⟨e, rfl, he⟩ := jcf hv
 cases hf : f id with
 | none => exact ⟨e, by rw [hr, (h2 id e).2 hf]; rfl, fun x hx => by cases hx⟩
 | some y =>
  obtain ⟨a, c⟩ := (h2 id y).1 hf
  refine ⟨e, by rw [hr, a]; rfl, fun x hx => ?_⟩
  obtain rfl := osi hx
  rw [c] at he
  have h3 := congrArg Prod.fst he
  simp only [DataW.held.injEq] at h3
  exact h3.symm
theorem Zj.drop {w : World} {b n : Nat} {f : Int -> Option EventD} (h : Zj w b n f) {id : Int} (iY : 1 <= id /\ id <= 1000000) (ty : TypeId) : ∃ w', (Builtin.delete_ #[70, 2] ty #[.map (some b), iv id]).run Tryz.prog w = .ok (.tuple #[]) w' /\ Zj w' b n (delF f id) /\ w.mapTurned w' b := by
 obtain ⟨D, h1, h2⟩ := h.own
 obtain ⟨w', hr, ho, ht⟩ := h1.drop (Maps.int_keyed keyT) mapT (Maps.keyOf_int_mk keyT (jwi iY)) ty
 refine ⟨w', hr, ⟨_, ho, fun i e => ?_⟩, ht⟩
 unfold delF
 by_cases hi : id = i
 ·subst hi
  rw [if_pos rfl]
  exact ⟨fun h => by (cases h), fun _ => Maps.has_del_same⟩
 ·rw [if_neg hi]
  have az : Lit.int .i64 i ≠ Lit.int .i64 id := fun h => hi (by simp only [Lit.int.injEq, true_and] at h; exact h.symm)
  obtain ⟨a, c⟩ := h2 i e
  exact ⟨fun h => ⟨by rw [Maps.has_del_other az]; exact (a h).1, fun z => by rw [Maps.atKey_del_other az]; exact (a h).2 z⟩, fun h => by rw [Maps.has_del_other az]; exact c h⟩
theorem Zj.store {w : World} {b n : Nat} {f : Int -> Option EventD} (h : Zj w b n f) (hn : n < maxLen) (e : EventD) (iY : 1 <= e.id /\ e.id <= 1000000) : ∃ w', (Instr.mapUpdate 70 (.map (some b)) (iv e.id) e.v).run Tryz.prog w = .ok () w' /\ Zj w' b (n + 1) (putF f e) /\ w.mapTurned w' b := by
 obtain ⟨D, h1, h2⟩ := h.own
 have hM := h1.isMap
 have xH : WideAt.IsKeyLit (.int .i64 e.id) := trivial
 obtain ⟨w', hr, ho, ht⟩ := h1.store (Maps.int_keyed keyT) mapT hn (Maps.keyOf_int_mk keyT (jwi iY)) (jo5 e)
 refine ⟨w', hr, ⟨_, ho, fun i x => ?_⟩, ht⟩
 unfold putF
 by_cases hi : e.id = i
 ·subst hi
  rw [if_pos rfl]
  exact ⟨fun h => ⟨Maps.has_put_same hM xH _, fun z => by (cases h; exact Maps.atKey_put_same hM xH _ _)⟩, fun h => by (cases h)⟩
 ·rw [if_neg hi]
  have az : Lit.int .i64 i ≠ Lit.int .i64 e.id := fun h => hi (by simp only [Lit.int.injEq, true_and] at h; exact h.symm)
  obtain ⟨a, c⟩ := h2 i x
  exact ⟨fun h => ⟨by rw [Maps.has_put_other az]; exact (a h).1, fun z => by rw [Maps.atKey_put_other az]; exact (a h).2 z⟩, fun h => by rw [Maps.has_put_other az]; exact c h⟩
end
section
open Go.RowKit Go.ChangeMaps Go.MapKept
def jyn (f : Int -> Option EventD) (v : VersionD) : Bool := !v.gone || (match f v.id with
 | some x => je5 x v.ev
 | none => false)
def jym (f : Int -> Option EventD) (v : VersionD) : Int -> Option EventD := if v.gone = true then delF f v.id else putF f v.ev
theorem jsy (l : List VersionD) (i : Nat) {v : VersionD} (hv : l[i]? = some v) : jym (jcs (l.take i)) v = jcs (l.take (i + 1)) := by
 funext id
 rw [List.take_add_one, hv]
 simp only [Option.toList]
 rw [jtl]
 unfold jym
 cases v.gone
 ·simp only [Bool.false_eq_true, if_false]; rfl
 ·simp only [if_true]; rfl
theorem jsz (l : List VersionD) (i : Nat) (v : VersionD) : jyn (jcs (l.take i)) v = (!v.gone || jc3 l i v) := rfl
theorem jvl {a b : EventD} (h1 : a.id = b.id) (h2 : a.name.toList = b.name.toList) (h3 : a.zone.toList = b.zone.toList) (h4 : a.wall = b.wall) (h5 : a.gap = b.gap) (h6 : a.fold = b.fold) : je5 a b = true := by
 unfold je5
 rw [dte h1, dte h4, dte h5, dte h6, h2, h3]
 simp
theorem jyv {a b : EventD} (h : a.id = b.id -> a.name.toList = b.name.toList -> a.zone.toList = b.zone.toList -> a.wall = b.wall -> a.gap = b.gap -> a.fold = b.fold -> False) : je5 a b = false := by
 cases hs : je5 a b
 ·rfl
 ·unfold je5 at hs
  simp only [bat] at hs
  obtain ⟨h1, h2, h3, h4, h5, h6⟩ := hs
  exact (h (odt h1) (eq_of_beq h2) (eq_of_beq h3) (odt h4) (odt h5) (odt h6)).elim
theorem joy {w w1 w2 : World} {b : Nat} (h1 : w.grownBy w1 none) (h2 : w1.mapTurned w2 b) : w.grownBy w2 (some b) := (h1.but _).andThen h2.grown (fun _ h => .inr h)
theorem jws (v : VersionD) (b n : Nat) (f : Int -> Option EventD) (w : World) (h : Zj w b n f) (hn : n < maxLen) (iY : 1 <= v.id /\ v.id <= 1000000) :
  Cl 97 #[.map (some b), v.v] w fun e w' => e = .returned (.bool (jyn f v)) /\ Zj w' b (n + 1) (jym f v) /\ w.grownBy w' (some b) := by
 obtain ⟨tx, gone, id, name, zone, wall, gap, fold⟩ := v
 simp only [VersionD.v] at *
 have mK := fun a b w => jxi a b w
 have iX := fun op x y v1 v2 w => jjl op x y v1 v2 w
 have dH := h.alloc (.cells #[iv tx, .bool gone, iv id, .string name, .string zone, iv wall, iv gap, iv fold] 87)
 obtain ⟨x, gu, hx⟩ := dH.look iY
 have ei := dH.alloc (.cells #[iv x.id, .string x.name, .string x.zone, iv x.wall, iv x.gap, iv x.fold] 79)
 have cU : w.grownBy ((w.alloc (.cells #[iv tx, .bool gone, iv id, .string name, .string zone, iv wall, iv gap, iv fold] 87)).alloc (.cells #[iv x.id, .string x.name, .string x.zone, iv x.wall, iv x.gap, iv x.fold] 79)) none := (World.grownBy_alloc w _ none).andThen (World.grownBy_alloc _ _ none) (fun _ h => .inr h)
 simp only [EventD.v] at gu
 have hlt := h.lt
 have HX := hid hx
 clear hx
 have HT : Hid (jyn f ⟨tx, true, id, name, zone, wall, gap, fold⟩ = ((f id).isSome && je5 x ⟨id, name, zone, wall, gap, fold⟩)) := by
  simp only [Hid, jyn]
  cases hf : f id with
  | none => rfl
  | some y => rw [HX.out y hf]; rfl
 clear HX
 cases gone
 ·obtain ⟨w2, jC, ej, eI⟩ := ei.store hn ⟨id, name, zone, wall, gap, fold⟩ iY
  simp only [EventD.v] at jC
  have HE := hid ej
  have HG : Hid (w.grownBy w2 (some b)) := joy cU eI
  clear HT ej eI cU ei dH
  go_enter Tryz.func97, Tryz.ntmps97
  go_wp2
  go_ret
  exact ⟨rfl, HE.out, HG.out⟩
 ·obtain ⟨w2, jC, ej, eI⟩ := ei.drop iY 0
  have HE : Hid (Zj w2 b (n + 1) (jym f ⟨tx, true, id, name, zone, wall, gap, fold⟩)) := by
   obtain ⟨D, d1, d2⟩ := ej.own
   exact ⟨D, d1.mono (by omega), d2⟩
  have HG : Hid (w.grownBy w2 (some b)) := joy cU eI
  have aX : some w.heap.size ≠ some b := by simp; omega
  have hb1 : some (w.heap.size + 1) ≠ some b := by simp; omega
  have v2 : w2.cell? (ad w.heap.size 2) = some (iv id) := eI.grown.cell (by simp [go_sem]) aX
  have v3 : w2.cell? (ad w.heap.size 3) = some (.string name) := eI.grown.cell (by simp [go_sem]) aX
  have v4 : w2.cell? (ad w.heap.size 4) = some (.string zone) := eI.grown.cell (by simp [go_sem]) aX
  have v5 : w2.cell? (ad w.heap.size 5) = some (iv wall) := eI.grown.cell (by simp [go_sem]) aX
  have v6 : w2.cell? (ad w.heap.size 6) = some (iv gap) := eI.grown.cell (by simp [go_sem]) aX
  have v7 : w2.cell? (ad w.heap.size 7) = some (iv fold) := eI.grown.cell (by simp [go_sem]) aX
  have x0 : w2.cell? (ad (w.heap.size + 1) 0) = some (iv x.id) := eI.grown.cell (by simp [go_sem]) hb1
  have x1 : w2.cell? (ad (w.heap.size + 1) 1) = some (.string x.name) := eI.grown.cell (by simp [go_sem]) hb1
  have x2 : w2.cell? (ad (w.heap.size + 1) 2) = some (.string x.zone) := eI.grown.cell (by simp [go_sem]) hb1
  have x3 : w2.cell? (ad (w.heap.size + 1) 3) = some (iv x.wall) := eI.grown.cell (by simp [go_sem]) hb1
  have x4 : w2.cell? (ad (w.heap.size + 1) 4) = some (iv x.gap) := eI.grown.cell (by simp [go_sem]) hb1
  have x5 : w2.cell? (ad (w.heap.size + 1) 5) = some (iv x.fold) := eI.grown.cell (by simp [go_sem]) hb1
  have HR := hid HT
  clear ej eI cU ei dH HT
  cases hfs : (f id).isSome
  ·rw [hfs] at HR gu
   clear hfs
   go_enter Tryz.func97, Tryz.ntmps97
   go_wp2
   go_ret
   exact ⟨ret_bool (by rw [HR.out]; rfl), HE.out, HG.out⟩
  ·rw [hfs] at HR gu
   clear hfs
   have hq := mK x ⟨id, name, zone, wall, gap, fold⟩ w2
   clear mK
   dsimp only at hq
   go_enter Tryz.func97, Tryz.ntmps97
   go_wp2
   all_goals go_ret
   all_goals exact ⟨ret_bool (by rw [HR.out, Bool.true_and]; first | exact (jvl (by assumption) (by assumption) (by assumption) (by assumption) (by assumption) (by assumption)).symm | exact (jyv (fun _ _ _ _ _ _ => by contradiction)).symm), HE.out, HG.out⟩
end
section
open Go.RowKit Go.ChangeMaps Go.MapKept
theorem jz8 {l : List VersionD} {k : Nat} {v : VersionD} (hv : l[k]? = some v) (h : (!v.gone || jc3 l k v) = false) : ∀ {n : Nat}, k < n -> jb7 l n = false := by
 intro n
 induction n with
 | zero => intro hn; omega
 | succ n ih =>
  intro hn
  rw [jb7]
  by_cases e : k = n
  ·subst e; rw [hv]; simp only; rw [h]; simp
  ·rw [ih (by omega)]; rfl
theorem jw4 {l : List VersionD} {k : Nat} {v : VersionD} (hv : l[k]? = some v) (h : (!v.gone || jc3 l k v) = true) (hk : jb7 l k = true) : jb7 l (k + 1) = true := by rw [jb7, hk, hv]; simp only; rw [h]; rfl
structure LiveP (w : World) (l : List VersionD) (e : Ending) (w' : World) : Prop where
 bel : Bw w w'
 end_ : (jb7 l l.length = true /\ e = .returned (.tuple #[.map (some w.heap.size), .bool true]) /\ Zj w' w.heap.size l.length (jcs l)) \/ (jb7 l l.length = false /\ e = .returned (.tuple #[.map none, .bool false]))
theorem jjb (l : List VersionD) (a : Option Addr) (n cap : Nat) (w : World) (hA : Za w a 8 (l.map VersionD.cs)) (iY : ∀ v ∈ l, 1 <= v.id /\ v.id <= 1000000) (hn : l.length = n) (hl : n <= 1048576) :
  Cl 62 #[.slice a n cap] w (LiveP w l) := by
 have ag : Bw w (w.alloc (.map #[] 0)) := qal _ _
 have dH := Zj.made w
 have HN := hid hn
 have HI := hid iY
 clear hn iY
 have gw := @run_makeMap Tryz.prog
 go_enter Tryz.func62, Tryz.ntmps62
 go_wp2
 go_loopw [10] (fun s wr => ∃ i : Nat, i <= n /\ s = iv i /\ Hid (jb7 l i = true) /\ Hid (Zj wr w.heap.size i (jcs (l.take i))) /\ Bw w wr) (fun s _ => n - (intOf s).toNat)
 case atStart => exact ⟨0, by omega, rfl, rfl, dH, ag⟩
 case round =>
  obtain ⟨wa, eW⟩ := qea wr
  subst eW
  obtain ⟨i, hin, rfl, HK, HM, aM⟩ := hrel
  have iI : Za wa a 8 (l.map VersionD.cs) := hA.below aM
  clear ag dH
  by_cases hlt : i < n
  ·have a1 : (i : Int) < (n : Int) := by omega
   obtain ⟨v, hv⟩ : ∃ v, l[i]? = some v := ⟨_, lgg (by have := HN.out; omega)⟩
   have ap : (l.map VersionD.cs)[i]? = some v.cs := by rw [lgm, hv]; rfl
   obtain ⟨b, ob, rfl, hc⟩ := iI.at (i := i) ap
   have c0 : wa.cell? (ad b (ob + i * 8)) = some (iv v.tx) := hc 0 _ rfl
   have c1 : wa.cell? (ad b (ob + i * 8 + 1)) = some (.bool v.gone) := hc 1 _ rfl
   have c2 : wa.cell? (ad b (ob + i * 8 + 2)) = some (iv v.id) := hc 2 _ rfl
   have c3 : wa.cell? (ad b (ob + i * 8 + 3)) = some (.string v.name) := hc 3 _ rfl
   have c4 : wa.cell? (ad b (ob + i * 8 + 4)) = some (.string v.zone) := hc 4 _ rfl
   have c5 : wa.cell? (ad b (ob + i * 8 + 5)) = some (iv v.wall) := hc 5 _ rfl
   have c6 : wa.cell? (ad b (ob + i * 8 + 6)) = some (iv v.gap) := hc 6 _ rfl
   have c7 : wa.cell? (ad b (ob + i * 8 + 7)) = some (iv v.fold) := hc 7 _ rfl
   clear hc ap
   have FM := HM.out.alloc (.cells #[iv v.tx, .bool v.gone, iv v.id, .string v.name, .string v.zone, iv v.wall, iv v.gap, iv v.fold] 87)
   have hT := jws v w.heap.size i _ _ FM (by unfold maxLen; omega) (HI.out v (lmg hv))
   rw [jsy l i hv, jsz] at hT
   simp only [VersionD.v] at hT
   have gT : Hid ((!v.gone || jc3 l i v) = false -> jb7 l l.length = false) := fun h => jz8 hv h (by rw [HN.out]; exact hlt)
   have lS : Hid ((!v.gone || jc3 l i v) = true -> jb7 l (i + 1) = true) := fun h => jw4 hv h HK.out
   generalize (!v.gone || jc3 l i v) = tb at *
   clear FM hv
   cases tb
   ·have HF : Hid (jb7 l l.length = false) := gT.out rfl
    clear gT lS
    go_wp2_with fail
    refine hT.mono ?_
    rintro e w2 ⟨rfl, ej, bU⟩
    have ao := (aM.alloc aM.size _).grown bU (by have := aM.size; simp; omega) (fun k hk => by cases hk; exact nlr _)
    clear ej bU
    go_wp2
    go_ret2
    exact ⟨ao, .inr ⟨HF.out, rfl⟩⟩
   ·have HF : Hid (jb7 l (i + 1) = true) := lS.out rfl
    clear gT lS
    go_wp2_with fail
    refine hT.mono ?_
    rintro e w2 ⟨rfl, ej, bU⟩
    have ao := (aM.alloc aM.size _).grown bU (by have := aM.size; simp; omega) (fun k hk => by cases hk; exact nlr _)
    have yJ := hid ej
    clear ej bU
    go_wp2
    go_roundw
    case rel => exact ⟨i + 1, by omega, by go_num, HF, yJ, ao⟩
    case measure => simp [intOf]; omega
  ·obtain rfl : i = n := by omega
   have HF : Hid (jb7 l l.length = true /\ Zj wa w.heap.size l.length (jcs l)) := by
    have h := HM.out
    rw [List.take_of_length_le (by rw [HN.out]; exact nlr _), <- HN.out] at h
    exact ⟨by rw [HN.out]; exact HK.out, h⟩
   go_wp2
   go_ret2
   exact ⟨aM, .inl ⟨HF.out.1, rfl, HF.out.2⟩⟩
end
end Go.Proofs.YtgiieknbckhofaaGreatDoor
