/- Packed. -/
import Derived.Test.YtgiieknbckhofaaGreatDoorSAs
import Derived.Test.YtgiieknbckhofaaGreatDoorOffPs
import Derived.Test.YtgiieknbckhofaaGreatDoorRightQs
import Derived.Test.YtgiieknbckhofaaGreatDoorStrTs
set_option maxRecDepth 100000
set_option maxHeartbeats 20000000
set_option linter.unusedSimpArgs false
namespace Go.Proofs.YtgiieknbckhofaaGreatDoor
section
open Go.RowKit
def jbn (e : EventD) : Bool := isB e.id 1 1000000 && (jaz e.name && (jaz e.zone && (isB e.wall (-62135596800) 253402300799 && (isB e.gap 0 2 && isB e.fold 0 2))))
theorem jls (e : EventD) (w : World) (m1 : e.name.size <= maxLen) (m2 : e.zone.size <= maxLen) :
  Cl 87 #[e.v] w fun r w' => r = .returned (.bool (jbn e)) /\ Bw w w' := by
 obtain ⟨id, name, zone, wall, gap, fold⟩ := e
 simp only [EventD.v, jbn] at *
 have hB := qal w (.cells #[iv id, .string name, .string zone, iv wall, iv gap, iv fold] 79)
 have k0 := fun w => jat id 1 1000000 w
 have k1 := fun w => jbu name w m1
 have k2 := fun w => jbu zone w m2
 have k3 := fun w => jlz wall w
 have k4 := fun w => jat gap 0 2 w
 have k5 := fun w => jat fold 0 2 w
 go_enter Tryz.func87, Tryz.ntmps87
 go_wp2_with fail
 refine (k0 _).mono ?_
 rintro e wx ⟨rfl, bK⟩
 have du := bK.symm
 clear bK
 subst du
 cases h0 : isB id 1 1000000
 case false =>
  have H0 := hid h0
  clear h0
  go_wp2
  go_ret
  exact ⟨ret_bool (by rw [H0.out]; rfl), hB⟩
 have H0 := hid h0
 clear h0
 go_wp2_with fail
 refine (k1 _).mono ?_
 rintro e wx ⟨rfl, bK⟩
 have du := bK.symm
 clear bK
 subst du
 cases h1 : jaz name
 case false =>
  have H1 := hid h1
  clear h1
  go_wp2
  go_ret
  exact ⟨ret_bool (by rw [H0.out, H1.out]; rfl), hB⟩
 have H1 := hid h1
 clear h1
 go_wp2_with fail
 refine (k2 _).mono ?_
 rintro e wx ⟨rfl, bK⟩
 have du := bK.symm
 clear bK
 subst du
 cases h2 : jaz zone
 case false =>
  have H2 := hid h2
  clear h2
  go_wp2
  go_ret
  exact ⟨ret_bool (by rw [H0.out, H1.out, H2.out]; rfl), hB⟩
 have H2 := hid h2
 clear h2
 go_wp2_with fail
 refine (k3 _).mono ?_
 rintro e wx ⟨rfl, bK⟩
 have du := bK.symm
 clear bK
 subst du
 cases h3 : isB wall (-62135596800) 253402300799
 case false =>
  have H3 := hid h3
  clear h3
  go_wp2
  go_ret
  exact ⟨ret_bool (by rw [H0.out, H1.out, H2.out, H3.out]; rfl), hB⟩
 have H3 := hid h3
 clear h3
 go_wp2_with fail
 refine (k4 _).mono ?_
 rintro e wx ⟨rfl, bK⟩
 have du := bK.symm
 clear bK
 subst du
 cases h4 : isB gap 0 2
 case false =>
  have H4 := hid h4
  clear h4
  go_wp2
  go_ret
  exact ⟨ret_bool (by rw [H0.out, H1.out, H2.out, H3.out, H4.out]; rfl), hB⟩
 have H4 := hid h4
 clear h4
 go_wp2_with fail
 refine (k5 _).mono ?_
 rintro e wx ⟨rfl, bK⟩
 have du := bK.symm
 clear bK
 subst du
 cases h5 : isB fold 0 2
 case false =>
  have H5 := hid h5
  clear h5
  go_wp2
  go_ret
  exact ⟨ret_bool (by rw [H0.out, H1.out, H2.out, H3.out, H4.out, H5.out]; rfl), hB⟩
 have H5 := hid h5
 clear h5
 go_wp2
 go_ret
 exact ⟨ret_bool (by rw [H0.out, H1.out, H2.out, H3.out, H4.out, H5.out]; rfl), hB⟩
theorem jjj (e : EventD) (w : World) (m1 : e.name.size <= maxLen) (m2 : e.zone.size <= maxLen) :
  Cl 96 #[e.v] w fun r w' => r = .returned (.bool (jbn e)) /\ Bw w w' := by
 obtain ⟨id, name, zone, wall, gap, fold⟩ := e
 simp only [EventD.v, jbn] at *
 have hB := qal w (.cells #[iv id, .string name, .string zone, iv wall, iv gap, iv fold] 79)
 have k1 := fun w => ja6 name w m1
 have k2 := fun w => ja6 zone w m2
 have k3 := fun w => jg9 wall w
 have k4 := fun w => jbw gap w
 have k5 := fun w => jbw fold w
 cases h0 : isB id 1 1000000
 case false =>
  have q : ¬ ((1 : Int) <= id /\ id <= 1000000) := of_decide_eq_false h0
  clear h0
  by_cases q1 : (1 : Int) <= id
  ·have q2 : ¬ id <= 1000000 := fun h => q ⟨q1, h⟩
   clear q
   go_enter Tryz.func96, Tryz.ntmps96
   go_wp2
   go_ret
   exact ⟨rfl, hB⟩
  ·clear q
   go_enter Tryz.func96, Tryz.ntmps96
   go_wp2
   go_ret
   exact ⟨rfl, hB⟩
 obtain ⟨q1, q2⟩ := jax h0
 clear h0
 go_enter Tryz.func96, Tryz.ntmps96
 go_wp2_with fail
 refine (k1 _).mono ?_
 rintro e wx ⟨rfl, bK⟩
 have du := bK.symm
 clear bK
 subst du
 cases h1 : jaz name
 case false =>
  have H1 := hid h1
  clear h1
  go_wp2
  go_ret
  exact ⟨ret_bool (by rw [H1.out]; rfl), hB⟩
 have H1 := hid h1
 clear h1
 go_wp2_with fail
 refine (k2 _).mono ?_
 rintro e wx ⟨rfl, bK⟩
 have du := bK.symm
 clear bK
 subst du
 cases h2 : jaz zone
 case false =>
  have H2 := hid h2
  clear h2
  go_wp2
  go_ret
  exact ⟨ret_bool (by rw [H1.out, H2.out]; rfl), hB⟩
 have H2 := hid h2
 clear h2
 go_wp2_with fail
 refine (k3 _).mono ?_
 rintro e wx ⟨rfl, bK⟩
 have du := bK.symm
 clear bK
 subst du
 cases h3 : isB wall (-62135596800) 253402300799
 case false =>
  have H3 := hid h3
  clear h3
  go_wp2
  go_ret
  exact ⟨ret_bool (by rw [H1.out, H2.out, H3.out]; rfl), hB⟩
 have H3 := hid h3
 clear h3
 go_wp2_with fail
 refine (k4 _).mono ?_
 rintro e wx ⟨rfl, bK⟩
 have du := bK.symm
 clear bK
 subst du
 cases h4 : isB gap 0 2
 case false =>
  have H4 := hid h4
  clear h4
  go_wp2
  go_ret
  exact ⟨ret_bool (by rw [H1.out, H2.out, H3.out, H4.out]; rfl), hB⟩
 have H4 := hid h4
 clear h4
 go_wp2_with fail
 refine (k5 _).mono ?_
 rintro e wx ⟨rfl, bK⟩
 have du := bK.symm
 clear bK
 subst du
 cases h5 : isB fold 0 2
 case false =>
  have H5 := hid h5
  clear h5
  go_wp2
  go_ret
  exact ⟨ret_bool (by rw [H1.out, H2.out, H3.out, H4.out, H5.out]; rfl), hB⟩
 have H5 := hid h5
 clear h5
 go_wp2
 go_ret
 exact ⟨ret_bool (by rw [H1.out, H2.out, H3.out, H4.out, H5.out]; rfl), hB⟩
end
section
open Go.RowKit Go.Sort
def je9 (a b : EventD) : Bool := decide (a.id = b.id) && ((a.name.toList == b.name.toList) && ((a.zone.toList == b.zone.toList) && (decide (a.wall = b.wall) && (decide (a.gap = b.gap) && decide (a.fold = b.fold)))))
theorem jpb : ∃ a b c d e f g h i j k l m n o p q r, (Tryz.prog.fieldsOf 79).toList = [⟨ "Id", 2, 0, false, a, b, c⟩, ⟨ "Name", 9, 1, false, d, e, f⟩, ⟨ "Zone", 9, 2, false, g, h, i⟩, ⟨ "Wall", 2, 3, false, j, k, l⟩, ⟨ "Gap", 2, 4, false, m, n, o⟩, ⟨ "Fold", 2, 5, false, p, q, r⟩] := ⟨_, _, _, _, _, _, _, _, _, _, _, _, _, _, _, _, _, _, rfl⟩
theorem jst (a b : EventD) (w : World) : (Op.equalIn 10000 79 (.agg #[iv a.id, .string a.name, .string a.zone, iv a.wall, iv a.gap, iv a.fold]) (.agg #[iv b.id, .string b.name, .string b.zone, iv b.wall, iv b.gap, iv b.fold])).run Tryz.prog w = .ok (je9 a b) w := by
 have ht : Tryz.prog.underlying 79 = some (.struct (Tryz.prog.fieldsOf 79)) := by kernel_rfl
 have hp : Tryz.prog.stoodInHeld 79 = false := by kernel_rfl
 obtain ⟨_, _, _, _, _, _, _, _, _, _, _, _, _, _, _, _, _, _, hf⟩ := jpb
 rw [run_equalIn_agg _ 9999 _ _ _ ht hp, hf]
 obtain ⟨a1, a2, a3, a4, a5, a6⟩ := a
 obtain ⟨b1, b2, b3, b4, b5, b6⟩ := b
 simp only [je9]
 simp [Op.eqFields, go_sem]
 by_cases h1 : a1 = b1
 ·by_cases h2 : a2.toList = b2.toList
  ·by_cases h3 : a3.toList = b3.toList
   ·by_cases h4 : a4 = b4
    ·by_cases h5 : a5 = b5
     ·by_cases h6 : a6 = b6
      ·simp [h1, h2, h3, h4, h5, h6]
      ·simp [h1, h2, h3, h4, h5, h6]
     ·simp [h1, h2, h3, h4, h5]
    ·simp [h1, h2, h3, h4]
   ·simp [h1, h2, h3]
  ·simp [h1, h2]
 ·simp [h1]
theorem jiq (a b : EventD) (w : World) : (binOp .neq 79 (.agg #[iv a.id, .string a.name, .string a.zone, iv a.wall, iv a.gap, iv a.fold]) (.agg #[iv b.id, .string b.name, .string b.zone, iv b.wall, iv b.gap, iv b.fold])).run Tryz.prog w = .ok (.bool (!je9 a b)) w := by
 rw [run_neq_struct, jst]; rfl
theorem jxj (a b : EventD) (w : World) : (binOp .eql 79 (.agg #[iv a.id, .string a.name, .string a.zone, iv a.wall, iv a.gap, iv a.fold]) (.agg #[iv b.id, .string b.name, .string b.zone, iv b.wall, iv b.gap, iv b.fold])).run Tryz.prog w = .ok (.bool (je9 a b)) w := by
 rw [run_eql_struct, jst]; rfl
theorem jjp (op : BinOp) (x y : Operand) (v1 v2 : Array Value) (w : World) : (eqGuard op 79 x y (.agg v1) (.agg v2)).run Tryz.prog w = .ok () w := run_eqGuard_agg w _ _ _ _ _ _ (by kernel_rfl)
def jdt (l : List VersionD) (i : Nat) (v : VersionD) : Bool := match jcr (l.take i) v.id with
 | some e => je9 e v.ev
 | none => false
def jd6 (l : List VersionD) : Nat -> Int
 | 0 => 0
 | k + 1 => match l[k]? with
  | some v => v.tx
  | none => 0
def verI (l : List VersionD) (aN : Int) (i : Nat) (v : VersionD) : Bool := decide (jd6 l i < v.tx) && (decide (v.tx <= aN) && (jbn v.ev && (!v.gone || jdt l i v)))
def verK (l : List VersionD) (aN : Int) : Nat -> Bool
 | 0 => true
 | k + 1 => verK l aN k && (match l[k]? with
  | some v => verI l aN k v
  | none => true)
def verB (l : List VersionD) (aN : Int) : Bool := decide (l.length <= 60) && verK l aN l.length
theorem j1l {l : List VersionD} {aN : Int} {k : Nat} {v : VersionD} (hv : l[k]? = some v) (h : verI l aN k v = false) : ∀ {n : Nat}, k < n -> verK l aN n = false := by
 intro n
 induction n with
 | zero => intro hn; omega
 | succ n ih =>
  intro hn
  rw [verK]
  by_cases e : k = n
  ·subst e; rw [hv]; simp [h]
  ·rw [ih (by omega)]; rfl
theorem jyg {l : List VersionD} {aN : Int} {k : Nat} {v : VersionD} (hv : l[k]? = some v) (h : verI l aN k v = true) (hk : verK l aN k = true) : verK l aN (k + 1) = true := by rw [verK, hk, hv]; simp [h]
theorem juz {l : List VersionD} {aN : Int} (h : ¬ l.length <= 60) : verB l aN = false := by unfold verB; rw [dfe h]; rfl
theorem j1m {l : List VersionD} {aN : Int} (h : l.length <= 60) : verB l aN = verK l aN l.length := by unfold verB; rw [dte h]; rfl
theorem jt9 {l : List VersionD} {i : Nat} {v : VersionD} (h : jcj (l.take i) v.id = none) : jdt l i v = false := by unfold jdt jcr; rw [h]
theorem jua {l : List VersionD} {i k : Nat} {v x : VersionD} (h : jcj (l.take i) v.id = some k) (hx : (l.take i)[k]? = some x) (hg : x.gone = true) : jdt l i v = false := by unfold jdt jcr; rw [h]; simp only; rw [hx]; simp [hg]
theorem j0a {l : List VersionD} {i k : Nat} {v x : VersionD} (h : jcj (l.take i) v.id = some k) (hx : (l.take i)[k]? = some x) (hg : x.gone = false) : jdt l i v = je9 x.ev v.ev := by unfold jdt jcr; rw [h]; simp only; rw [hx]; simp [hg]
theorem jhf (l : List VersionD) (aN cur : Int) (r0 r1 r2 r3 r4 r5 va ia : Option Addr) (p0 q0 p1 q1 p2 q2 p3 q3 p4 q4 p5 q5 n cv ni ci : Nat) (w : World) (hA : Za w va 8 (l.map VersionD.cs)) (df : ∀ v ∈ l, v.ok) (hn : l.length = n) (hl : n <= 1048576) (GF : n <= cv) :
  Cl 50 #[.agg #[iv aN, .slice r0 p0 q0, .slice r1 p1 q1, .slice r2 p2 q2, .slice r3 p3 q3, .slice r4 p4 q4, .slice r5 p5 q5, iv cur, .slice va n cv, .slice ia ni ci]] w fun e w' => e = .returned (.bool (verB l aN)) /\ Bw w w' := by
 have ag : Bw w (w.alloc (.cells #[iv aN, .slice r0 p0 q0, .slice r1 p1 q1, .slice r2 p2 q2, .slice r3 p3 q3, .slice r4 p4 q4, .slice r5 p5 q5, iv cur, .slice va n cv, .slice ia ni ci] 42)) := qal _ _
 have nH := fun a b w => jiq a b w
 have ze := fun op x y v1 v2 w => jjp op x y v1 v2 w
 by_cases KL : 60 < n
 ·rw [juz (by omega)]
  have BS : (60 : Int) < (n : Int) := by omega
  go_enter Tryz.func50, Tryz.ntmps50
  go_wp2
  go_ret
  exact ⟨rfl, ag⟩
 have BS : ¬ (60 : Int) < (n : Int) := by omega
 obtain ⟨VB, qS⟩ := qeb (verB l aN)
 have HV : Hid (VB = verK l aN n) := by simp only [Hid]; rw [<- qS, j1m (by omega), hn]
 rw [qS]
 clear qS
 have HN := hid hn
 have HO := hid df
 obtain ⟨s0, s4⟩ : (fun z : World => z.cell? (ad w.heap.size 0) = some (iv aN) /\ z.cell? (ad w.heap.size 8) = some (.slice va n cv)) (w.alloc (.cells #[iv aN, .slice r0 p0 q0, .slice r1 p1 q1, .slice r2 p2 q2, .slice r3 p3 q3, .slice r4 p4 q4, .slice r5 p5 q5, iv cur, .slice va n cv, .slice ia ni ci] 42)) := by simp [go_sem]
 have et := hA.below ag
 clear hn df hA
 go_enter Tryz.func50, Tryz.ntmps50
 go_wp2
 generalize (w.alloc (.cells #[iv aN, .slice r0 p0 q0, .slice r1 p1 q1, .slice r2 p2 q2, .slice r3 p3 q3, .slice r4 p4 q4, .slice r5 p5 q5, iv cur, .slice va n cv, .slice ia ni ci] 42)) = w0 at *
 go_loopw [3, 4, 5, 6] (fun t s _ _ wr => ∃ i : Nat, i <= n /\ s = iv i /\ t = iv (jd6 l i) /\ Hid (verK l aN i = true) /\ Bw w0 wr) (fun _ s _ _ _ => n - (intOf s).toNat)
 case atStart => exact ⟨0, by omega, rfl, rfl, rfl, brf _ _⟩
 case round =>
  obtain ⟨wa, dY⟩ := qea wr
  subst dY
  obtain ⟨i, hin, rfl, rfl, HK, aH⟩ := hrel
  have t0 := jaa aH s0
  have t4 := jaa aH s4
  have iU := et.below aH
  have bQ := qtr ag aH
  clear s0 s4 et ag
  by_cases hlt : i < n
  ·have a1 : (i : Int) < (n : Int) := by omega
   have a0 : (0 : Int) <= (i : Int) := by omega
   have a2 : (i : Int) <= (cv : Int) := by omega
   obtain ⟨v, hv⟩ : ∃ v, l[i]? = some v := ⟨_, lgg (by have := HN.out; omega)⟩
   have ao : (l.map VersionD.cs)[i]? = some v.cs := by rw [lgm, hv]; rfl
   obtain ⟨b, ob, rfl, hc⟩ := iU.at (i := i) ao
   have c0 : wa.cell? (ad b (ob + i * 8)) = some (iv v.tx) := hc 0 _ rfl
   have c1 : wa.cell? (ad b (ob + i * 8 + 1)) = some (.bool v.gone) := hc 1 _ rfl
   have c2 : wa.cell? (ad b (ob + i * 8 + 2)) = some (iv v.id) := hc 2 _ rfl
   have c3 : wa.cell? (ad b (ob + i * 8 + 3)) = some (.string v.name) := hc 3 _ rfl
   have c4 : wa.cell? (ad b (ob + i * 8 + 4)) = some (.string v.zone) := hc 4 _ rfl
   have c5 : wa.cell? (ad b (ob + i * 8 + 5)) = some (iv v.wall) := hc 5 _ rfl
   have c6 : wa.cell? (ad b (ob + i * 8 + 6)) = some (iv v.gap) := hc 6 _ rfl
   have c7 : wa.cell? (ad b (ob + i * 8 + 7)) = some (iv v.fold) := hc 7 _ rfl
   clear hc ao
   have tG := HO.out v (lmg hv)
   have i6 : Hid (verI l aN i v = false -> VB = false) := fun h1 => by rw [HV.out]; exact j1l hv h1 (by omega)
   have mM : Hid (verI l aN i v = true -> verK l aN (i + 1) = true) := fun h => jyg hv h HK.out
   have pR : Hid (jd6 l (i + 1) = v.tx) := by simp only [Hid]; rw [jd6, hv]
   have el := fun w => jls v.ev w tG.1 tG.2
   simp only [EventD.v, VersionD.ev] at el
   have Gp : ∀ w1, Bw wa w1 -> Za w1 (some (ad b ob)) 8 ((l.take i).map VersionD.cs) := fun w1 hb => by
    rcases iU.below hb with h0 | ⟨b', o', gE, fR⟩
    ·have := HN.out; simp at h0; rw [h0] at this; simp at this; omega
    ·refine .inr ⟨b', o', gE, fun x y r u hr hu => fR x y r u ?_ hu⟩
     rw [List.map_take] at hr
     have hx : x < i := by have := (lgs hr).1; simp at this; omega
     rw [List.getElem?_take_of_lt hx] at hr
     exact hr
   have hL := fun w1 hb => jgo (l.take i) (some (ad b ob)) i cv v.id w1 (Gp w1 hb) (by rw [List.length_take, HN.out]; omega) (by omega)
   obtain ⟨kk, D5⟩ := qeb (jcj (l.take i) v.id)
   rw [D5] at hL
   have yv := hid D5
   clear D5 Gp
   go_upto_region 8 with fail
   clear c0 c1 c3 c4 c5 c6 c7
   have bV : Bw wa (wa.alloc (.cells #[iv v.tx, .bool v.gone, iv v.id, .string v.name, .string v.zone, iv v.wall, iv v.gap, iv v.fold] 87)) := qal _ _
   obtain ⟨y0, y1, y2, y3, y4, y5, y6, y7⟩ : (fun z : World => z.cell? (ad wa.heap.size 0) = some (iv v.tx) /\ z.cell? (ad wa.heap.size 1) = some (.bool v.gone) /\ z.cell? (ad wa.heap.size 2) = some (iv v.id) /\ z.cell? (ad wa.heap.size 3) = some (.string v.name) /\ z.cell? (ad wa.heap.size 4) = some (.string v.zone) /\ z.cell? (ad wa.heap.size 5) = some (iv v.wall) /\ z.cell? (ad wa.heap.size 6) = some (iv v.gap) /\ z.cell? (ad wa.heap.size 7) = some (iv v.fold)) (wa.alloc (.cells #[iv v.tx, .bool v.gone, iv v.id, .string v.name, .string v.zone, iv v.wall, iv v.gap, iv v.fold] 87)) := by simp [go_sem]
   have u0 := jaa bV t0
   have u4 := jaa bV t4
   have FU := iU.below bV
   have C5 := qtr bQ bV
   have dz := qtr aH bV
   have mX : Cl 54 #[.slice (some (ad b ob)) i cv, iv v.id] (wa.alloc (.cells #[iv v.tx, .bool v.gone, iv v.id, .string v.name, .string v.zone, iv v.wall, iv v.gap, iv v.fold] 87)).drew _ := hL (wa.alloc (.cells #[iv v.tx, .bool v.gone, iv v.id, .string v.name, .string v.zone, iv v.wall, iv v.gap, iv v.fold] 87)).drew (bV.trans ((jab _).mono bV.size))
   clear t0 t4 iU bQ aH hL bV c2
   generalize (wa.alloc (.cells #[iv v.tx, .bool v.gone, iv v.id, .string v.name, .string v.zone, iv v.wall, iv v.gap, iv v.fold] 87)) = wv at *
   generalize wa.heap.size = bt at *
   skip
   go_wp2_with fail
   refine wp_region_noPanic ?_
   refine wp_region_held_drew (S := fun w' => w'.cell? (ad w.heap.size 8) = some (.slice (some (ad b ob)) n cv) /\ w'.cell? (ad bt 2) = some (iv v.id)) (by kernel_rfl) ⟨(show wv.drew.cell? (ad w.heap.size 8) = _ from u4), (show wv.drew.cell? (ad bt 2) = _ from y2)⟩ (fun di => ?_)
   have z0 := jaa (jab wv) u0
   have z4 := jaa (jab wv) u4
   have x0 := jaa (jab wv) y0
   have x1 := jaa (jab wv) y1
   have x2 := jaa (jab wv) y2
   have x3 := jaa (jab wv) y3
   have x4 := jaa (jab wv) y4
   have x5 := jaa (jab wv) y5
   have x6 := jaa (jab wv) y6
   have x7 := jaa (jab wv) y7
   have iV := FU.below (jab wv)
   have eg := C5.trans ((jab wv).mono C5.size)
   have eV := dz.trans ((jab wv).mono dz.size)
   clear u0 u4 FU C5 dz y0 y1 y2 y3 y4 y5 y6 y7
   refine wpAnyH_take (i := 0) (v := ?v1) rfl (by kernel_rfl) (by kernel_rfl) (by kernel_rfl) (fun _ _ _ h => h) (Or.inl ⟨by kernel_rfl, ?y1⟩) di ?z1
   case y1 => (intro wq dJ; (try dsimp only at dJ); go_simp; try with_reducible rfl)
   try simp only [Act.put, qq1, qq2, qq3]
   refine wpAnyH_take (i := 1) (v := ?v2) rfl (by kernel_rfl) (by kernel_rfl) (by kernel_rfl) (fun _ _ _ h => h) (Or.inl ⟨by kernel_rfl, ?y2⟩) di ?z2
   case y2 => (intro wq dJ; (try dsimp only at dJ); go_simp; try with_reducible rfl)
   try simp only [Act.put, qq1, qq2, qq3]
   refine wpAnyH_take (i := 2) (v := ?v3) rfl (by kernel_rfl) (by kernel_rfl) (by kernel_rfl) (fun _ _ _ h => h) (Or.inl ⟨by kernel_rfl, ?y3⟩) di ?z3
   case y3 => (intro wq dJ; (try dsimp only at dJ); go_simp; try with_reducible rfl)
   try simp only [Act.put, qq1, qq2, qq3]
   refine wpAnyH_take (i := 3) (v := ?v4) rfl (by kernel_rfl) (by kernel_rfl) (by kernel_rfl) (fun _ _ _ h => h) (Or.inl ⟨by kernel_rfl, ?y4⟩) di ?z4
   case y4 => (intro wq dJ; (try dsimp only at dJ); go_simp; try with_reducible rfl)
   try simp only [Act.put, qq1, qq2, qq3]
   refine wpAnyH_take (i := 4) (v := ?v5) rfl (by kernel_rfl) (by kernel_rfl) (by kernel_rfl) (fun _ _ _ h => h) (Or.inl ⟨by kernel_rfl, ?y5⟩) di ?z5
   case y5 => (intro wq dJ; (try dsimp only at dJ); go_simp; try with_reducible rfl)
   try simp only [Act.put, qq1, qq2, qq3]
   refine wpAnyH_take (i := 5) (v := ?v6) rfl (by kernel_rfl) (by kernel_rfl) (by kernel_rfl) (fun _ _ _ h => h) (Or.inl ⟨by kernel_rfl, ?y6⟩) di ?z6
   case y6 => (intro wq dJ; (try dsimp only at dJ); go_simp; try with_reducible rfl)
   try simp only [Act.put, qq1, qq2, qq3]
   refine wpAnyH_take (i := 6) (v := ?v7) rfl (by kernel_rfl) (by kernel_rfl) (by kernel_rfl) (fun _ _ _ h => h) (Or.inl ⟨by kernel_rfl, ?y7⟩) di ?z7
   case y7 => (intro wq dJ; (try dsimp only at dJ); go_simp; try with_reducible rfl)
   try simp only [Act.put, qq1, qq2, qq3]
   refine wpAnyH_ready (rs := [7]) (by kernel_rfl) (by simp) ?_
   refine AllReadyH.cons rfl (fun K hK => ?_) AllReadyH.nil
   go_simp
   refine mX.mono ?_
   rintro e wx ⟨rfl, bK⟩
   have du := bK.symm
   clear bK
   subst du
   go_wp2_with fail
   refine hK.out _ _ ⟨z4, x2⟩ (fun di => ?_)
   clear hK K mX
   try simp only [Act.put, qq1, qq2, qq3]
   refine wpAnyH_take (i := 8) (v := ?v8) rfl (by kernel_rfl) (by kernel_rfl) (by kernel_rfl) (fun _ _ _ h => h) (Or.inl ⟨by kernel_rfl, ?y8⟩) di ?z8
   case y8 => (intro wq dJ; (try dsimp only at dJ); go_simp; try with_reducible rfl)
   try simp only [Act.put, qq1, qq2, qq3]
   try simp only [Act.put, List.getElem_toArray, List.getElem_cons_succ, List.getElem_cons_zero, qq1, qq2, qq3]
   refine wpAnyH_done (by kernel_rfl) ?_ _
   refine NoPanic.normal ?_
   clear di
   generalize wv.drew = wz at *
   generalize lu : jd6 l i = pt at *
   have oC : Hid (verI l aN i v = (decide (pt < v.tx) && (decide (v.tx <= aN) && (jbn v.ev && (!v.gone || jdt l i v))))) := by simp only [Hid]; rw [verI, lu]
   clear lu
   by_cases e1 : v.tx <= pt
   ·have P3 : ¬ pt < v.tx := by omega
    have gT := cell_regrown x0
    have iI := cell_regrown x1
    have iJ := cell_regrown x2
    have iK := cell_regrown x3
    have iL := cell_regrown x4
    have iM := cell_regrown x5
    have iN := cell_regrown x6
    have iO := cell_regrown x7
    have iP := cell_regrown z0
    have iQ := cell_regrown z4
    have r1 : decide (v.tx <= pt) = true := dte e1
    go_wp2_with fail
    refine wp_region_quiet_below (by kernel_rfl) (by kernel_rfl) ?_
    repeat (first | go_big_quiet_step (fail) | quiet_step (fail))
    refine wpQuiet_nil ?_
    intro _ hw
    obtain ⟨⟨dq, aQ⟩, gY⟩ := hw
    subst gY
    have bl := below_regrown wz dq aQ
    have ed := qtr eg bl
    have mS := qtr eV bl
    clear bl eg eV el gT iI iJ iK iL iM iN iO iP iQ
    generalize grow (redrawn wz dq) aQ = wE at *
    obtain rfl : VB = false := i6.out (by rw [oC.out]; rw [dfe (show ¬ pt < v.tx by omega)]; rfl)
    go_wp2
    go_ret
    exact ⟨rfl, ed⟩
   by_cases e2 : aN < v.tx
   ·have P4 : ¬ v.tx <= aN := by omega
    have gT := cell_regrown x0
    have iI := cell_regrown x1
    have iJ := cell_regrown x2
    have iK := cell_regrown x3
    have iL := cell_regrown x4
    have iM := cell_regrown x5
    have iN := cell_regrown x6
    have iO := cell_regrown x7
    have iP := cell_regrown z0
    have iQ := cell_regrown z4
    have r1 : decide (v.tx <= pt) = false := dfe e1
    have r2 : decide (aN < v.tx) = true := dte e2
    go_wp2_with fail
    refine wp_region_quiet_below (by kernel_rfl) (by kernel_rfl) ?_
    repeat (first | go_big_quiet_step (fail) | quiet_step (fail))
    refine wpQuiet_nil ?_
    intro _ hw
    obtain ⟨⟨dq, aQ⟩, gY⟩ := hw
    subst gY
    have bl := below_regrown wz dq aQ
    have ed := qtr eg bl
    have mS := qtr eV bl
    clear bl eg eV el gT iI iJ iK iL iM iN iO iP iQ
    generalize grow (redrawn wz dq) aQ = wE at *
    obtain rfl : VB = false := i6.out (by rw [oC.out]; rw [dfe (show ¬ v.tx <= aN by omega)]; simp)
    go_wp2
    go_ret
    exact ⟨rfl, ed⟩
   have Kh : pt < v.tx := by omega
   have Kj : v.tx <= aN := by omega
   have jX : Hid (verI l aN i v = (jbn v.ev && (!v.gone || jdt l i v))) := by simp only [Hid]; rw [oC.out, dte Kh, dte Kj]; rfl
   clear oC
   rename Hid (verI l aN i v = (jbn v.ev && (!v.gone || jdt l i v))) => oC
   have Fg : jbn ⟨v.id, v.name, v.zone, v.wall, v.gap, v.fold⟩ = jbn v.ev := rfl
   rw [Fg] at el
   clear Fg
   cases e3 : jbn v.ev
   case false =>
    rw [e3] at el
    have gT := cell_regrown x0
    have iI := cell_regrown x1
    have iJ := cell_regrown x2
    have iK := cell_regrown x3
    have iL := cell_regrown x4
    have iM := cell_regrown x5
    have iN := cell_regrown x6
    have iO := cell_regrown x7
    have iP := cell_regrown z0
    have iQ := cell_regrown z4
    have r1 : decide (v.tx <= pt) = false := dfe e1
    have r2 : decide (aN < v.tx) = false := dfe e2
    have cE : ∀ dd os, Cl _ _ (grow (redrawn wz dd) os) fun e w2 => e = .returned (.bool false) /\ ∃ p : Regrown, w2 = grow (redrawn wz p.d) p.os := fun dd os => Calls.regrown_of (el _)
    go_wp2_with fail
    refine wp_region_quiet_below (by kernel_rfl) (by kernel_rfl) ?_
    repeat (first | go_big_quiet_step ((go_at_call 87; exact cE _ _)) | quiet_step ((go_at_call 87; exact cE _ _)))
    refine wpQuiet_nil ?_
    intro _ hw
    obtain ⟨⟨dq, aQ⟩, gY⟩ := hw
    subst gY
    have bl := below_regrown wz dq aQ
    have ed := qtr eg bl
    have mS := qtr eV bl
    clear bl eg eV el gT iI iJ iK iL iM iN iO iP iQ
    generalize grow (redrawn wz dq) aQ = wE at *
    obtain rfl : VB = false := i6.out (by rw [oC.out]; rw [e3]; rfl)
    go_wp2
    go_ret
    exact ⟨rfl, ed⟩
   rw [e3] at el
   have zW : Hid (verI l aN i v = (!v.gone || jdt l i v)) := by simp only [Hid]; rw [oC.out, e3]; rfl
   clear oC e3
   cases e4 : v.gone
   case false =>
    have HG : Hid (verK l aN (i + 1) = true) := mM.out (by rw [zW.out]; rw [e4]; rfl)
    rw [e4] at x1
    clear e4
    have gT := cell_regrown x0
    have iI := cell_regrown x1
    have iJ := cell_regrown x2
    have iK := cell_regrown x3
    have iL := cell_regrown x4
    have iM := cell_regrown x5
    have iN := cell_regrown x6
    have iO := cell_regrown x7
    have iP := cell_regrown z0
    have iQ := cell_regrown z4
    have r1 : decide (v.tx <= pt) = false := dfe e1
    have r2 : decide (aN < v.tx) = false := dfe e2
    have cE : ∀ dd os, Cl _ _ (grow (redrawn wz dd) os) fun e w2 => e = .returned (.bool true) /\ ∃ p : Regrown, w2 = grow (redrawn wz p.d) p.os := fun dd os => Calls.regrown_of (el _)
    go_wp2_with fail
    refine wp_region_quiet_below (by kernel_rfl) (by kernel_rfl) ?_
    repeat (first | go_big_quiet_step ((go_at_call 87; exact cE _ _)) | quiet_step ((go_at_call 87; exact cE _ _)))
    refine wpQuiet_nil ?_
    intro _ hw
    obtain ⟨⟨dq, aQ⟩, gY⟩ := hw
    subst gY
    have bl := below_regrown wz dq aQ
    have ed := qtr eg bl
    have mS := qtr eV bl
    have xE := gT dq aQ
    clear bl eg eV el gT iI iJ iK iL iM iN iO iP iQ
    generalize grow (redrawn wz dq) aQ = wE at *
    go_wp2
    go_roundw
    case rel => exact ⟨i + 1, by omega, by go_num, by rw [pR.out], HG.out, mS⟩
    case measure => simp [intOf]; omega
   have yz : Hid (verI l aN i v = jdt l i v) := by simp only [Hid]; rw [zW.out, e4]; rfl
   rw [e4] at x1
   clear e4 zW
   cases kk with
   | none =>
    simp only [numI]
    have gT := cell_regrown x0
    have iI := cell_regrown x1
    have iJ := cell_regrown x2
    have iK := cell_regrown x3
    have iL := cell_regrown x4
    have iM := cell_regrown x5
    have iN := cell_regrown x6
    have iO := cell_regrown x7
    have iP := cell_regrown z0
    have iQ := cell_regrown z4
    have r1 : decide (v.tx <= pt) = false := dfe e1
    have r2 : decide (aN < v.tx) = false := dfe e2
    have cE : ∀ dd os, Cl _ _ (grow (redrawn wz dd) os) fun e w2 => e = .returned (.bool true) /\ ∃ p : Regrown, w2 = grow (redrawn wz p.d) p.os := fun dd os => Calls.regrown_of (el _)
    go_wp2_with fail
    refine wp_region_quiet_below (by kernel_rfl) (by kernel_rfl) ?_
    repeat (first | go_big_quiet_step ((go_at_call 87; exact cE _ _)) | quiet_step ((go_at_call 87; exact cE _ _)))
    refine wpQuiet_nil ?_
    intro _ hw
    obtain ⟨⟨dq, aQ⟩, gY⟩ := hw
    subst gY
    have bl := below_regrown wz dq aQ
    have ed := qtr eg bl
    have mS := qtr eV bl
    clear bl eg eV el gT iI iJ iK iL iM iN iO iP iQ
    generalize grow (redrawn wz dq) aQ = wE at *
    obtain rfl : VB = false := i6.out (by rw [yz.out]; exact jt9 yv.out)
    go_wp2
    go_ret
    exact ⟨rfl, ed⟩
   | some k =>
    simp only [numI]
    obtain ⟨nC, ⟨x, tm, hid⟩, _⟩ := jdf yv.out
    rw [List.length_take, HN.out] at nC
    have Lz : k < i := by omega
    have ri : l[k]? = some x := by rw [List.getElem?_take_of_lt Lz] at tm; exact tm
    have wT : (l.map VersionD.cs)[k]? = some x.cs := by rw [lgm, ri]; rfl
    obtain ⟨b2, o2, AY, ei⟩ := iV.at (i := k) wT
    injection AY with AY
    injection AY with eab1 eab2
    subst eab1 eab2
    have m1 : wz.cell? (ad b (ob + k * 8 + 1)) = some (.bool x.gone) := ei 1 _ rfl
    have m2 : wz.cell? (ad b (ob + k * 8 + 2)) = some (iv x.id) := ei 2 _ rfl
    have m3 : wz.cell? (ad b (ob + k * 8 + 3)) = some (.string x.name) := ei 3 _ rfl
    have m4 : wz.cell? (ad b (ob + k * 8 + 4)) = some (.string x.zone) := ei 4 _ rfl
    have m5 : wz.cell? (ad b (ob + k * 8 + 5)) = some (iv x.wall) := ei 5 _ rfl
    have m6 : wz.cell? (ad b (ob + k * 8 + 6)) = some (iv x.gap) := ei 6 _ rfl
    have m7 : wz.cell? (ad b (ob + k * 8 + 7)) = some (iv x.fold) := ei 7 _ rfl
    have k0 : ¬ (k : Int) < 0 := by omega
    have k1 : (0 : Int) <= (k : Int) := by omega
    have k2 : (k : Int) < (n : Int) := by omega
    clear ei wT ri nC hid
    cases e5 : x.gone
    case true =>
     obtain rfl : VB = false := i6.out (by rw [yz.out]; exact jua yv.out tm e5)
     rw [e5] at m1
     clear e5 tm
     have gT := cell_regrown x0
     have iI := cell_regrown x1
     have iJ := cell_regrown x2
     have iK := cell_regrown x3
     have iL := cell_regrown x4
     have iM := cell_regrown x5
     have iN := cell_regrown x6
     have iO := cell_regrown x7
     have iP := cell_regrown z0
     have iQ := cell_regrown z4
     have xc := cell_regrown m1
     have r1 : decide (v.tx <= pt) = false := dfe e1
     have r2 : decide (aN < v.tx) = false := dfe e2
     have cE : ∀ dd os, Cl _ _ (grow (redrawn wz dd) os) fun e w2 => e = .returned (.bool true) /\ ∃ p : Regrown, w2 = grow (redrawn wz p.d) p.os := fun dd os => Calls.regrown_of (el _)
     have r5 : decide ((k : Int) < 0) = false := dfe k0
     go_wp2_with fail
     refine wp_region_quiet_below (by kernel_rfl) (by kernel_rfl) ?_
     repeat (first | go_big_quiet_step ((go_at_call 87; exact cE _ _)) | quiet_step ((go_at_call 87; exact cE _ _)))
     refine wpQuiet_nil ?_
     intro _ hw
     obtain ⟨⟨dq, aQ⟩, gY⟩ := hw
     subst gY
     have bl := below_regrown wz dq aQ
     have ed := qtr eg bl
     have mS := qtr eV bl
     clear bl eg eV el gT iI iJ iK iL iM iN iO iP iQ xc
     generalize grow (redrawn wz dq) aQ = wE at *
     go_wp2
     go_ret
     exact ⟨rfl, ed⟩
    have Fp : Hid (verI l aN i v = je9 x.ev v.ev) := by simp only [Hid]; rw [yz.out]; exact j0a yv.out tm e5
    rw [e5] at m1
    clear e5 tm yz
    clear nH
    cases e6 : je9 x.ev v.ev
    case false =>
     obtain rfl : VB = false := i6.out (by rw [Fp.out]; exact e6)
     have E6 := hid e6
     clear e6
     have gT := cell_regrown x0
     have iI := cell_regrown x1
     have iJ := cell_regrown x2
     have iK := cell_regrown x3
     have iL := cell_regrown x4
     have iM := cell_regrown x5
     have iN := cell_regrown x6
     have iO := cell_regrown x7
     have iP := cell_regrown z0
     have iQ := cell_regrown z4
     have xc := cell_regrown m1
     have DS := cell_regrown m2
     have DT := cell_regrown m3
     have DU := cell_regrown m4
     have DV := cell_regrown m5
     have DW := cell_regrown m6
     have DX := cell_regrown m7
     have r1 : decide (v.tx <= pt) = false := dfe e1
     have r2 : decide (aN < v.tx) = false := dfe e2
     have cE : ∀ dd os, Cl _ _ (grow (redrawn wz dd) os) fun e w2 => e = .returned (.bool true) /\ ∃ p : Regrown, w2 = grow (redrawn wz p.d) p.os := fun dd os => Calls.regrown_of (el _)
     have r5 : decide ((k : Int) < 0) = false := dfe k0
     have wG := fun w => jiq x.ev v.ev w
     simp only [E6.out] at wG
     simp only [VersionD.ev] at wG
     go_wp2_with fail
     refine wp_region_quiet_below (by kernel_rfl) (by kernel_rfl) ?_
     repeat (first | go_big_quiet_step ((go_at_call 87; exact cE _ _)) | quiet_step ((go_at_call 87; exact cE _ _)))
     refine wpQuiet_nil ?_
     intro _ hw
     obtain ⟨⟨dq, aQ⟩, gY⟩ := hw
     subst gY
     have bl := below_regrown wz dq aQ
     have ed := qtr eg bl
     have mS := qtr eV bl
     clear bl eg eV el gT iI iJ iK iL iM iN iO iP iQ xc DS DT DU DV DW DX
     generalize grow (redrawn wz dq) aQ = wE at *
     go_wp2
     go_ret
     exact ⟨rfl, ed⟩
    have HG : Hid (verK l aN (i + 1) = true) := mM.out (by rw [Fp.out]; exact e6)
    have E6 := hid e6
    clear e6
    have gT := cell_regrown x0
    have iI := cell_regrown x1
    have iJ := cell_regrown x2
    have iK := cell_regrown x3
    have iL := cell_regrown x4
    have iM := cell_regrown x5
    have iN := cell_regrown x6
    have iO := cell_regrown x7
    have iP := cell_regrown z0
    have iQ := cell_regrown z4
    have xc := cell_regrown m1
    have DS := cell_regrown m2
    have DT := cell_regrown m3
    have DU := cell_regrown m4
    have DV := cell_regrown m5
    have DW := cell_regrown m6
    have DX := cell_regrown m7
    have r1 : decide (v.tx <= pt) = false := dfe e1
    have r2 : decide (aN < v.tx) = false := dfe e2
    have cE : ∀ dd os, Cl _ _ (grow (redrawn wz dd) os) fun e w2 => e = .returned (.bool true) /\ ∃ p : Regrown, w2 = grow (redrawn wz p.d) p.os := fun dd os => Calls.regrown_of (el _)
    have r5 : decide ((k : Int) < 0) = false := dfe k0
    have wG := fun w => jiq x.ev v.ev w
    simp only [E6.out] at wG
    simp only [VersionD.ev] at wG
    go_wp2_with fail
    refine wp_region_quiet_below (by kernel_rfl) (by kernel_rfl) ?_
    repeat (first | go_big_quiet_step ((go_at_call 87; exact cE _ _)) | quiet_step ((go_at_call 87; exact cE _ _)))
    refine wpQuiet_nil ?_
    intro _ hw
    obtain ⟨⟨dq, aQ⟩, gY⟩ := hw
    subst gY
    have bl := below_regrown wz dq aQ
    have ed := qtr eg bl
    have mS := qtr eV bl
    have xE := gT dq aQ
    clear bl eg eV el gT iI iJ iK iL iM iN iO iP iQ xc DS DT DU DV DW DX
    generalize grow (redrawn wz dq) aQ = wE at *
    go_wp2
    go_roundw
    case rel => exact ⟨i + 1, by omega, by go_num, by rw [pR.out], HG.out, mS⟩
    case measure => simp [intOf]; omega
  ·have hE : i = n := by omega
   subst hE
   have a1 : ¬ (i : Int) < (i : Int) := by omega
   obtain rfl : VB = true := by rw [HV.out]; exact HK.out
   clear iU
   go_wp2
   go_ret
   exact ⟨rfl, bQ⟩
end
section
open Go.RowKit
def txI (l : List VersionD) (aN : Int) (i : Nat) (v : VersionD) : Bool := decide (jd6 l i < v.tx) && (decide (v.tx <= aN) && jbn v.ev)
def txK (l : List VersionD) (aN : Int) : Nat -> Bool
 | 0 => true
 | k + 1 => txK l aN k && (match l[k]? with
  | some v => txI l aN k v
  | none => true)
def txB (l : List VersionD) (aN : Int) : Bool := decide (l.length <= 60) && txK l aN l.length
theorem ju1 {l : List VersionD} {aN : Int} {k : Nat} {v : VersionD} (hv : l[k]? = some v) (h : txI l aN k v = false) : ∀ {n : Nat}, k < n -> txK l aN n = false := by
 intro n
 induction n with
 | zero => intro hn; omega
 | succ n ih =>
  intro hn
  rw [txK]
  by_cases e : k = n
  ·subst e; rw [hv]; simp [h]
  ·rw [ih (by omega)]; rfl
theorem j1r {l : List VersionD} {aN : Int} {k : Nat} {v : VersionD} (hv : l[k]? = some v) (h : txI l aN k v = true) (hk : txK l aN k = true) : txK l aN (k + 1) = true := by rw [txK, hk, hv]; simp [h]
theorem jyl {l : List VersionD} {aN : Int} (h : ¬ l.length <= 60) : txB l aN = false := by unfold txB; rw [dfe h]; rfl
theorem j29 {l : List VersionD} {aN : Int} (h : l.length <= 60) : txB l aN = txK l aN l.length := by unfold txB; rw [dte h]; rfl
def jds (l : List VersionD) : Nat -> Bool
 | 0 => true
 | k + 1 => jds l k && (match l[k]? with
  | some v => !v.gone || jdt l k v
  | none => true)
theorem jux (l : List VersionD) (aN : Int) : ∀ k, verK l aN k = (txK l aN k && jds l k)
 | 0 => rfl
 | k + 1 => by
  rw [verK, txK, jds, jux l aN k]
  cases l[k]? with
  | none => simp
  | some v => simp only [verI, txI]; cases txK l aN k <;> cases jds l k <;> cases decide (jd6 l k < v.tx) <;> cases decide (v.tx <= aN) <;> cases jbn v.ev <;> simp
theorem jlm (l : List VersionD) (aN : Int) : verB l aN = (txB l aN && jds l l.length) := by unfold verB txB; rw [jux]; cases decide (l.length <= 60) <;> simp
theorem jfv (l : List VersionD) (aN cur : Int) (r0 r1 r2 r3 r4 r5 va ia : Option Addr) (p0 q0 p1 q1 p2 q2 p3 q3 p4 q4 p5 q5 n cv ni ci : Nat) (w : World) (hA : Za w va 8 (l.map VersionD.cs)) (df : ∀ v ∈ l, v.ok) (hn : l.length = n) (hl : n <= 1048576) :
  Cl 61 #[.agg #[iv aN, .slice r0 p0 q0, .slice r1 p1 q1, .slice r2 p2 q2, .slice r3 p3 q3, .slice r4 p4 q4, .slice r5 p5 q5, iv cur, .slice va n cv, .slice ia ni ci]] w fun e w' => e = .returned (.bool (txB l aN)) /\ Bw w w' := by
 have ag : Bw w (w.alloc (.cells #[iv aN, .slice r0 p0 q0, .slice r1 p1 q1, .slice r2 p2 q2, .slice r3 p3 q3, .slice r4 p4 q4, .slice r5 p5 q5, iv cur, .slice va n cv, .slice ia ni ci] 42)) := qal _ _
 by_cases KL : 60 < n
 ·rw [jyl (by omega)]
  have BS : (60 : Int) < (n : Int) := by omega
  go_enter Tryz.func61, Tryz.ntmps61
  go_wp2
  go_ret
  exact ⟨rfl, ag⟩
 have BS : ¬ (60 : Int) < (n : Int) := by omega
 obtain ⟨VB, qS⟩ := qeb (txB l aN)
 have HV : Hid (VB = txK l aN n) := by simp only [Hid]; rw [<- qS, j29 (by omega), hn]
 rw [qS]
 clear qS
 have HN := hid hn
 have HO := hid df
 have s0 : (w.alloc (.cells #[iv aN, .slice r0 p0 q0, .slice r1 p1 q1, .slice r2 p2 q2, .slice r3 p3 q3, .slice r4 p4 q4, .slice r5 p5 q5, iv cur, .slice va n cv, .slice ia ni ci] 42)).cell? (ad w.heap.size 0) = some (iv aN) := by simp [go_sem]
 have et := hA.below ag
 clear hn df hA
 go_enter Tryz.func61, Tryz.ntmps61
 go_wp2
 generalize (w.alloc (.cells #[iv aN, .slice r0 p0 q0, .slice r1 p1 q1, .slice r2 p2 q2, .slice r3 p3 q3, .slice r4 p4 q4, .slice r5 p5 q5, iv cur, .slice va n cv, .slice ia ni ci] 42)) = w0 at *
 go_loopw [3, 13] (fun t s wr => ∃ i : Nat, i <= n /\ s = iv i /\ t = iv (jd6 l i) /\ Hid (txK l aN i = true) /\ Bw w0 wr) (fun _ s _ => n - (intOf s).toNat)
 case atStart => exact ⟨0, by omega, rfl, rfl, rfl, brf _ _⟩
 case round =>
  obtain ⟨wa, dY⟩ := qea wr
  subst dY
  obtain ⟨i, hin, rfl, rfl, HK, aH⟩ := hrel
  have t0 := jaa aH s0
  have iU := et.below aH
  have bQ := qtr ag aH
  clear s0 et ag
  by_cases hlt : i < n
  ·have a1 : (i : Int) < (n : Int) := by omega
   obtain ⟨v, hv⟩ : ∃ v, l[i]? = some v := ⟨_, lgg (by have := HN.out; omega)⟩
   have ao : (l.map VersionD.cs)[i]? = some v.cs := by rw [lgm, hv]; rfl
   obtain ⟨b, ob, rfl, hc⟩ := iU.at (i := i) ao
   have c0 : wa.cell? (ad b (ob + i * 8)) = some (iv v.tx) := hc 0 _ rfl
   have c1 : wa.cell? (ad b (ob + i * 8 + 1)) = some (.bool v.gone) := hc 1 _ rfl
   have c2 : wa.cell? (ad b (ob + i * 8 + 2)) = some (iv v.id) := hc 2 _ rfl
   have c3 : wa.cell? (ad b (ob + i * 8 + 3)) = some (.string v.name) := hc 3 _ rfl
   have c4 : wa.cell? (ad b (ob + i * 8 + 4)) = some (.string v.zone) := hc 4 _ rfl
   have c5 : wa.cell? (ad b (ob + i * 8 + 5)) = some (iv v.wall) := hc 5 _ rfl
   have c6 : wa.cell? (ad b (ob + i * 8 + 6)) = some (iv v.gap) := hc 6 _ rfl
   have c7 : wa.cell? (ad b (ob + i * 8 + 7)) = some (iv v.fold) := hc 7 _ rfl
   clear hc ao
   have tG := HO.out v (lmg hv)
   have i6 : Hid (txI l aN i v = false -> VB = false) := fun h1 => by rw [HV.out]; exact ju1 hv h1 (by omega)
   have mM : Hid (txI l aN i v = true -> txK l aN (i + 1) = true) := fun h => j1r hv h HK.out
   have pR : Hid (jd6 l (i + 1) = v.tx) := by simp only [Hid]; rw [jd6, hv]
   have el := fun w => jjj v.ev w tG.1 tG.2
   simp only [EventD.v, VersionD.ev] at el
   have Lh := qbl t0
   have aC := Nat.ne_of_lt Lh
   clear hv tG iU
   obtain ⟨pt, lu⟩ := qeb (jd6 l i)
   have sD : Hid (txI l aN i v = (decide (pt < v.tx) && (decide (v.tx <= aN) && jbn v.ev))) := by simp only [Hid, txI]; rw [lu]
   rw [lu]
   clear lu
   have iW : ∀ o, Bw w (wa.alloc o) := fun o => bQ.alloc bQ.size _
   have hsz := bQ.size
   by_cases e1 : v.tx <= pt
   ·obtain rfl : VB = false := i6.out (by rw [sD.out, dfe (by omega)]; rfl)
    go_wp2
    go_ret
    exact ⟨rfl, iW _⟩
   have oB : Hid (txI l aN i v = (decide (v.tx <= aN) && jbn v.ev)) := by simp only [Hid]; rw [sD.out, dte (by omega)]; rfl
   clear sD
   by_cases e2 : aN < v.tx
   ·obtain rfl : VB = false := i6.out (by rw [oB.out, dfe (by omega)]; rfl)
    go_wp2
    go_ret
    exact ⟨rfl, iW _⟩
   have jX : Hid (txI l aN i v = jbn v.ev) := by simp only [Hid]; rw [oB.out, dte (by omega)]; rfl
   clear oB
   simp only [VersionD.ev] at jX
   obtain ⟨eb, GG⟩ := qeb (jbn ⟨v.id, v.name, v.zone, v.wall, v.gap, v.fold⟩)
   rw [GG] at el jX
   clear GG
   cases eb
   ·obtain rfl : VB = false := i6.out jX.out
    go_wp2_with fail
    refine (el _).mono ?_
    rintro e wx ⟨rfl, bK⟩
    go_wp2
    go_ret
    exact ⟨rfl, (iW _).trans (bK.mono (by simp; omega))⟩
   have HG : Hid (txK l aN (i + 1) = true) := mM.out jX.out
   clear jX i6 mM
   go_wp2_with fail
   refine (el _).mono ?_
   rintro e wx ⟨rfl, bK⟩
   have xv : wx.cell? (ad wa.heap.size 0) = some (iv v.tx) := jaa bK (by simp [go_sem])
   have eU := (aH.alloc aH.size _).trans (bK.mono (by simp; have := aH.size; omega))
   clear bK
   go_wp2
   go_roundw
   case rel => exact ⟨i + 1, by omega, by go_num, by rw [pR.out], HG, eU⟩
   case measure => simp [intOf]; omega
  ·obtain rfl : i = n := by omega
   have HF : Hid (VB = true) := by simp only [Hid]; rw [HV.out]; exact HK.out
   go_wp2
   go_ret
   exact ⟨ret_bool HF.out.symm, bQ⟩
end
section
open Go.RowKit Go.ChangeMaps Go.MapKept
def jb7 : Value -> Option (DataW EventD × List MemPlace)
 | .agg ⟨[.int .i64 a, .string b, .string c, .int .i64 d, .int .i64 e, .int .i64 f]⟩ => some (.held ⟨a, b, c, d, e, f⟩, [])
 | _ => none
theorem jpc (e : EventD) : jb7 e.v = some (.held e, []) := by cases e; rfl
theorem jcd {v : Value} {z : DataW EventD × List MemPlace} (h : jb7 v = some z) : ∃ e : EventD, v = e.v /\ z = (.held e, []) := by
 unfold jb7 at h
 split at h
 ·cases h; exact ⟨_, rfl, rfl⟩
 ·cases h
def MapV (D : DataW EventD) (f : Int -> Option EventD) : Prop := ∀ id e, (f id = some e -> Maps.has D (.int .i64 id) = true /\ ∀ z, D.atKey (.int .i64 id) z = .held e) /\ (f id = none -> Maps.has D (.int .i64 id) = false)
structure Zj (w : World) (b n : Nat) (f : Int -> Option EventD) : Prop where
 own : ∃ D, w.ownsMap Tryz.prog 2 jb7 b n D /\ MapV D f
def putF (f : Int -> Option EventD) (e : EventD) (id : Int) : Option EventD := if e.id = id then some e else f id
def delF (f : Int -> Option EventD) (i : Int) (id : Int) : Option EventD := if i = id then none else f id
theorem Zj.made (w : World) : Zj (w.alloc (.map #[] 0)) w.heap.size 0 (fun _ => none) := ⟨_, World.ownsMap_made w _ _ _, fun _ _ => ⟨fun h => by (cases h), fun _ => rfl⟩⟩
theorem Zj.lt {w : World} {b n : Nat} {f : Int -> Option EventD} (h : Zj w b n f) : b < w.heap.size := by
 obtain ⟨D, h1, _⟩ := h.own
 exact h1.lt
theorem Zj.kept {w w' : World} {b n : Nat} {f : Int -> Option EventD} {row : Option Nat} (h : Zj w b n f) (hg : w.grownBy w' row) (aC : some b ≠ row) : Zj w' b n f := by
 obtain ⟨D, h1, h2⟩ := h.own
 exact ⟨D, h1.kept hg aC, h2⟩
theorem Zj.below {w w' : World} {b n : Nat} {f : Int -> Option EventD} (h : Zj w b n f) (hb : Bw w w') : Zj w' b n f := h.kept (row := none) ⟨hb.os, hb.tape, hb.output, hb.size, fun k hk _ => hb.block k hk⟩ (by simp)
theorem Zj.alloc {w : World} {b n : Nat} {f : Int -> Option EventD} (h : Zj w b n f) (o : Obj) : Zj (w.alloc o) b n f := by
 obtain ⟨D, h1, h2⟩ := h.own
 exact ⟨D, h1.alloc o, h2⟩
theorem jwl {id : Int} (h : 1 <= id /\ id <= 1000000) : (Lit.int .i64 id).wf = true := by
 have h1 : IntKind.min .i64 = -9223372036854775808 := rfl
 have h2 : IntKind.max .i64 = 9223372036854775807 := rfl
 show (decide (IntKind.min .i64 <= id) && decide (id <= IntKind.max .i64)) = true
 rw [h1, h2, dte (by omega), dte (by omega)]
 rfl
theorem jup (w : World) : (zeroValue 79).run Tryz.prog w = .ok (EventD.v ⟨0, ⟨#[]⟩, ⟨#[]⟩, 0, 0, 0⟩) w := by kernel_rfl
theorem mapT : Tryz.prog.underlying 70 = some (.map 2 79) := by kernel_rfl
theorem keyT : Tryz.prog.underlying 2 = some (.int .i64) := by kernel_rfl
theorem Zj.look {w : World} {b n : Nat} {f : Int -> Option EventD} (h : Zj w b n f) {id : Int} (jf : 1 <= id /\ id <= 1000000) : ∃ e : EventD, (Instr.lookup 70 (.map (some b)) (iv id) true).run Tryz.prog w = .ok (.tuple #[e.v, .bool (f id).isSome]) w /\ ∀ x, f id = some x -> e = x := by
 obtain ⟨D, h1, h2⟩ := h.own
 obtain ⟨v, ps, hr, hv⟩ := h1.look_ok (Maps.int_keyed keyT) mapT (jup w) (jpc _) (Maps.keyOf_int_mk keyT (jwl jf))
 obtain ⟨e, rfl, he⟩ := jcd hv
 cases hf : f id with
 | none => exact ⟨e, by rw [hr, (h2 id e).2 hf]; rfl, fun x hx => by cases hx⟩
 | some y =>
  obtain ⟨a, c⟩ := (h2 id y).1 hf
  refine ⟨e, by rw [hr, a]; rfl, fun x hx => ?_⟩
  obtain rfl := osi hx
  rw [c] at he
  have h3 := congrArg Prod.fst he
  simp only [DataW.held.injEq] at h3
  exact h3.symm
theorem Zj.drop {w : World} {b n : Nat} {f : Int -> Option EventD} (h : Zj w b n f) {id : Int} (jf : 1 <= id /\ id <= 1000000) (ty : TypeId) : ∃ w', (Builtin.delete_ #[70, 2] ty #[.map (some b), iv id]).run Tryz.prog w = .ok (.tuple #[]) w' /\ Zj w' b n (delF f id) /\ w.mapTurned w' b := by
 obtain ⟨D, h1, h2⟩ := h.own
 obtain ⟨w', hr, ho, ht⟩ := h1.drop (Maps.int_keyed keyT) mapT (Maps.keyOf_int_mk keyT (jwl jf)) ty
 refine ⟨w', hr, ⟨_, ho, fun i e => ?_⟩, ht⟩
 unfold delF
 by_cases hi : id = i
 ·subst hi
  rw [if_pos rfl]
  exact ⟨fun h => by (cases h), fun _ => Maps.has_del_same⟩
 ·rw [if_neg hi]
  have aC : Lit.int .i64 i ≠ Lit.int .i64 id := fun h => hi (by simp only [Lit.int.injEq, true_and] at h; exact h.symm)
  obtain ⟨a, c⟩ := h2 i e
  exact ⟨fun h => ⟨by rw [Maps.has_del_other aC]; exact (a h).1, fun z => by rw [Maps.atKey_del_other aC]; exact (a h).2 z⟩, fun h => by rw [Maps.has_del_other aC]; exact c h⟩
theorem Zj.store {w : World} {b n : Nat} {f : Int -> Option EventD} (h : Zj w b n f) (hn : n < maxLen) (e : EventD) (jf : 1 <= e.id /\ e.id <= 1000000) : ∃ w', (Instr.mapUpdate 70 (.map (some b)) (iv e.id) e.v).run Tryz.prog w = .ok () w' /\ Zj w' b (n + 1) (putF f e) /\ w.mapTurned w' b := by
 obtain ⟨D, h1, h2⟩ := h.own
 have hM := h1.isMap
 have yJ : WideAt.IsKeyLit (.int .i64 e.id) := trivial
 obtain ⟨w', hr, ho, ht⟩ := h1.store (Maps.int_keyed keyT) mapT hn (Maps.keyOf_int_mk keyT (jwl jf)) (jpc e)
 refine ⟨w', hr, ⟨_, ho, fun i x => ?_⟩, ht⟩
 unfold putF
 by_cases hi : e.id = i
 ·subst hi
  rw [if_pos rfl]
  exact ⟨fun h => ⟨Maps.has_put_same hM yJ _, fun z => by (cases h; exact Maps.atKey_put_same hM yJ _ _)⟩, fun h => by (cases h)⟩
 ·rw [if_neg hi]
  have aC : Lit.int .i64 i ≠ Lit.int .i64 e.id := fun h => hi (by simp only [Lit.int.injEq, true_and] at h; exact h.symm)
  obtain ⟨a, c⟩ := h2 i x
  exact ⟨fun h => ⟨by rw [Maps.has_put_other aC]; exact (a h).1, fun z => by rw [Maps.atKey_put_other aC]; exact (a h).2 z⟩, fun h => by rw [Maps.has_put_other aC]; exact c h⟩
end
section
open Go.RowKit Go.ChangeMaps Go.MapKept
def jyn (f : Int -> Option EventD) (v : VersionD) : Bool := !v.gone || (match f v.id with
 | some x => je9 x v.ev
 | none => false)
def jym (f : Int -> Option EventD) (v : VersionD) : Int -> Option EventD := if v.gone = true then delF f v.id else putF f v.ev
theorem js8 (l : List VersionD) (i : Nat) {v : VersionD} (hv : l[i]? = some v) : jym (jcr (l.take i)) v = jcr (l.take (i + 1)) := by
 funext id
 rw [List.take_add_one, hv]
 simp only [Option.toList]
 rw [jts]
 unfold jym
 cases v.gone
 ·simp only [Bool.false_eq_true, if_false]; rfl
 ·simp only [if_true]; rfl
theorem js9 (l : List VersionD) (i : Nat) (v : VersionD) : jyn (jcr (l.take i)) v = (!v.gone || jdt l i v) := rfl
theorem jvp {a b : EventD} (h1 : a.id = b.id) (h2 : a.name.toList = b.name.toList) (h3 : a.zone.toList = b.zone.toList) (h4 : a.wall = b.wall) (h5 : a.gap = b.gap) (h6 : a.fold = b.fold) : je9 a b = true := by
 unfold je9
 rw [dte h1, dte h4, dte h5, dte h6, h2, h3]
 simp
theorem jyv {a b : EventD} (h : a.id = b.id -> a.name.toList = b.name.toList -> a.zone.toList = b.zone.toList -> a.wall = b.wall -> a.gap = b.gap -> a.fold = b.fold -> False) : je9 a b = false := by
 cases hs : je9 a b
 ·rfl
 ·unfold je9 at hs
  simp only [bat] at hs
  obtain ⟨h1, h2, h3, h4, h5, h6⟩ := hs
  exact (h (odt h1) (eq_of_beq h2) (eq_of_beq h3) (odt h4) (odt h5) (odt h6)).elim
theorem jo4 {w w1 w2 : World} {b : Nat} (h1 : w.grownBy w1 none) (h2 : w1.mapTurned w2 b) : w.grownBy w2 (some b) := (h1.but _).andThen h2.grown (fun _ h => .inr h)
theorem jwv (v : VersionD) (b n : Nat) (f : Int -> Option EventD) (w : World) (h : Zj w b n f) (hn : n < maxLen) (jf : 1 <= v.id /\ v.id <= 1000000) :
  Cl 97 #[.map (some b), v.v] w fun e w' => e = .returned (.bool (jyn f v)) /\ Zj w' b (n + 1) (jym f v) /\ w.grownBy w' (some b) := by
 obtain ⟨tx, gone, id, name, zone, wall, gap, fold⟩ := v
 simp only [VersionD.v] at *
 have nH := fun a b w => jxj a b w
 have ze := fun op x y v1 v2 w => jjp op x y v1 v2 w
 have dL := h.alloc (.cells #[iv tx, .bool gone, iv id, .string name, .string zone, iv wall, iv gap, iv fold] 87)
 obtain ⟨x, gM, hx⟩ := dL.look jf
 have ew := dL.alloc (.cells #[iv x.id, .string x.name, .string x.zone, iv x.wall, iv x.gap, iv x.fold] 79)
 have cV : w.grownBy ((w.alloc (.cells #[iv tx, .bool gone, iv id, .string name, .string zone, iv wall, iv gap, iv fold] 87)).alloc (.cells #[iv x.id, .string x.name, .string x.zone, iv x.wall, iv x.gap, iv x.fold] 79)) none := (World.grownBy_alloc w _ none).andThen (World.grownBy_alloc _ _ none) (fun _ h => .inr h)
 simp only [EventD.v] at gM
 have hlt := h.lt
 have HX := hid hx
 clear hx
 have HT : Hid (jyn f ⟨tx, true, id, name, zone, wall, gap, fold⟩ = ((f id).isSome && je9 x ⟨id, name, zone, wall, gap, fold⟩)) := by
  simp only [Hid, jyn]
  cases hf : f id with
  | none => rfl
  | some y => rw [HX.out y hf]; rfl
 clear HX
 cases gone
 ·obtain ⟨w2, jP, eB, eQ⟩ := ew.store hn ⟨id, name, zone, wall, gap, fold⟩ jf
  simp only [EventD.v] at jP
  have HE := hid eB
  have HG : Hid (w.grownBy w2 (some b)) := jo4 cV eQ
  clear HT eB eQ cV ew dL
  go_enter Tryz.func97, Tryz.ntmps97
  go_wp2
  go_ret
  exact ⟨rfl, HE.out, HG.out⟩
 ·obtain ⟨w2, jP, eB, eQ⟩ := ew.drop jf 0
  have HE : Hid (Zj w2 b (n + 1) (jym f ⟨tx, true, id, name, zone, wall, gap, fold⟩)) := by
   obtain ⟨D, d1, d2⟩ := eB.own
   exact ⟨D, d1.mono (by omega), d2⟩
  have HG : Hid (w.grownBy w2 (some b)) := jo4 cV eQ
  have bg : some w.heap.size ≠ some b := by simp; omega
  have hb1 : some (w.heap.size + 1) ≠ some b := by simp; omega
  have v2 : w2.cell? (ad w.heap.size 2) = some (iv id) := eQ.grown.cell (by simp [go_sem]) bg
  have v3 : w2.cell? (ad w.heap.size 3) = some (.string name) := eQ.grown.cell (by simp [go_sem]) bg
  have v4 : w2.cell? (ad w.heap.size 4) = some (.string zone) := eQ.grown.cell (by simp [go_sem]) bg
  have v5 : w2.cell? (ad w.heap.size 5) = some (iv wall) := eQ.grown.cell (by simp [go_sem]) bg
  have v6 : w2.cell? (ad w.heap.size 6) = some (iv gap) := eQ.grown.cell (by simp [go_sem]) bg
  have v7 : w2.cell? (ad w.heap.size 7) = some (iv fold) := eQ.grown.cell (by simp [go_sem]) bg
  have x0 : w2.cell? (ad (w.heap.size + 1) 0) = some (iv x.id) := eQ.grown.cell (by simp [go_sem]) hb1
  have x1 : w2.cell? (ad (w.heap.size + 1) 1) = some (.string x.name) := eQ.grown.cell (by simp [go_sem]) hb1
  have x2 : w2.cell? (ad (w.heap.size + 1) 2) = some (.string x.zone) := eQ.grown.cell (by simp [go_sem]) hb1
  have x3 : w2.cell? (ad (w.heap.size + 1) 3) = some (iv x.wall) := eQ.grown.cell (by simp [go_sem]) hb1
  have x4 : w2.cell? (ad (w.heap.size + 1) 4) = some (iv x.gap) := eQ.grown.cell (by simp [go_sem]) hb1
  have x5 : w2.cell? (ad (w.heap.size + 1) 5) = some (iv x.fold) := eQ.grown.cell (by simp [go_sem]) hb1
  have HR := hid HT
  clear eB eQ cV ew dL HT
  cases hfs : (f id).isSome
  ·rw [hfs] at HR gM
   clear hfs
   go_enter Tryz.func97, Tryz.ntmps97
   go_wp2
   go_ret
   exact ⟨ret_bool (by rw [HR.out]; rfl), HE.out, HG.out⟩
  ·rw [hfs] at HR gM
   clear hfs
   have hq := nH x ⟨id, name, zone, wall, gap, fold⟩ w2
   clear nH
   dsimp only at hq
   go_enter Tryz.func97, Tryz.ntmps97
   go_wp2
   all_goals go_ret
   all_goals exact ⟨ret_bool (by rw [HR.out, Bool.true_and]; first | exact (jvp (by assumption) (by assumption) (by assumption) (by assumption) (by assumption) (by assumption)).symm | exact (jyv (fun _ _ _ _ _ _ => by contradiction)).symm), HE.out, HG.out⟩
end
section
open Go.RowKit Go.ChangeMaps Go.MapKept
theorem jz9 {l : List VersionD} {k : Nat} {v : VersionD} (hv : l[k]? = some v) (h : (!v.gone || jdt l k v) = false) : ∀ {n : Nat}, k < n -> jds l n = false := by
 intro n
 induction n with
 | zero => intro hn; omega
 | succ n ih =>
  intro hn
  rw [jds]
  by_cases e : k = n
  ·subst e; rw [hv]; simp only; rw [h]; simp
  ·rw [ih (by omega)]; rfl
theorem jw5 {l : List VersionD} {k : Nat} {v : VersionD} (hv : l[k]? = some v) (h : (!v.gone || jdt l k v) = true) (hk : jds l k = true) : jds l (k + 1) = true := by rw [jds, hk, hv]; simp only; rw [h]; rfl
structure LiveP (w : World) (l : List VersionD) (e : Ending) (w' : World) : Prop where
 bel : Bw w w'
 end_ : (jds l l.length = true /\ e = .returned (.tuple #[.map (some w.heap.size), .bool true]) /\ Zj w' w.heap.size l.length (jcr l)) \/ (jds l l.length = false /\ e = .returned (.tuple #[.map none, .bool false]))
theorem jq0 (l : List VersionD) (a : Option Addr) (n cap : Nat) (w : World) (hA : Za w a 8 (l.map VersionD.cs)) (jf : ∀ v ∈ l, 1 <= v.id /\ v.id <= 1000000) (hn : l.length = n) (hl : n <= 1048576) :
  Cl 62 #[.slice a n cap] w (LiveP w l) := by
 have ag : Bw w (w.alloc (.map #[] 0)) := qal _ _
 have dL := Zj.made w
 have HN := hid hn
 have HI := hid jf
 clear hn jf
 have gN := @run_makeMap Tryz.prog
 go_enter Tryz.func62, Tryz.ntmps62
 go_wp2
 go_loopw [10] (fun s wr => ∃ i : Nat, i <= n /\ s = iv i /\ Hid (jds l i = true) /\ Hid (Zj wr w.heap.size i (jcr (l.take i))) /\ Bw w wr) (fun s _ => n - (intOf s).toNat)
 case atStart => exact ⟨0, by omega, rfl, rfl, dL, ag⟩
 case round =>
  obtain ⟨wa, dY⟩ := qea wr
  subst dY
  obtain ⟨i, hin, rfl, HK, HM, aH⟩ := hrel
  have iU : Za wa a 8 (l.map VersionD.cs) := hA.below aH
  clear ag dL
  by_cases hlt : i < n
  ·have a1 : (i : Int) < (n : Int) := by omega
   obtain ⟨v, hv⟩ : ∃ v, l[i]? = some v := ⟨_, lgg (by have := HN.out; omega)⟩
   have ao : (l.map VersionD.cs)[i]? = some v.cs := by rw [lgm, hv]; rfl
   obtain ⟨b, ob, rfl, hc⟩ := iU.at (i := i) ao
   have c0 : wa.cell? (ad b (ob + i * 8)) = some (iv v.tx) := hc 0 _ rfl
   have c1 : wa.cell? (ad b (ob + i * 8 + 1)) = some (.bool v.gone) := hc 1 _ rfl
   have c2 : wa.cell? (ad b (ob + i * 8 + 2)) = some (iv v.id) := hc 2 _ rfl
   have c3 : wa.cell? (ad b (ob + i * 8 + 3)) = some (.string v.name) := hc 3 _ rfl
   have c4 : wa.cell? (ad b (ob + i * 8 + 4)) = some (.string v.zone) := hc 4 _ rfl
   have c5 : wa.cell? (ad b (ob + i * 8 + 5)) = some (iv v.wall) := hc 5 _ rfl
   have c6 : wa.cell? (ad b (ob + i * 8 + 6)) = some (iv v.gap) := hc 6 _ rfl
   have c7 : wa.cell? (ad b (ob + i * 8 + 7)) = some (iv v.fold) := hc 7 _ rfl
   clear hc ao
   have Ga := HM.out.alloc (.cells #[iv v.tx, .bool v.gone, iv v.id, .string v.name, .string v.zone, iv v.wall, iv v.gap, iv v.fold] 87)
   have hT := jwv v w.heap.size i _ _ Ga (by unfold maxLen; omega) (HI.out v (lmg hv))
   rw [js8 l i hv, js9] at hT
   simp only [VersionD.v] at hT
   have i6 : Hid ((!v.gone || jdt l i v) = false -> jds l l.length = false) := fun h => jz9 hv h (by rw [HN.out]; exact hlt)
   have mM : Hid ((!v.gone || jdt l i v) = true -> jds l (i + 1) = true) := fun h => jw5 hv h HK.out
   generalize (!v.gone || jdt l i v) = tb at *
   clear Ga hv
   cases tb
   ·have HF : Hid (jds l l.length = false) := i6.out rfl
    clear i6 mM
    go_wp2_with fail
    refine hT.mono ?_
    rintro e w2 ⟨rfl, eB, bU⟩
    have an := (aH.alloc aH.size _).grown bU (by have := aH.size; simp; omega) (fun k hk => by cases hk; exact nlr _)
    clear eB bU
    go_wp2
    go_ret2
    exact ⟨an, .inr ⟨HF.out, rfl⟩⟩
   ·have HF : Hid (jds l (i + 1) = true) := mM.out rfl
    clear i6 mM
    go_wp2_with fail
    refine hT.mono ?_
    rintro e w2 ⟨rfl, eB, bU⟩
    have an := (aH.alloc aH.size _).grown bU (by have := aH.size; simp; omega) (fun k hk => by cases hk; exact nlr _)
    have zO := hid eB
    clear eB bU
    go_wp2
    go_roundw
    case rel => exact ⟨i + 1, by omega, by go_num, HF, zO, an⟩
    case measure => simp [intOf]; omega
  ·obtain rfl : i = n := by omega
   have HF : Hid (jds l l.length = true /\ Zj wa w.heap.size l.length (jcr l)) := by
    have h := HM.out
    rw [List.take_of_length_le (by rw [HN.out]; exact nlr _), <- HN.out] at h
    exact ⟨by rw [HN.out]; exact HK.out, h⟩
   go_wp2
   go_ret2
   exact ⟨aH, .inl ⟨HF.out.1, rfl, HF.out.2⟩⟩
end
end Go.Proofs.YtgiieknbckhofaaGreatDoor
