/- Packed. -/
import Derived.Test.YtpejeokacilebaaGreatDoorSAs
import Derived.Test.YtpejeokacilebaaGreatDoorBasePs
import Derived.Test.YtpejeokacilebaaGreatDoorOffPs
import Derived.Test.YtpejeokacilebaaGreatDoorRightQs
import Derived.Test.YtpejeokacilebaaGreatDoorStrRs
import Derived.Laws.StructEq
import Derived.Lib.QuietBelow
import Derived.BigQuiet
import Derived.Maps.OwnSet
set_option maxRecDepth 100000
set_option maxHeartbeats 20000000
set_option linter.unusedSimpArgs false
namespace Go.Proofs.YtpejeokacilebaaGreatDoor
section
open Go.RowKit
def jbk (e : EventD) : Bool := isB e.id 1 1000000 && (jay e.name && (jay e.zone && (isB e.wall (-62135596800) 253402300799 && (isB e.gap 0 2 && isB e.fold 0 2))))
theorem spec_l06Event (e : EventD) (w : World) (m1 : e.name.size <= maxLen) (m2 : e.zone.size <= maxLen) :
  Calls Tryz.prog 35 #[e.v] w fun r w' => r = .returned (.bool (jbk e)) /\ Below w.heap.size w w' := by
 obtain ⟨id, name, zone, wall, gap, fold⟩ := e
 simp only [EventD.v, jbk] at *
 have hB := qal w (.cells #[.int .i64 id, .string name, .string zone, .int .i64 wall, .int .i64 gap, .int .i64 fold] 54)
 have k0 := fun w => jap id 1 1000000 w
 have k1 := fun w => jbr name w m1
 have k2 := fun w => jbr zone w m2
 have k3 := fun w => spec_l01TimeR wall w
 have k4 := fun w => jap gap 0 2 w
 have k5 := fun w => jap fold 0 2 w
 go_enter Tryz.func35, Tryz.ntmps35
 go_wp2_with fail
 refine (k0 _).mono ?_
 rintro e wx ⟨rfl, hwx⟩
 have hwy := hwx.symm
 clear hwx
 subst hwy
 cases h0 : isB id 1 1000000
 case false =>
  have H0 := hid h0
  clear h0
  go_wp2
  go_ret
  exact ⟨ret_bool (by rw [H0.out]; rfl), hB⟩
 have H0 := hid h0
 clear h0
 go_wp2_with fail
 refine (k1 _).mono ?_
 rintro e wx ⟨rfl, hwx⟩
 have hwy := hwx.symm
 clear hwx
 subst hwy
 cases h1 : jay name
 case false =>
  have H1 := hid h1
  clear h1
  go_wp2
  go_ret
  exact ⟨ret_bool (by rw [H0.out, H1.out]; rfl), hB⟩
 have H1 := hid h1
 clear h1
 go_wp2_with fail
 refine (k2 _).mono ?_
 rintro e wx ⟨rfl, hwx⟩
 have hwy := hwx.symm
 clear hwx
 subst hwy
 cases h2 : jay zone
 case false =>
  have H2 := hid h2
  clear h2
  go_wp2
  go_ret
  exact ⟨ret_bool (by rw [H0.out, H1.out, H2.out]; rfl), hB⟩
 have H2 := hid h2
 clear h2
 go_wp2_with fail
 refine (k3 _).mono ?_
 rintro e wx ⟨rfl, hwx⟩
 have hwy := hwx.symm
 clear hwx
 subst hwy
 cases h3 : isB wall (-62135596800) 253402300799
 case false =>
  have H3 := hid h3
  clear h3
  go_wp2
  go_ret
  exact ⟨ret_bool (by rw [H0.out, H1.out, H2.out, H3.out]; rfl), hB⟩
 have H3 := hid h3
 clear h3
 go_wp2_with fail
 refine (k4 _).mono ?_
 rintro e wx ⟨rfl, hwx⟩
 have hwy := hwx.symm
 clear hwx
 subst hwy
 cases h4 : isB gap 0 2
 case false =>
  have H4 := hid h4
  clear h4
  go_wp2
  go_ret
  exact ⟨ret_bool (by rw [H0.out, H1.out, H2.out, H3.out, H4.out]; rfl), hB⟩
 have H4 := hid h4
 clear h4
 go_wp2_with fail
 refine (k5 _).mono ?_
 rintro e wx ⟨rfl, hwx⟩
 have hwy := hwx.symm
 clear hwx
 subst hwy
 cases h5 : isB fold 0 2
 case false =>
  have H5 := hid h5
  clear h5
  go_wp2
  go_ret
  exact ⟨ret_bool (by rw [H0.out, H1.out, H2.out, H3.out, H4.out, H5.out]; rfl), hB⟩
 have H5 := hid h5
 clear h5
 go_wp2
 go_ret
 exact ⟨ret_bool (by rw [H0.out, H1.out, H2.out, H3.out, H4.out, H5.out]; rfl), hB⟩
theorem impl_eventRight (e : EventD) (w : World) (m1 : e.name.size <= maxLen) (m2 : e.zone.size <= maxLen) :
  Calls Tryz.prog 77 #[e.v] w fun r w' => r = .returned (.bool (jbk e)) /\ Below w.heap.size w w' := by
 obtain ⟨id, name, zone, wall, gap, fold⟩ := e
 simp only [EventD.v, jbk] at *
 have hB := qal w (.cells #[.int .i64 id, .string name, .string zone, .int .i64 wall, .int .i64 gap, .int .i64 fold] 54)
 have k1 := fun w => ja4 name w m1
 have k2 := fun w => ja4 zone w m2
 have k3 := fun w => impl_isTimeR wall w
 have k4 := fun w => jbt gap w
 have k5 := fun w => jbt fold w
 cases h0 : isB id 1 1000000
 case false =>
  have q : ¬ ((1 : Int) <= id /\ id <= 1000000) := of_decide_eq_false h0
  clear h0
  by_cases q1 : (1 : Int) <= id
  ·have q2 : ¬ id <= 1000000 := fun h => q ⟨q1, h⟩
   clear q
   go_enter Tryz.func77, Tryz.ntmps77
   go_wp2
   go_ret
   exact ⟨rfl, hB⟩
  ·clear q
   go_enter Tryz.func77, Tryz.ntmps77
   go_wp2
   go_ret
   exact ⟨rfl, hB⟩
 obtain ⟨q1, q2⟩ := jav h0
 clear h0
 go_enter Tryz.func77, Tryz.ntmps77
 go_wp2_with fail
 refine (k1 _).mono ?_
 rintro e wx ⟨rfl, hwx⟩
 have hwy := hwx.symm
 clear hwx
 subst hwy
 cases h1 : jay name
 case false =>
  have H1 := hid h1
  clear h1
  go_wp2
  go_ret
  exact ⟨ret_bool (by rw [H1.out]; rfl), hB⟩
 have H1 := hid h1
 clear h1
 go_wp2_with fail
 refine (k2 _).mono ?_
 rintro e wx ⟨rfl, hwx⟩
 have hwy := hwx.symm
 clear hwx
 subst hwy
 cases h2 : jay zone
 case false =>
  have H2 := hid h2
  clear h2
  go_wp2
  go_ret
  exact ⟨ret_bool (by rw [H1.out, H2.out]; rfl), hB⟩
 have H2 := hid h2
 clear h2
 go_wp2_with fail
 refine (k3 _).mono ?_
 rintro e wx ⟨rfl, hwx⟩
 have hwy := hwx.symm
 clear hwx
 subst hwy
 cases h3 : isB wall (-62135596800) 253402300799
 case false =>
  have H3 := hid h3
  clear h3
  go_wp2
  go_ret
  exact ⟨ret_bool (by rw [H1.out, H2.out, H3.out]; rfl), hB⟩
 have H3 := hid h3
 clear h3
 go_wp2_with fail
 refine (k4 _).mono ?_
 rintro e wx ⟨rfl, hwx⟩
 have hwy := hwx.symm
 clear hwx
 subst hwy
 cases h4 : isB gap 0 2
 case false =>
  have H4 := hid h4
  clear h4
  go_wp2
  go_ret
  exact ⟨ret_bool (by rw [H1.out, H2.out, H3.out, H4.out]; rfl), hB⟩
 have H4 := hid h4
 clear h4
 go_wp2_with fail
 refine (k5 _).mono ?_
 rintro e wx ⟨rfl, hwx⟩
 have hwy := hwx.symm
 clear hwx
 subst hwy
 cases h5 : isB fold 0 2
 case false =>
  have H5 := hid h5
  clear h5
  go_wp2
  go_ret
  exact ⟨ret_bool (by rw [H1.out, H2.out, H3.out, H4.out, H5.out]; rfl), hB⟩
 have H5 := hid h5
 clear h5
 go_wp2
 go_ret
 exact ⟨ret_bool (by rw [H1.out, H2.out, H3.out, H4.out, H5.out]; rfl), hB⟩
end
section
open Go.RowKit Go.Sort
def sameE (a b : EventD) : Bool := decide (a.id = b.id) && ((a.name.toList == b.name.toList) && ((a.zone.toList == b.zone.toList) && (decide (a.wall = b.wall) && (decide (a.gap = b.gap) && decide (a.fold = b.fold)))))
theorem fields_event : ∃ a b c d e f g h i j k l m n o p q r, (Tryz.prog.fieldsOf 54).toList = [⟨ "Id", 2, 0, false, a, b, c⟩, ⟨ "Name", 9, 1, false, d, e, f⟩, ⟨ "Zone", 9, 2, false, g, h, i⟩, ⟨ "Wall", 2, 3, false, j, k, l⟩, ⟨ "Gap", 2, 4, false, m, n, o⟩, ⟨ "Fold", 2, 5, false, p, q, r⟩] := ⟨_, _, _, _, _, _, _, _, _, _, _, _, _, _, _, _, _, _, rfl⟩
theorem eq_event (a b : EventD) (w : World) : (Op.equalIn 10000 54 (.agg #[.int .i64 a.id, .string a.name, .string a.zone, .int .i64 a.wall, .int .i64 a.gap, .int .i64 a.fold]) (.agg #[.int .i64 b.id, .string b.name, .string b.zone, .int .i64 b.wall, .int .i64 b.gap, .int .i64 b.fold])).run Tryz.prog w = .ok (sameE a b) w := by
 have ht : Tryz.prog.underlying 54 = some (.struct (Tryz.prog.fieldsOf 54)) := by kernel_rfl
 have hp : Tryz.prog.stoodInHeld 54 = false := by kernel_rfl
 obtain ⟨_, _, _, _, _, _, _, _, _, _, _, _, _, _, _, _, _, _, hf⟩ := fields_event
 rw [run_equalIn_agg _ 9999 _ _ _ ht hp, hf]
 obtain ⟨a1, a2, a3, a4, a5, a6⟩ := a
 obtain ⟨b1, b2, b3, b4, b5, b6⟩ := b
 simp only [sameE]
 simp [Op.eqFields, go_sem]
 by_cases h1 : a1 = b1
 ·by_cases h2 : a2.toList = b2.toList
  ·by_cases h3 : a3.toList = b3.toList
   ·by_cases h4 : a4 = b4
    ·by_cases h5 : a5 = b5
     ·by_cases h6 : a6 = b6
      ·simp [h1, h2, h3, h4, h5, h6]
      ·simp [h1, h2, h3, h4, h5, h6]
     ·simp [h1, h2, h3, h4, h5]
    ·simp [h1, h2, h3, h4]
   ·simp [h1, h2, h3]
  ·simp [h1, h2]
 ·simp [h1]
theorem neq_event (a b : EventD) (w : World) : (binOp .neq 54 (.agg #[.int .i64 a.id, .string a.name, .string a.zone, .int .i64 a.wall, .int .i64 a.gap, .int .i64 a.fold]) (.agg #[.int .i64 b.id, .string b.name, .string b.zone, .int .i64 b.wall, .int .i64 b.gap, .int .i64 b.fold])).run Tryz.prog w = .ok (.bool (!sameE a b)) w := by
 rw [run_neq_struct, eq_event]; rfl
theorem eql_event (a b : EventD) (w : World) : (binOp .eql 54 (.agg #[.int .i64 a.id, .string a.name, .string a.zone, .int .i64 a.wall, .int .i64 a.gap, .int .i64 a.fold]) (.agg #[.int .i64 b.id, .string b.name, .string b.zone, .int .i64 b.wall, .int .i64 b.gap, .int .i64 b.fold])).run Tryz.prog w = .ok (.bool (sameE a b)) w := by
 rw [run_eql_struct, eq_event]; rfl
theorem guard_event (op : BinOp) (x y : Operand) (v1 v2 : Array Value) (w : World) : (eqGuard op 54 x y (.agg v1) (.agg v2)).run Tryz.prog w = .ok () w := run_eqGuard_agg w _ _ _ _ _ _ (by kernel_rfl)
def goneB (l : List VersionD) (i : Nat) (v : VersionD) : Bool := match jcw (l.take i) v.id with
 | some e => sameE e v.ev
 | none => false
def prevTx (l : List VersionD) : Nat -> Int
 | 0 => 0
 | k + 1 => match l[k]? with
  | some v => v.tx
  | none => 0
def verI (l : List VersionD) (stx : Int) (i : Nat) (v : VersionD) : Bool := decide (prevTx l i < v.tx) && (decide (v.tx <= stx) && (jbk v.ev && (!v.gone || goneB l i v)))
def verK (l : List VersionD) (stx : Int) : Nat -> Bool
 | 0 => true
 | k + 1 => verK l stx k && (match l[k]? with
  | some v => verI l stx k v
  | none => true)
def verB (l : List VersionD) (stx : Int) : Bool := decide (l.length <= 60) && verK l stx l.length
theorem verK_no {l : List VersionD} {stx : Int} {k : Nat} {v : VersionD} (hv : l[k]? = some v) (h : verI l stx k v = false) : ∀ {n : Nat}, k < n -> verK l stx n = false := by
 intro n
 induction n with
 | zero => intro hn; omega
 | succ n ih =>
  intro hn
  rw [verK]
  by_cases e : k = n
  ·subst e; rw [hv]; simp [h]
  ·rw [ih (by omega)]; rfl
theorem verK_yes {l : List VersionD} {stx : Int} {k : Nat} {v : VersionD} (hv : l[k]? = some v) (h : verI l stx k v = true) (hk : verK l stx k = true) : verK l stx (k + 1) = true := by rw [verK, hk, hv]; simp [h]
theorem verB_long {l : List VersionD} {stx : Int} (h : ¬ l.length <= 60) : verB l stx = false := by unfold verB; rw [decide_eq_false h]; rfl
theorem verB_is {l : List VersionD} {stx : Int} (h : l.length <= 60) : verB l stx = verK l stx l.length := by unfold verB; rw [decide_eq_true h]; rfl
theorem goneB_none {l : List VersionD} {i : Nat} {v : VersionD} (h : jcd (l.take i) v.id = none) : goneB l i v = false := by unfold goneB jcw; rw [h]
theorem goneB_gone {l : List VersionD} {i k : Nat} {v x : VersionD} (h : jcd (l.take i) v.id = some k) (hx : (l.take i)[k]? = some x) (hg : x.gone = true) : goneB l i v = false := by unfold goneB jcw; rw [h]; simp only; rw [hx]; simp [hg]
theorem goneB_is {l : List VersionD} {i k : Nat} {v x : VersionD} (h : jcd (l.take i) v.id = some k) (hx : (l.take i)[k]? = some x) (hg : x.gone = false) : goneB l i v = sameE x.ev v.ev := by unfold goneB jcw; rw [h]; simp only; rw [hx]; simp [hg]
theorem spec_l06Versions (l : List VersionD) (stx cur : Int) (r0 r1 r2 r3 r4 r5 va ia : Option Addr) (p0 q0 p1 q1 p2 q2 p3 q3 p4 q4 p5 q5 n cv ni ci : Nat) (w : World) (hA : Za w va 8 (l.map VersionD.cs)) (hok : ∀ v ∈ l, v.ok) (hn : l.length = n) (hl : n <= 1048576) (hcv : n <= cv) :
  Calls Tryz.prog 14 #[.agg #[.int .i64 stx, .slice r0 p0 q0, .slice r1 p1 q1, .slice r2 p2 q2, .slice r3 p3 q3, .slice r4 p4 q4, .slice r5 p5 q5, .int .i64 cur, .slice va n cv, .slice ia ni ci]] w fun e w' => e = .returned (.bool (verB l stx)) /\ Below w.heap.size w w' := by
 have hB0 : Below w.heap.size w (w.alloc (.cells #[.int .i64 stx, .slice r0 p0 q0, .slice r1 p1 q1, .slice r2 p2 q2, .slice r3 p3 q3, .slice r4 p4 q4, .slice r5 p5 q5, .int .i64 cur, .slice va n cv, .slice ia ni ci] 41)) := qal _ _
 have hneq := fun a b w => neq_event a b w
 have hgo := fun op x y v1 v2 w => guard_event op x y v1 v2 w
 by_cases h60 : 60 < n
 ·rw [verB_long (by omega)]
  have h61 : (60 : Int) < (n : Int) := by omega
  go_enter Tryz.func14, Tryz.ntmps14
  go_wp2
  go_ret
  exact ⟨rfl, hB0⟩
 have h61 : ¬ (60 : Int) < (n : Int) := by omega
 obtain ⟨VB, hVB⟩ : ∃ x, verB l stx = x := ⟨_, rfl⟩
 have HV : Hid (VB = verK l stx n) := by simp only [Hid]; rw [<- hVB, verB_is (by omega), hn]
 rw [hVB]
 clear hVB
 have HN := hid hn
 have HO := hid hok
 obtain ⟨s0, s4⟩ : (fun z : World => z.cell? ⟨w.heap.size, 0, none⟩ = some (.int .i64 stx) /\ z.cell? ⟨w.heap.size, 8, none⟩ = some (.slice va n cv)) (w.alloc (.cells #[.int .i64 stx, .slice r0 p0 q0, .slice r1 p1 q1, .slice r2 p2 q2, .slice r3 p3 q3, .slice r4 p4 q4, .slice r5 p5 q5, .int .i64 cur, .slice va n cv, .slice ia ni ci] 41)) := by simp [go_sem]
 have hA0 := hA.below hB0
 clear hn hok hA
 go_enter Tryz.func14, Tryz.ntmps14
 go_wp2
 generalize (w.alloc (.cells #[.int .i64 stx, .slice r0 p0 q0, .slice r1 p1 q1, .slice r2 p2 q2, .slice r3 p3 q3, .slice r4 p4 q4, .slice r5 p5 q5, .int .i64 cur, .slice va n cv, .slice ia ni ci] 41)) = w0 at *
 go_loopw [3, 4, 5, 6] (fun t s _ _ wr => ∃ i : Nat, i <= n /\ s = .int .i64 i /\ t = .int .i64 (prevTx l i) /\ Hid (verK l stx i = true) /\ Below w0.heap.size w0 wr) (fun _ s _ _ _ => n - (intOf s).toNat)
 case atStart => exact ⟨0, by omega, rfl, rfl, rfl, Below.refl _ _⟩
 case round =>
  obtain ⟨wa, hwa⟩ : ∃ x : World, x = wr := ⟨_, rfl⟩
  subst hwa
  obtain ⟨i, hin, rfl, rfl, HK, hBr⟩ := hrel
  have t0 := jaa hBr s0
  have t4 := jaa hBr s4
  have hAw := hA0.below hBr
  have hBx := qtr hB0 hBr
  clear s0 s4 hA0 hB0
  by_cases hlt : i < n
  ·have a1 : (i : Int) < (n : Int) := by omega
   have a0 : (0 : Int) <= (i : Int) := by omega
   have a2 : (i : Int) <= (cv : Int) := by omega
   obtain ⟨v, hv⟩ : ∃ v, l[i]? = some v := ⟨_, List.getElem?_eq_getElem (by have := HN.out; omega)⟩
   have hrow : (l.map VersionD.cs)[i]? = some v.cs := by rw [List.getElem?_map, hv]; rfl
   obtain ⟨b, ob, rfl, hc⟩ := hAw.at (i := i) hrow
   have c0 : wa.cell? ⟨b, ob + i * 8, none⟩ = some (.int .i64 v.tx) := hc 0 _ rfl
   have c1 : wa.cell? ⟨b, ob + i * 8 + 1, none⟩ = some (.bool v.gone) := hc 1 _ rfl
   have c2 : wa.cell? ⟨b, ob + i * 8 + 2, none⟩ = some (.int .i64 v.id) := hc 2 _ rfl
   have c3 : wa.cell? ⟨b, ob + i * 8 + 3, none⟩ = some (.string v.name) := hc 3 _ rfl
   have c4 : wa.cell? ⟨b, ob + i * 8 + 4, none⟩ = some (.string v.zone) := hc 4 _ rfl
   have c5 : wa.cell? ⟨b, ob + i * 8 + 5, none⟩ = some (.int .i64 v.wall) := hc 5 _ rfl
   have c6 : wa.cell? ⟨b, ob + i * 8 + 6, none⟩ = some (.int .i64 v.gap) := hc 6 _ rfl
   have c7 : wa.cell? ⟨b, ob + i * 8 + 7, none⟩ = some (.int .i64 v.fold) := hc 7 _ rfl
   clear hc hrow
   have hvo := HO.out v (List.mem_of_getElem? hv)
   have HVN : Hid (verI l stx i v = false -> VB = false) := fun h1 => by rw [HV.out]; exact verK_no hv h1 (by omega)
   have HVY : Hid (verI l stx i v = true -> verK l stx (i + 1) = true) := fun h => verK_yes hv h HK.out
   have HPT : Hid (prevTx l (i + 1) = v.tx) := by simp only [Hid]; rw [prevTx, hv]
   have HEv := fun w => spec_l06Event v.ev w hvo.1 hvo.2
   simp only [EventD.v, VersionD.ev] at HEv
   have hTk : ∀ w1, Below wa.heap.size wa w1 -> Za w1 (some ⟨b, ob, none⟩) 8 ((l.take i).map VersionD.cs) := fun w1 hb => by
    rcases hAw.below hb with h0 | ⟨b', o', hab, hcc⟩
    ·have := HN.out; simp at h0; rw [h0] at this; simp at this; omega
    ·refine .inr ⟨b', o', hab, fun x y r u hr hu => hcc x y r u ?_ hu⟩
     rw [List.map_take] at hr
     have hx : x < i := by have := (List.getElem?_eq_some_iff.mp hr).1; simp at this; omega
     rw [List.getElem?_take_of_lt hx] at hr
     exact hr
   have hL := fun w1 hb => spec_l06Last (l.take i) (some ⟨b, ob, none⟩) i cv v.id w1 (hTk w1 hb) (by rw [List.length_take, HN.out]; omega) (by omega)
   obtain ⟨kk, hkk⟩ : ∃ x, jcd (l.take i) v.id = x := ⟨_, rfl⟩
   rw [hkk] at hL
   have HKK := hid hkk
   clear hkk hTk
   go_upto_region 8 with fail
   clear c0 c1 c3 c4 c5 c6 c7
   have bV : Below wa.heap.size wa (wa.alloc (.cells #[.int .i64 v.tx, .bool v.gone, .int .i64 v.id, .string v.name, .string v.zone, .int .i64 v.wall, .int .i64 v.gap, .int .i64 v.fold] 87)) := qal _ _
   obtain ⟨y0, y1, y2, y3, y4, y5, y6, y7⟩ : (fun z : World => z.cell? ⟨wa.heap.size, 0, none⟩ = some (.int .i64 v.tx) /\ z.cell? ⟨wa.heap.size, 1, none⟩ = some (.bool v.gone) /\ z.cell? ⟨wa.heap.size, 2, none⟩ = some (.int .i64 v.id) /\ z.cell? ⟨wa.heap.size, 3, none⟩ = some (.string v.name) /\ z.cell? ⟨wa.heap.size, 4, none⟩ = some (.string v.zone) /\ z.cell? ⟨wa.heap.size, 5, none⟩ = some (.int .i64 v.wall) /\ z.cell? ⟨wa.heap.size, 6, none⟩ = some (.int .i64 v.gap) /\ z.cell? ⟨wa.heap.size, 7, none⟩ = some (.int .i64 v.fold)) (wa.alloc (.cells #[.int .i64 v.tx, .bool v.gone, .int .i64 v.id, .string v.name, .string v.zone, .int .i64 v.wall, .int .i64 v.gap, .int .i64 v.fold] 87)) := by simp [go_sem]
   have u0 := jaa bV t0
   have u4 := jaa bV t4
   have hAv := hAw.below bV
   have hBv := qtr hBx bV
   have hBn := qtr hBr bV
   have hLv : Calls Tryz.prog 34 #[.slice (some ⟨b, ob, none⟩) i cv, .int .i64 v.id] (wa.alloc (.cells #[.int .i64 v.tx, .bool v.gone, .int .i64 v.id, .string v.name, .string v.zone, .int .i64 v.wall, .int .i64 v.gap, .int .i64 v.fold] 87)).drew _ := hL (wa.alloc (.cells #[.int .i64 v.tx, .bool v.gone, .int .i64 v.id, .string v.name, .string v.zone, .int .i64 v.wall, .int .i64 v.gap, .int .i64 v.fold] 87)).drew (bV.trans ((jab _).mono bV.size))
   clear t0 t4 hAw hBx hBr hL bV c2
   generalize (wa.alloc (.cells #[.int .i64 v.tx, .bool v.gone, .int .i64 v.id, .string v.name, .string v.zone, .int .i64 v.wall, .int .i64 v.gap, .int .i64 v.fold] 87)) = wv at *
   generalize wa.heap.size = bt at *
   skip
   go_wp2_with fail
   refine wp_region_noPanic ?_
   refine wp_region_held_drew (S := fun w' => w'.cell? ⟨w.heap.size, 8, none⟩ = some (.slice (some ⟨b, ob, none⟩) n cv) /\ w'.cell? ⟨bt, 2, none⟩ = some (.int .i64 v.id)) (by kernel_rfl) ⟨(show wv.drew.cell? ⟨w.heap.size, 8, none⟩ = _ from u4), (show wv.drew.cell? ⟨bt, 2, none⟩ = _ from y2)⟩ (fun hHeld => ?_)
   have z0 := jaa (jab wv) u0
   have z4 := jaa (jab wv) u4
   have x0 := jaa (jab wv) y0
   have x1 := jaa (jab wv) y1
   have x2 := jaa (jab wv) y2
   have x3 := jaa (jab wv) y3
   have x4 := jaa (jab wv) y4
   have x5 := jaa (jab wv) y5
   have x6 := jaa (jab wv) y6
   have x7 := jaa (jab wv) y7
   have hAz := hAv.below (jab wv)
   have hBz := hBv.trans ((jab wv).mono hBv.size)
   have hBm := hBn.trans ((jab wv).mono hBn.size)
   clear u0 u4 hAv hBv hBn y0 y1 y2 y3 y4 y5 y6 y7
   refine wpAnyH_take (i := 0) (v := ?v1) rfl (by kernel_rfl) (by kernel_rfl) (by kernel_rfl) (fun _ _ _ h => h) (Or.inl ⟨by kernel_rfl, ?y1⟩) hHeld ?z1
   case y1 => (intro wq hSw; (try dsimp only at hSw); go_simp; try with_reducible rfl)
   try simp only [Act.put, qq1, qq2, qq3]
   refine wpAnyH_take (i := 1) (v := ?v2) rfl (by kernel_rfl) (by kernel_rfl) (by kernel_rfl) (fun _ _ _ h => h) (Or.inl ⟨by kernel_rfl, ?y2⟩) hHeld ?z2
   case y2 => (intro wq hSw; (try dsimp only at hSw); go_simp; try with_reducible rfl)
   try simp only [Act.put, qq1, qq2, qq3]
   refine wpAnyH_take (i := 2) (v := ?v3) rfl (by kernel_rfl) (by kernel_rfl) (by kernel_rfl) (fun _ _ _ h => h) (Or.inl ⟨by kernel_rfl, ?y3⟩) hHeld ?z3
   case y3 => (intro wq hSw; (try dsimp only at hSw); go_simp; try with_reducible rfl)
   try simp only [Act.put, qq1, qq2, qq3]
   refine wpAnyH_take (i := 3) (v := ?v4) rfl (by kernel_rfl) (by kernel_rfl) (by kernel_rfl) (fun _ _ _ h => h) (Or.inl ⟨by kernel_rfl, ?y4⟩) hHeld ?z4
   case y4 => (intro wq hSw; (try dsimp only at hSw); go_simp; try with_reducible rfl)
   try simp only [Act.put, qq1, qq2, qq3]
   refine wpAnyH_take (i := 4) (v := ?v5) rfl (by kernel_rfl) (by kernel_rfl) (by kernel_rfl) (fun _ _ _ h => h) (Or.inl ⟨by kernel_rfl, ?y5⟩) hHeld ?z5
   case y5 => (intro wq hSw; (try dsimp only at hSw); go_simp; try with_reducible rfl)
   try simp only [Act.put, qq1, qq2, qq3]
   refine wpAnyH_take (i := 5) (v := ?v6) rfl (by kernel_rfl) (by kernel_rfl) (by kernel_rfl) (fun _ _ _ h => h) (Or.inl ⟨by kernel_rfl, ?y6⟩) hHeld ?z6
   case y6 => (intro wq hSw; (try dsimp only at hSw); go_simp; try with_reducible rfl)
   try simp only [Act.put, qq1, qq2, qq3]
   refine wpAnyH_take (i := 6) (v := ?v7) rfl (by kernel_rfl) (by kernel_rfl) (by kernel_rfl) (fun _ _ _ h => h) (Or.inl ⟨by kernel_rfl, ?y7⟩) hHeld ?z7
   case y7 => (intro wq hSw; (try dsimp only at hSw); go_simp; try with_reducible rfl)
   try simp only [Act.put, qq1, qq2, qq3]
   refine wpAnyH_ready (rs := [7]) (by kernel_rfl) (by simp) ?_
   refine AllReadyH.cons rfl (fun K hK => ?_) AllReadyH.nil
   go_simp
   refine hLv.mono ?_
   rintro e wx ⟨rfl, hwx⟩
   have hwy := hwx.symm
   clear hwx
   subst hwy
   go_wp2_with fail
   refine hK.out _ _ ⟨z4, x2⟩ (fun hHeld => ?_)
   clear hK K hLv
   try simp only [Act.put, qq1, qq2, qq3]
   refine wpAnyH_take (i := 8) (v := ?v8) rfl (by kernel_rfl) (by kernel_rfl) (by kernel_rfl) (fun _ _ _ h => h) (Or.inl ⟨by kernel_rfl, ?y8⟩) hHeld ?z8
   case y8 => (intro wq hSw; (try dsimp only at hSw); go_simp; try with_reducible rfl)
   try simp only [Act.put, qq1, qq2, qq3]
   try simp only [Act.put, List.getElem_toArray, List.getElem_cons_succ, List.getElem_cons_zero, qq1, qq2, qq3]
   refine wpAnyH_done (by kernel_rfl) ?_ _
   refine NoPanic.normal ?_
   clear hHeld
   generalize wv.drew = wz at *
   generalize hpt : prevTx l i = pt at *
   have HPI : Hid (verI l stx i v = (decide (pt < v.tx) && (decide (v.tx <= stx) && (jbk v.ev && (!v.gone || goneB l i v))))) := by simp only [Hid]; rw [verI, hpt]
   clear hpt
   by_cases e1 : v.tx <= pt
   ·have e1n : ¬ pt < v.tx := by omega
    have kx0 := cell_regrown x0
    have kx1 := cell_regrown x1
    have kx2 := cell_regrown x2
    have kx3 := cell_regrown x3
    have kx4 := cell_regrown x4
    have kx5 := cell_regrown x5
    have kx6 := cell_regrown x6
    have kx7 := cell_regrown x7
    have kz0 := cell_regrown z0
    have kz4 := cell_regrown z4
    have r1 : decide (v.tx <= pt) = true := decide_eq_true e1
    go_wp2_with fail
    refine wp_region_quiet_below (by kernel_rfl) (by kernel_rfl) ?_
    repeat (first | go_big_quiet_step (fail) | quiet_step (fail))
    refine wpQuiet_nil ?_
    intro _ hw
    obtain ⟨⟨dq, osq⟩, hw2⟩ := hw
    subst hw2
    have hbq := below_regrown wz dq osq
    have hBy := qtr hBz hbq
    have hBo := qtr hBm hbq
    clear hbq hBz hBm HEv kx0 kx1 kx2 kx3 kx4 kx5 kx6 kx7 kz0 kz4
    generalize grow (redrawn wz dq) osq = wE at *
    obtain rfl : VB = false := HVN.out (by rw [HPI.out]; rw [decide_eq_false (show ¬ pt < v.tx by omega)]; rfl)
    go_wp2
    go_ret
    exact ⟨rfl, hBy⟩
   by_cases e2 : stx < v.tx
   ·have e2n : ¬ v.tx <= stx := by omega
    have kx0 := cell_regrown x0
    have kx1 := cell_regrown x1
    have kx2 := cell_regrown x2
    have kx3 := cell_regrown x3
    have kx4 := cell_regrown x4
    have kx5 := cell_regrown x5
    have kx6 := cell_regrown x6
    have kx7 := cell_regrown x7
    have kz0 := cell_regrown z0
    have kz4 := cell_regrown z4
    have r1 : decide (v.tx <= pt) = false := decide_eq_false e1
    have r2 : decide (stx < v.tx) = true := decide_eq_true e2
    go_wp2_with fail
    refine wp_region_quiet_below (by kernel_rfl) (by kernel_rfl) ?_
    repeat (first | go_big_quiet_step (fail) | quiet_step (fail))
    refine wpQuiet_nil ?_
    intro _ hw
    obtain ⟨⟨dq, osq⟩, hw2⟩ := hw
    subst hw2
    have hbq := below_regrown wz dq osq
    have hBy := qtr hBz hbq
    have hBo := qtr hBm hbq
    clear hbq hBz hBm HEv kx0 kx1 kx2 kx3 kx4 kx5 kx6 kx7 kz0 kz4
    generalize grow (redrawn wz dq) osq = wE at *
    obtain rfl : VB = false := HVN.out (by rw [HPI.out]; rw [decide_eq_false (show ¬ v.tx <= stx by omega)]; simp)
    go_wp2
    go_ret
    exact ⟨rfl, hBy⟩
   have e1p : pt < v.tx := by omega
   have e2p : v.tx <= stx := by omega
   have HP2 : Hid (verI l stx i v = (jbk v.ev && (!v.gone || goneB l i v))) := by simp only [Hid]; rw [HPI.out, decide_eq_true e1p, decide_eq_true e2p]; rfl
   clear HPI
   rename Hid (verI l stx i v = (jbk v.ev && (!v.gone || goneB l i v))) => HPI
   have HEq : jbk ⟨v.id, v.name, v.zone, v.wall, v.gap, v.fold⟩ = jbk v.ev := rfl
   rw [HEq] at HEv
   clear HEq
   cases e3 : jbk v.ev
   case false =>
    rw [e3] at HEv
    have kx0 := cell_regrown x0
    have kx1 := cell_regrown x1
    have kx2 := cell_regrown x2
    have kx3 := cell_regrown x3
    have kx4 := cell_regrown x4
    have kx5 := cell_regrown x5
    have kx6 := cell_regrown x6
    have kx7 := cell_regrown x7
    have kz0 := cell_regrown z0
    have kz4 := cell_regrown z4
    have r1 : decide (v.tx <= pt) = false := decide_eq_false e1
    have r2 : decide (stx < v.tx) = false := decide_eq_false e2
    have cE : ∀ dd os, Calls Tryz.prog _ _ (grow (redrawn wz dd) os) fun e w2 => e = .returned (.bool false) /\ ∃ p : Regrown, w2 = grow (redrawn wz p.d) p.os := fun dd os => Calls.regrown_of (HEv _)
    go_wp2_with fail
    refine wp_region_quiet_below (by kernel_rfl) (by kernel_rfl) ?_
    repeat (first | go_big_quiet_step ((go_at_call 35; exact cE _ _)) | quiet_step ((go_at_call 35; exact cE _ _)))
    refine wpQuiet_nil ?_
    intro _ hw
    obtain ⟨⟨dq, osq⟩, hw2⟩ := hw
    subst hw2
    have hbq := below_regrown wz dq osq
    have hBy := qtr hBz hbq
    have hBo := qtr hBm hbq
    clear hbq hBz hBm HEv kx0 kx1 kx2 kx3 kx4 kx5 kx6 kx7 kz0 kz4
    generalize grow (redrawn wz dq) osq = wE at *
    obtain rfl : VB = false := HVN.out (by rw [HPI.out]; rw [e3]; rfl)
    go_wp2
    go_ret
    exact ⟨rfl, hBy⟩
   rw [e3] at HEv
   have HP3 : Hid (verI l stx i v = (!v.gone || goneB l i v)) := by simp only [Hid]; rw [HPI.out, e3]; rfl
   clear HPI e3
   cases e4 : v.gone
   case false =>
    have HG : Hid (verK l stx (i + 1) = true) := HVY.out (by rw [HP3.out]; rw [e4]; rfl)
    rw [e4] at x1
    clear e4
    have kx0 := cell_regrown x0
    have kx1 := cell_regrown x1
    have kx2 := cell_regrown x2
    have kx3 := cell_regrown x3
    have kx4 := cell_regrown x4
    have kx5 := cell_regrown x5
    have kx6 := cell_regrown x6
    have kx7 := cell_regrown x7
    have kz0 := cell_regrown z0
    have kz4 := cell_regrown z4
    have r1 : decide (v.tx <= pt) = false := decide_eq_false e1
    have r2 : decide (stx < v.tx) = false := decide_eq_false e2
    have cE : ∀ dd os, Calls Tryz.prog _ _ (grow (redrawn wz dd) os) fun e w2 => e = .returned (.bool true) /\ ∃ p : Regrown, w2 = grow (redrawn wz p.d) p.os := fun dd os => Calls.regrown_of (HEv _)
    go_wp2_with fail
    refine wp_region_quiet_below (by kernel_rfl) (by kernel_rfl) ?_
    repeat (first | go_big_quiet_step ((go_at_call 35; exact cE _ _)) | quiet_step ((go_at_call 35; exact cE _ _)))
    refine wpQuiet_nil ?_
    intro _ hw
    obtain ⟨⟨dq, osq⟩, hw2⟩ := hw
    subst hw2
    have hbq := below_regrown wz dq osq
    have hBy := qtr hBz hbq
    have hBo := qtr hBm hbq
    have xE := kx0 dq osq
    clear hbq hBz hBm HEv kx0 kx1 kx2 kx3 kx4 kx5 kx6 kx7 kz0 kz4
    generalize grow (redrawn wz dq) osq = wE at *
    go_wp2
    go_roundw
    case rel => exact ⟨i + 1, by omega, by go_num, by rw [HPT.out], HG.out, hBo⟩
    case measure => simp [intOf]; omega
   have HP4 : Hid (verI l stx i v = goneB l i v) := by simp only [Hid]; rw [HP3.out, e4]; rfl
   rw [e4] at x1
   clear e4 HP3
   cases kk with
   | none =>
    simp only [numI]
    have kx0 := cell_regrown x0
    have kx1 := cell_regrown x1
    have kx2 := cell_regrown x2
    have kx3 := cell_regrown x3
    have kx4 := cell_regrown x4
    have kx5 := cell_regrown x5
    have kx6 := cell_regrown x6
    have kx7 := cell_regrown x7
    have kz0 := cell_regrown z0
    have kz4 := cell_regrown z4
    have r1 : decide (v.tx <= pt) = false := decide_eq_false e1
    have r2 : decide (stx < v.tx) = false := decide_eq_false e2
    have cE : ∀ dd os, Calls Tryz.prog _ _ (grow (redrawn wz dd) os) fun e w2 => e = .returned (.bool true) /\ ∃ p : Regrown, w2 = grow (redrawn wz p.d) p.os := fun dd os => Calls.regrown_of (HEv _)
    go_wp2_with fail
    refine wp_region_quiet_below (by kernel_rfl) (by kernel_rfl) ?_
    repeat (first | go_big_quiet_step ((go_at_call 35; exact cE _ _)) | quiet_step ((go_at_call 35; exact cE _ _)))
    refine wpQuiet_nil ?_
    intro _ hw
    obtain ⟨⟨dq, osq⟩, hw2⟩ := hw
    subst hw2
    have hbq := below_regrown wz dq osq
    have hBy := qtr hBz hbq
    have hBo := qtr hBm hbq
    clear hbq hBz hBm HEv kx0 kx1 kx2 kx3 kx4 kx5 kx6 kx7 kz0 kz4
    generalize grow (redrawn wz dq) osq = wE at *
    obtain rfl : VB = false := HVN.out (by rw [HP4.out]; exact goneB_none HKK.out)
    go_wp2
    go_ret
    exact ⟨rfl, hBy⟩
   | some k =>
    simp only [numI]
    obtain ⟨hk1, ⟨x, hkx, hid⟩, _⟩ := jc8 HKK.out
    rw [List.length_take, HN.out] at hk1
    have hki : k < i := by omega
    have hlx : l[k]? = some x := by rw [List.getElem?_take_of_lt hki] at hkx; exact hkx
    have hxr : (l.map VersionD.cs)[k]? = some x.cs := by rw [List.getElem?_map, hlx]; rfl
    obtain ⟨b2, o2, eab, hcx⟩ := hAz.at (i := k) hxr
    injection eab with eab
    injection eab with eab1 eab2
    subst eab1 eab2
    have m1 : wz.cell? ⟨b, ob + k * 8 + 1, none⟩ = some (.bool x.gone) := hcx 1 _ rfl
    have m2 : wz.cell? ⟨b, ob + k * 8 + 2, none⟩ = some (.int .i64 x.id) := hcx 2 _ rfl
    have m3 : wz.cell? ⟨b, ob + k * 8 + 3, none⟩ = some (.string x.name) := hcx 3 _ rfl
    have m4 : wz.cell? ⟨b, ob + k * 8 + 4, none⟩ = some (.string x.zone) := hcx 4 _ rfl
    have m5 : wz.cell? ⟨b, ob + k * 8 + 5, none⟩ = some (.int .i64 x.wall) := hcx 5 _ rfl
    have m6 : wz.cell? ⟨b, ob + k * 8 + 6, none⟩ = some (.int .i64 x.gap) := hcx 6 _ rfl
    have m7 : wz.cell? ⟨b, ob + k * 8 + 7, none⟩ = some (.int .i64 x.fold) := hcx 7 _ rfl
    have k0 : ¬ (k : Int) < 0 := by omega
    have k1 : (0 : Int) <= (k : Int) := by omega
    have k2 : (k : Int) < (n : Int) := by omega
    clear hcx hxr hlx hk1 hid
    cases e5 : x.gone
    case true =>
     obtain rfl : VB = false := HVN.out (by rw [HP4.out]; exact goneB_gone HKK.out hkx e5)
     rw [e5] at m1
     clear e5 hkx
     have kx0 := cell_regrown x0
     have kx1 := cell_regrown x1
     have kx2 := cell_regrown x2
     have kx3 := cell_regrown x3
     have kx4 := cell_regrown x4
     have kx5 := cell_regrown x5
     have kx6 := cell_regrown x6
     have kx7 := cell_regrown x7
     have kz0 := cell_regrown z0
     have kz4 := cell_regrown z4
     have km1 := cell_regrown m1
     have r1 : decide (v.tx <= pt) = false := decide_eq_false e1
     have r2 : decide (stx < v.tx) = false := decide_eq_false e2
     have cE : ∀ dd os, Calls Tryz.prog _ _ (grow (redrawn wz dd) os) fun e w2 => e = .returned (.bool true) /\ ∃ p : Regrown, w2 = grow (redrawn wz p.d) p.os := fun dd os => Calls.regrown_of (HEv _)
     have r5 : decide ((k : Int) < 0) = false := decide_eq_false k0
     go_wp2_with fail
     refine wp_region_quiet_below (by kernel_rfl) (by kernel_rfl) ?_
     repeat (first | go_big_quiet_step ((go_at_call 35; exact cE _ _)) | quiet_step ((go_at_call 35; exact cE _ _)))
     refine wpQuiet_nil ?_
     intro _ hw
     obtain ⟨⟨dq, osq⟩, hw2⟩ := hw
     subst hw2
     have hbq := below_regrown wz dq osq
     have hBy := qtr hBz hbq
     have hBo := qtr hBm hbq
     clear hbq hBz hBm HEv kx0 kx1 kx2 kx3 kx4 kx5 kx6 kx7 kz0 kz4 km1
     generalize grow (redrawn wz dq) osq = wE at *
     go_wp2
     go_ret
     exact ⟨rfl, hBy⟩
    have HP5 : Hid (verI l stx i v = sameE x.ev v.ev) := by simp only [Hid]; rw [HP4.out]; exact goneB_is HKK.out hkx e5
    rw [e5] at m1
    clear e5 hkx HP4
    clear hneq
    cases e6 : sameE x.ev v.ev
    case false =>
     obtain rfl : VB = false := HVN.out (by rw [HP5.out]; exact e6)
     have E6 := hid e6
     clear e6
     have kx0 := cell_regrown x0
     have kx1 := cell_regrown x1
     have kx2 := cell_regrown x2
     have kx3 := cell_regrown x3
     have kx4 := cell_regrown x4
     have kx5 := cell_regrown x5
     have kx6 := cell_regrown x6
     have kx7 := cell_regrown x7
     have kz0 := cell_regrown z0
     have kz4 := cell_regrown z4
     have km1 := cell_regrown m1
     have km2 := cell_regrown m2
     have km3 := cell_regrown m3
     have km4 := cell_regrown m4
     have km5 := cell_regrown m5
     have km6 := cell_regrown m6
     have km7 := cell_regrown m7
     have r1 : decide (v.tx <= pt) = false := decide_eq_false e1
     have r2 : decide (stx < v.tx) = false := decide_eq_false e2
     have cE : ∀ dd os, Calls Tryz.prog _ _ (grow (redrawn wz dd) os) fun e w2 => e = .returned (.bool true) /\ ∃ p : Regrown, w2 = grow (redrawn wz p.d) p.os := fun dd os => Calls.regrown_of (HEv _)
     have r5 : decide ((k : Int) < 0) = false := decide_eq_false k0
     have hn9 := fun w => neq_event x.ev v.ev w
     simp only [E6.out] at hn9
     simp only [VersionD.ev] at hn9
     go_wp2_with fail
     refine wp_region_quiet_below (by kernel_rfl) (by kernel_rfl) ?_
     repeat (first | go_big_quiet_step ((go_at_call 35; exact cE _ _)) | quiet_step ((go_at_call 35; exact cE _ _)))
     refine wpQuiet_nil ?_
     intro _ hw
     obtain ⟨⟨dq, osq⟩, hw2⟩ := hw
     subst hw2
     have hbq := below_regrown wz dq osq
     have hBy := qtr hBz hbq
     have hBo := qtr hBm hbq
     clear hbq hBz hBm HEv kx0 kx1 kx2 kx3 kx4 kx5 kx6 kx7 kz0 kz4 km1 km2 km3 km4 km5 km6 km7
     generalize grow (redrawn wz dq) osq = wE at *
     go_wp2
     go_ret
     exact ⟨rfl, hBy⟩
    have HG : Hid (verK l stx (i + 1) = true) := HVY.out (by rw [HP5.out]; exact e6)
    have E6 := hid e6
    clear e6
    have kx0 := cell_regrown x0
    have kx1 := cell_regrown x1
    have kx2 := cell_regrown x2
    have kx3 := cell_regrown x3
    have kx4 := cell_regrown x4
    have kx5 := cell_regrown x5
    have kx6 := cell_regrown x6
    have kx7 := cell_regrown x7
    have kz0 := cell_regrown z0
    have kz4 := cell_regrown z4
    have km1 := cell_regrown m1
    have km2 := cell_regrown m2
    have km3 := cell_regrown m3
    have km4 := cell_regrown m4
    have km5 := cell_regrown m5
    have km6 := cell_regrown m6
    have km7 := cell_regrown m7
    have r1 : decide (v.tx <= pt) = false := decide_eq_false e1
    have r2 : decide (stx < v.tx) = false := decide_eq_false e2
    have cE : ∀ dd os, Calls Tryz.prog _ _ (grow (redrawn wz dd) os) fun e w2 => e = .returned (.bool true) /\ ∃ p : Regrown, w2 = grow (redrawn wz p.d) p.os := fun dd os => Calls.regrown_of (HEv _)
    have r5 : decide ((k : Int) < 0) = false := decide_eq_false k0
    have hn9 := fun w => neq_event x.ev v.ev w
    simp only [E6.out] at hn9
    simp only [VersionD.ev] at hn9
    go_wp2_with fail
    refine wp_region_quiet_below (by kernel_rfl) (by kernel_rfl) ?_
    repeat (first | go_big_quiet_step ((go_at_call 35; exact cE _ _)) | quiet_step ((go_at_call 35; exact cE _ _)))
    refine wpQuiet_nil ?_
    intro _ hw
    obtain ⟨⟨dq, osq⟩, hw2⟩ := hw
    subst hw2
    have hbq := below_regrown wz dq osq
    have hBy := qtr hBz hbq
    have hBo := qtr hBm hbq
    have xE := kx0 dq osq
    clear hbq hBz hBm HEv kx0 kx1 kx2 kx3 kx4 kx5 kx6 kx7 kz0 kz4 km1 km2 km3 km4 km5 km6 km7
    generalize grow (redrawn wz dq) osq = wE at *
    go_wp2
    go_roundw
    case rel => exact ⟨i + 1, by omega, by go_num, by rw [HPT.out], HG.out, hBo⟩
    case measure => simp [intOf]; omega
  ·have hE : i = n := by omega
   subst hE
   have a1 : ¬ (i : Int) < (i : Int) := by omega
   obtain rfl : VB = true := by rw [HV.out]; exact HK.out
   clear hAw
   go_wp2
   go_ret
   exact ⟨rfl, hBx⟩
end
section
open Go.RowKit
def txI (l : List VersionD) (stx : Int) (i : Nat) (v : VersionD) : Bool := decide (prevTx l i < v.tx) && (decide (v.tx <= stx) && jbk v.ev)
def txK (l : List VersionD) (stx : Int) : Nat -> Bool
 | 0 => true
 | k + 1 => txK l stx k && (match l[k]? with
  | some v => txI l stx k v
  | none => true)
def txB (l : List VersionD) (stx : Int) : Bool := decide (l.length <= 60) && txK l stx l.length
theorem txK_no {l : List VersionD} {stx : Int} {k : Nat} {v : VersionD} (hv : l[k]? = some v) (h : txI l stx k v = false) : ∀ {n : Nat}, k < n -> txK l stx n = false := by
 intro n
 induction n with
 | zero => intro hn; omega
 | succ n ih =>
  intro hn
  rw [txK]
  by_cases e : k = n
  ·subst e; rw [hv]; simp [h]
  ·rw [ih (by omega)]; rfl
theorem txK_yes {l : List VersionD} {stx : Int} {k : Nat} {v : VersionD} (hv : l[k]? = some v) (h : txI l stx k v = true) (hk : txK l stx k = true) : txK l stx (k + 1) = true := by rw [txK, hk, hv]; simp [h]
theorem txB_long {l : List VersionD} {stx : Int} (h : ¬ l.length <= 60) : txB l stx = false := by unfold txB; rw [decide_eq_false h]; rfl
theorem txB_is {l : List VersionD} {stx : Int} (h : l.length <= 60) : txB l stx = txK l stx l.length := by unfold txB; rw [decide_eq_true h]; rfl
def goneK (l : List VersionD) : Nat -> Bool
 | 0 => true
 | k + 1 => goneK l k && (match l[k]? with
  | some v => !v.gone || goneB l k v
  | none => true)
theorem verK_tx (l : List VersionD) (stx : Int) : ∀ k, verK l stx k = (txK l stx k && goneK l k)
 | 0 => rfl
 | k + 1 => by
  rw [verK, txK, goneK, verK_tx l stx k]
  cases l[k]? with
  | none => simp
  | some v => simp only [verI, txI]; cases txK l stx k <;> cases goneK l k <;> cases decide (prevTx l k < v.tx) <;> cases decide (v.tx <= stx) <;> cases jbk v.ev <;> simp
theorem verB_tx (l : List VersionD) (stx : Int) : verB l stx = (txB l stx && goneK l l.length) := by unfold verB txB; rw [verK_tx]; cases decide (l.length <= 60) <;> simp
theorem impl_versionsRight (l : List VersionD) (stx cur : Int) (r0 r1 r2 r3 r4 r5 va ia : Option Addr) (p0 q0 p1 q1 p2 q2 p3 q3 p4 q4 p5 q5 n cv ni ci : Nat) (w : World) (hA : Za w va 8 (l.map VersionD.cs)) (hok : ∀ v ∈ l, v.ok) (hn : l.length = n) (hl : n <= 1048576) :
  Calls Tryz.prog 45 #[.agg #[.int .i64 stx, .slice r0 p0 q0, .slice r1 p1 q1, .slice r2 p2 q2, .slice r3 p3 q3, .slice r4 p4 q4, .slice r5 p5 q5, .int .i64 cur, .slice va n cv, .slice ia ni ci]] w fun e w' => e = .returned (.bool (txB l stx)) /\ Below w.heap.size w w' := by
 have hB0 : Below w.heap.size w (w.alloc (.cells #[.int .i64 stx, .slice r0 p0 q0, .slice r1 p1 q1, .slice r2 p2 q2, .slice r3 p3 q3, .slice r4 p4 q4, .slice r5 p5 q5, .int .i64 cur, .slice va n cv, .slice ia ni ci] 41)) := qal _ _
 by_cases h60 : 60 < n
 ·rw [txB_long (by omega)]
  have h61 : (60 : Int) < (n : Int) := by omega
  go_enter Tryz.func45, Tryz.ntmps45
  go_wp2
  go_ret
  exact ⟨rfl, hB0⟩
 have h61 : ¬ (60 : Int) < (n : Int) := by omega
 obtain ⟨VB, hVB⟩ : ∃ x, txB l stx = x := ⟨_, rfl⟩
 have HV : Hid (VB = txK l stx n) := by simp only [Hid]; rw [<- hVB, txB_is (by omega), hn]
 rw [hVB]
 clear hVB
 have HN := hid hn
 have HO := hid hok
 have s0 : (w.alloc (.cells #[.int .i64 stx, .slice r0 p0 q0, .slice r1 p1 q1, .slice r2 p2 q2, .slice r3 p3 q3, .slice r4 p4 q4, .slice r5 p5 q5, .int .i64 cur, .slice va n cv, .slice ia ni ci] 41)).cell? ⟨w.heap.size, 0, none⟩ = some (.int .i64 stx) := by simp [go_sem]
 have hA0 := hA.below hB0
 clear hn hok hA
 go_enter Tryz.func45, Tryz.ntmps45
 go_wp2
 generalize (w.alloc (.cells #[.int .i64 stx, .slice r0 p0 q0, .slice r1 p1 q1, .slice r2 p2 q2, .slice r3 p3 q3, .slice r4 p4 q4, .slice r5 p5 q5, .int .i64 cur, .slice va n cv, .slice ia ni ci] 41)) = w0 at *
 go_loopw [3, 13] (fun t s wr => ∃ i : Nat, i <= n /\ s = .int .i64 i /\ t = .int .i64 (prevTx l i) /\ Hid (txK l stx i = true) /\ Below w0.heap.size w0 wr) (fun _ s _ => n - (intOf s).toNat)
 case atStart => exact ⟨0, by omega, rfl, rfl, rfl, Below.refl _ _⟩
 case round =>
  obtain ⟨wa, hwa⟩ : ∃ x : World, x = wr := ⟨_, rfl⟩
  subst hwa
  obtain ⟨i, hin, rfl, rfl, HK, hBr⟩ := hrel
  have t0 := jaa hBr s0
  have hAw := hA0.below hBr
  have hBx := qtr hB0 hBr
  clear s0 hA0 hB0
  by_cases hlt : i < n
  ·have a1 : (i : Int) < (n : Int) := by omega
   obtain ⟨v, hv⟩ : ∃ v, l[i]? = some v := ⟨_, List.getElem?_eq_getElem (by have := HN.out; omega)⟩
   have hrow : (l.map VersionD.cs)[i]? = some v.cs := by rw [List.getElem?_map, hv]; rfl
   obtain ⟨b, ob, rfl, hc⟩ := hAw.at (i := i) hrow
   have c0 : wa.cell? ⟨b, ob + i * 8, none⟩ = some (.int .i64 v.tx) := hc 0 _ rfl
   have c1 : wa.cell? ⟨b, ob + i * 8 + 1, none⟩ = some (.bool v.gone) := hc 1 _ rfl
   have c2 : wa.cell? ⟨b, ob + i * 8 + 2, none⟩ = some (.int .i64 v.id) := hc 2 _ rfl
   have c3 : wa.cell? ⟨b, ob + i * 8 + 3, none⟩ = some (.string v.name) := hc 3 _ rfl
   have c4 : wa.cell? ⟨b, ob + i * 8 + 4, none⟩ = some (.string v.zone) := hc 4 _ rfl
   have c5 : wa.cell? ⟨b, ob + i * 8 + 5, none⟩ = some (.int .i64 v.wall) := hc 5 _ rfl
   have c6 : wa.cell? ⟨b, ob + i * 8 + 6, none⟩ = some (.int .i64 v.gap) := hc 6 _ rfl
   have c7 : wa.cell? ⟨b, ob + i * 8 + 7, none⟩ = some (.int .i64 v.fold) := hc 7 _ rfl
   clear hc hrow
   have hvo := HO.out v (List.mem_of_getElem? hv)
   have HVN : Hid (txI l stx i v = false -> VB = false) := fun h1 => by rw [HV.out]; exact txK_no hv h1 (by omega)
   have HVY : Hid (txI l stx i v = true -> txK l stx (i + 1) = true) := fun h => txK_yes hv h HK.out
   have HPT : Hid (prevTx l (i + 1) = v.tx) := by simp only [Hid]; rw [prevTx, hv]
   have HEv := fun w => impl_eventRight v.ev w hvo.1 hvo.2
   simp only [EventD.v, VersionD.ev] at HEv
   have hbs := qbl t0
   have hne := Nat.ne_of_lt hbs
   clear hv hvo hAw
   obtain ⟨pt, hpt⟩ : ∃ x, prevTx l i = x := ⟨_, rfl⟩
   have HP0 : Hid (txI l stx i v = (decide (pt < v.tx) && (decide (v.tx <= stx) && jbk v.ev))) := by simp only [Hid, txI]; rw [hpt]
   rw [hpt]
   clear hpt
   have hBa : ∀ o, Below w.heap.size w (wa.alloc o) := fun o => hBx.alloc hBx.size _
   have hsz := hBx.size
   by_cases e1 : v.tx <= pt
   ·obtain rfl : VB = false := HVN.out (by rw [HP0.out, decide_eq_false (by omega)]; rfl)
    go_wp2
    go_ret
    exact ⟨rfl, hBa _⟩
   have HP1 : Hid (txI l stx i v = (decide (v.tx <= stx) && jbk v.ev)) := by simp only [Hid]; rw [HP0.out, decide_eq_true (by omega)]; rfl
   clear HP0
   by_cases e2 : stx < v.tx
   ·obtain rfl : VB = false := HVN.out (by rw [HP1.out, decide_eq_false (by omega)]; rfl)
    go_wp2
    go_ret
    exact ⟨rfl, hBa _⟩
   have HP2 : Hid (txI l stx i v = jbk v.ev) := by simp only [Hid]; rw [HP1.out, decide_eq_true (by omega)]; rfl
   clear HP1
   simp only [VersionD.ev] at HP2
   obtain ⟨eb, heb⟩ : ∃ x, jbk ⟨v.id, v.name, v.zone, v.wall, v.gap, v.fold⟩ = x := ⟨_, rfl⟩
   rw [heb] at HEv HP2
   clear heb
   cases eb
   ·obtain rfl : VB = false := HVN.out HP2.out
    go_wp2_with fail
    refine (HEv _).mono ?_
    rintro e wx ⟨rfl, hwx⟩
    go_wp2
    go_ret
    exact ⟨rfl, (hBa _).trans (hwx.mono (by simp; omega))⟩
   have HG : Hid (txK l stx (i + 1) = true) := HVY.out HP2.out
   clear HP2 HVN HVY
   go_wp2_with fail
   refine (HEv _).mono ?_
   rintro e wx ⟨rfl, hwx⟩
   have xv : wx.cell? ⟨wa.heap.size, 0, none⟩ = some (.int .i64 v.tx) := jaa hwx (by simp [go_sem])
   have hB9 := (hBr.alloc hBr.size _).trans (hwx.mono (by simp; have := hBr.size; omega))
   clear hwx
   go_wp2
   go_roundw
   case rel => exact ⟨i + 1, by omega, by go_num, by rw [HPT.out], HG, hB9⟩
   case measure => simp [intOf]; omega
  ·obtain rfl : i = n := by omega
   have HF : Hid (VB = true) := by simp only [Hid]; rw [HV.out]; exact HK.out
   go_wp2
   go_ret
   exact ⟨ret_bool HF.out.symm, hBx⟩
end
section
open Go.RowKit Go.ChangeMaps Go.MapKept
def jct : Value -> Option (DataW EventD × List MemPlace)
 | .agg ⟨[.int .i64 a, .string b, .string c, .int .i64 d, .int .i64 e, .int .i64 f]⟩ => some (.held ⟨a, b, c, d, e, f⟩, [])
 | _ => none
theorem evElem_mk (e : EventD) : jct e.v = some (.held e, []) := by cases e; rfl
theorem jda {v : Value} {z : DataW EventD × List MemPlace} (h : jct v = some z) : ∃ e : EventD, v = e.v /\ z = (.held e, []) := by
 unfold jct at h
 split at h
 ·cases h; exact ⟨_, rfl, rfl⟩
 ·cases h
def MapV (D : DataW EventD) (f : Int -> Option EventD) : Prop := ∀ id e, (f id = some e -> Maps.has D (.int .i64 id) = true /\ ∀ z, D.atKey (.int .i64 id) z = .held e) /\ (f id = none -> Maps.has D (.int .i64 id) = false)
structure Zl (w : World) (b n : Nat) (f : Int -> Option EventD) : Prop where
 own : ∃ D, w.ownsMap Tryz.prog 2 jct b n D /\ MapV D f
def putF (f : Int -> Option EventD) (e : EventD) (id : Int) : Option EventD := if e.id = id then some e else f id
def delF (f : Int -> Option EventD) (i : Int) (id : Int) : Option EventD := if i = id then none else f id
theorem Zl.made (w : World) : Zl (w.alloc (.map #[] 0)) w.heap.size 0 (fun _ => none) := ⟨_, World.ownsMap_made w _ _ _, fun _ _ => ⟨fun h => by (cases h), fun _ => rfl⟩⟩
theorem Zl.lt {w : World} {b n : Nat} {f : Int -> Option EventD} (h : Zl w b n f) : b < w.heap.size := by
 obtain ⟨D, h1, _⟩ := h.own
 exact h1.lt
theorem Zl.kept {w w' : World} {b n : Nat} {f : Int -> Option EventD} {row : Option Nat} (h : Zl w b n f) (hg : w.grownBy w' row) (hne : some b ≠ row) : Zl w' b n f := by
 obtain ⟨D, h1, h2⟩ := h.own
 exact ⟨D, h1.kept hg hne, h2⟩
theorem Zl.below {w w' : World} {b n : Nat} {f : Int -> Option EventD} (h : Zl w b n f) (hb : Below w.heap.size w w') : Zl w' b n f := h.kept (row := none) ⟨hb.os, hb.tape, hb.output, hb.size, fun k hk _ => hb.block k hk⟩ (by simp)
theorem Zl.alloc {w : World} {b n : Nat} {f : Int -> Option EventD} (h : Zl w b n f) (o : Obj) : Zl (w.alloc o) b n f := by
 obtain ⟨D, h1, h2⟩ := h.own
 exact ⟨D, h1.alloc o, h2⟩
theorem int_wf {id : Int} (h : 1 <= id /\ id <= 1000000) : (Lit.int .i64 id).wf = true := by
 have h1 : IntKind.min .i64 = -9223372036854775808 := rfl
 have h2 : IntKind.max .i64 = 9223372036854775807 := rfl
 show (decide (IntKind.min .i64 <= id) && decide (id <= IntKind.max .i64)) = true
 rw [h1, h2, decide_eq_true (by omega), decide_eq_true (by omega)]
 rfl
theorem zeroEvent (w : World) : (zeroValue 54).run Tryz.prog w = .ok (EventD.v ⟨0, ⟨#[]⟩, ⟨#[]⟩, 0, 0, 0⟩) w := by kernel_rfl
theorem mapT : Tryz.prog.underlying 105 = some (.map 2 54) := by kernel_rfl
theorem keyT : Tryz.prog.underlying 2 = some (.int .i64) := by kernel_rfl
theorem Zl.look {w : World} {b n : Nat} {f : Int -> Option EventD} (h : Zl w b n f) {id : Int} (hiD : 1 <= id /\ id <= 1000000) : ∃ e : EventD, (Instr.lookup 105 (.map (some b)) (.int .i64 id) true).run Tryz.prog w = .ok (.tuple #[e.v, .bool (f id).isSome]) w /\ ∀ x, f id = some x -> e = x := by
 obtain ⟨D, h1, h2⟩ := h.own
 obtain ⟨v, ps, hr, hv⟩ := h1.look_ok (Maps.int_keyed keyT) mapT (zeroEvent w) (evElem_mk _) (Maps.keyOf_int_mk keyT (int_wf hiD))
 obtain ⟨e, rfl, he⟩ := jda hv
 cases hf : f id with
 | none => exact ⟨e, by rw [hr, (h2 id e).2 hf]; rfl, fun x hx => by cases hx⟩
 | some y =>
  obtain ⟨a, c⟩ := (h2 id y).1 hf
  refine ⟨e, by rw [hr, a]; rfl, fun x hx => ?_⟩
  obtain rfl := Option.some.inj hx
  rw [c] at he
  have h3 := congrArg Prod.fst he
  simp only [DataW.held.injEq] at h3
  exact h3.symm
theorem Zl.drop {w : World} {b n : Nat} {f : Int -> Option EventD} (h : Zl w b n f) {id : Int} (hiD : 1 <= id /\ id <= 1000000) (ty : TypeId) : ∃ w', (Builtin.delete_ #[105, 2] ty #[.map (some b), .int .i64 id]).run Tryz.prog w = .ok (.tuple #[]) w' /\ Zl w' b n (delF f id) /\ w.mapTurned w' b := by
 obtain ⟨D, h1, h2⟩ := h.own
 obtain ⟨w', hr, ho, ht⟩ := h1.drop (Maps.int_keyed keyT) mapT (Maps.keyOf_int_mk keyT (int_wf hiD)) ty
 refine ⟨w', hr, ⟨_, ho, fun i e => ?_⟩, ht⟩
 unfold delF
 by_cases hi : id = i
 ·subst hi
  rw [if_pos rfl]
  exact ⟨fun h => by (cases h), fun _ => Maps.has_del_same⟩
 ·rw [if_neg hi]
  have hne : Lit.int .i64 i ≠ Lit.int .i64 id := fun h => hi (by simp only [Lit.int.injEq, true_and] at h; exact h.symm)
  obtain ⟨a, c⟩ := h2 i e
  exact ⟨fun h => ⟨by rw [Maps.has_del_other hne]; exact (a h).1, fun z => by rw [Maps.atKey_del_other hne]; exact (a h).2 z⟩, fun h => by rw [Maps.has_del_other hne]; exact c h⟩
theorem Zl.store {w : World} {b n : Nat} {f : Int -> Option EventD} (h : Zl w b n f) (hn : n < maxLen) (e : EventD) (hiD : 1 <= e.id /\ e.id <= 1000000) : ∃ w', (Instr.mapUpdate 105 (.map (some b)) (.int .i64 e.id) e.v).run Tryz.prog w = .ok () w' /\ Zl w' b (n + 1) (putF f e) /\ w.mapTurned w' b := by
 obtain ⟨D, h1, h2⟩ := h.own
 have hM := h1.isMap
 have hKL : WideAt.IsKeyLit (.int .i64 e.id) := trivial
 obtain ⟨w', hr, ho, ht⟩ := h1.store (Maps.int_keyed keyT) mapT hn (Maps.keyOf_int_mk keyT (int_wf hiD)) (evElem_mk e)
 refine ⟨w', hr, ⟨_, ho, fun i x => ?_⟩, ht⟩
 unfold putF
 by_cases hi : e.id = i
 ·subst hi
  rw [if_pos rfl]
  exact ⟨fun h => ⟨Maps.has_put_same hM hKL _, fun z => by (cases h; exact Maps.atKey_put_same hM hKL _ _)⟩, fun h => by (cases h)⟩
 ·rw [if_neg hi]
  have hne : Lit.int .i64 i ≠ Lit.int .i64 e.id := fun h => hi (by simp only [Lit.int.injEq, true_and] at h; exact h.symm)
  obtain ⟨a, c⟩ := h2 i x
  exact ⟨fun h => ⟨by rw [Maps.has_put_other hne]; exact (a h).1, fun z => by rw [Maps.atKey_put_other hne]; exact (a h).2 z⟩, fun h => by rw [Maps.has_put_other hne]; exact c h⟩
end
section
open Go.RowKit Go.ChangeMaps Go.MapKept
def takeB (f : Int -> Option EventD) (v : VersionD) : Bool := !v.gone || (match f v.id with
 | some x => sameE x v.ev
 | none => false)
def takeF (f : Int -> Option EventD) (v : VersionD) : Int -> Option EventD := if v.gone = true then delF f v.id else putF f v.ev
theorem takeF_live (l : List VersionD) (i : Nat) {v : VersionD} (hv : l[i]? = some v) : takeF (jcw (l.take i)) v = jcw (l.take (i + 1)) := by
 funext id
 rw [List.take_add_one, hv]
 simp only [Option.toList]
 rw [liveF_snoc]
 unfold takeF
 cases v.gone
 ·simp only [Bool.false_eq_true, if_false]; rfl
 ·simp only [if_true]; rfl
theorem takeB_live (l : List VersionD) (i : Nat) (v : VersionD) : takeB (jcw (l.take i)) v = (!v.gone || goneB l i v) := rfl
theorem sameE_yes {a b : EventD} (h1 : a.id = b.id) (h2 : a.name.toList = b.name.toList) (h3 : a.zone.toList = b.zone.toList) (h4 : a.wall = b.wall) (h5 : a.gap = b.gap) (h6 : a.fold = b.fold) : sameE a b = true := by
 unfold sameE
 rw [decide_eq_true h1, decide_eq_true h4, decide_eq_true h5, decide_eq_true h6, h2, h3]
 simp
theorem sameE_no {a b : EventD} (h : a.id = b.id -> a.name.toList = b.name.toList -> a.zone.toList = b.zone.toList -> a.wall = b.wall -> a.gap = b.gap -> a.fold = b.fold -> False) : sameE a b = false := by
 cases hs : sameE a b
 ·rfl
 ·unfold sameE at hs
  simp only [Bool.and_eq_true] at hs
  obtain ⟨h1, h2, h3, h4, h5, h6⟩ := hs
  exact (h (of_decide_eq_true h1) (eq_of_beq h2) (eq_of_beq h3) (of_decide_eq_true h4) (of_decide_eq_true h5) (of_decide_eq_true h6)).elim
theorem grown_two {w w1 w2 : World} {b : Nat} (h1 : w.grownBy w1 none) (h2 : w1.mapTurned w2 b) : w.grownBy w2 (some b) := (h1.but _).andThen h2.grown (fun _ h => .inr h)
theorem impl_take (v : VersionD) (b n : Nat) (f : Int -> Option EventD) (w : World) (h : Zl w b n f) (hn : n < maxLen) (hiD : 1 <= v.id /\ v.id <= 1000000) :
  Calls Tryz.prog 78 #[.map (some b), v.v] w fun e w' => e = .returned (.bool (takeB f v)) /\ Zl w' b (n + 1) (takeF f v) /\ w.grownBy w' (some b) := by
 obtain ⟨tx, gone, id, name, zone, wall, gap, fold⟩ := v
 simp only [VersionD.v] at *
 have hneq := fun a b w => eql_event a b w
 have hgo := fun op x y v1 v2 w => guard_event op x y v1 v2 w
 have hM0 := h.alloc (.cells #[.int .i64 tx, .bool gone, .int .i64 id, .string name, .string zone, .int .i64 wall, .int .i64 gap, .int .i64 fold] 87)
 obtain ⟨x, hlook, hx⟩ := hM0.look hiD
 have hM1 := hM0.alloc (.cells #[.int .i64 x.id, .string x.name, .string x.zone, .int .i64 x.wall, .int .i64 x.gap, .int .i64 x.fold] 54)
 have hg1 : w.grownBy ((w.alloc (.cells #[.int .i64 tx, .bool gone, .int .i64 id, .string name, .string zone, .int .i64 wall, .int .i64 gap, .int .i64 fold] 87)).alloc (.cells #[.int .i64 x.id, .string x.name, .string x.zone, .int .i64 x.wall, .int .i64 x.gap, .int .i64 x.fold] 54)) none := (World.grownBy_alloc w _ none).andThen (World.grownBy_alloc _ _ none) (fun _ h => .inr h)
 simp only [EventD.v] at hlook
 have hlt := h.lt
 have HX := hid hx
 clear hx
 have HT : Hid (takeB f ⟨tx, true, id, name, zone, wall, gap, fold⟩ = ((f id).isSome && sameE x ⟨id, name, zone, wall, gap, fold⟩)) := by
  simp only [Hid, takeB]
  cases hf : f id with
  | none => rfl
  | some y => rw [HX.out y hf]; rfl
 clear HX
 cases gone
 ·obtain ⟨w2, hup, hM2, ht2⟩ := hM1.store hn ⟨id, name, zone, wall, gap, fold⟩ hiD
  simp only [EventD.v] at hup
  have HE := hid hM2
  have HG : Hid (w.grownBy w2 (some b)) := grown_two hg1 ht2
  clear HT hM2 ht2 hg1 hM1 hM0
  go_enter Tryz.func78, Tryz.ntmps78
  go_wp2
  go_ret
  exact ⟨rfl, HE.out, HG.out⟩
 ·obtain ⟨w2, hup, hM2, ht2⟩ := hM1.drop hiD 0
  have HE : Hid (Zl w2 b (n + 1) (takeF f ⟨tx, true, id, name, zone, wall, gap, fold⟩)) := by
   obtain ⟨D, d1, d2⟩ := hM2.own
   exact ⟨D, d1.mono (by omega), d2⟩
  have HG : Hid (w.grownBy w2 (some b)) := grown_two hg1 ht2
  have hb0 : some w.heap.size ≠ some b := by simp; omega
  have hb1 : some (w.heap.size + 1) ≠ some b := by simp; omega
  have v2 : w2.cell? ⟨w.heap.size, 2, none⟩ = some (.int .i64 id) := ht2.grown.cell (by simp [go_sem]) hb0
  have v3 : w2.cell? ⟨w.heap.size, 3, none⟩ = some (.string name) := ht2.grown.cell (by simp [go_sem]) hb0
  have v4 : w2.cell? ⟨w.heap.size, 4, none⟩ = some (.string zone) := ht2.grown.cell (by simp [go_sem]) hb0
  have v5 : w2.cell? ⟨w.heap.size, 5, none⟩ = some (.int .i64 wall) := ht2.grown.cell (by simp [go_sem]) hb0
  have v6 : w2.cell? ⟨w.heap.size, 6, none⟩ = some (.int .i64 gap) := ht2.grown.cell (by simp [go_sem]) hb0
  have v7 : w2.cell? ⟨w.heap.size, 7, none⟩ = some (.int .i64 fold) := ht2.grown.cell (by simp [go_sem]) hb0
  have x0 : w2.cell? ⟨w.heap.size + 1, 0, none⟩ = some (.int .i64 x.id) := ht2.grown.cell (by simp [go_sem]) hb1
  have x1 : w2.cell? ⟨w.heap.size + 1, 1, none⟩ = some (.string x.name) := ht2.grown.cell (by simp [go_sem]) hb1
  have x2 : w2.cell? ⟨w.heap.size + 1, 2, none⟩ = some (.string x.zone) := ht2.grown.cell (by simp [go_sem]) hb1
  have x3 : w2.cell? ⟨w.heap.size + 1, 3, none⟩ = some (.int .i64 x.wall) := ht2.grown.cell (by simp [go_sem]) hb1
  have x4 : w2.cell? ⟨w.heap.size + 1, 4, none⟩ = some (.int .i64 x.gap) := ht2.grown.cell (by simp [go_sem]) hb1
  have x5 : w2.cell? ⟨w.heap.size + 1, 5, none⟩ = some (.int .i64 x.fold) := ht2.grown.cell (by simp [go_sem]) hb1
  have HR := hid HT
  clear hM2 ht2 hg1 hM1 hM0 HT
  cases hfs : (f id).isSome
  ·rw [hfs] at HR hlook
   clear hfs
   go_enter Tryz.func78, Tryz.ntmps78
   go_wp2
   go_ret
   exact ⟨ret_bool (by rw [HR.out]; rfl), HE.out, HG.out⟩
  ·rw [hfs] at HR hlook
   clear hfs
   have hq := hneq x ⟨id, name, zone, wall, gap, fold⟩ w2
   clear hneq
   dsimp only at hq
   go_enter Tryz.func78, Tryz.ntmps78
   go_wp2
   all_goals go_ret
   all_goals exact ⟨ret_bool (by rw [HR.out, Bool.true_and]; first | exact (sameE_yes (by assumption) (by assumption) (by assumption) (by assumption) (by assumption) (by assumption)).symm | exact (sameE_no (fun _ _ _ _ _ _ => by contradiction)).symm), HE.out, HG.out⟩
end
section
open Go.RowKit Go.ChangeMaps Go.MapKept
theorem goneK_no {l : List VersionD} {k : Nat} {v : VersionD} (hv : l[k]? = some v) (h : (!v.gone || goneB l k v) = false) : ∀ {n : Nat}, k < n -> goneK l n = false := by
 intro n
 induction n with
 | zero => intro hn; omega
 | succ n ih =>
  intro hn
  rw [goneK]
  by_cases e : k = n
  ·subst e; rw [hv]; simp only; rw [h]; simp
  ·rw [ih (by omega)]; rfl
theorem goneK_yes {l : List VersionD} {k : Nat} {v : VersionD} (hv : l[k]? = some v) (h : (!v.gone || goneB l k v) = true) (hk : goneK l k = true) : goneK l (k + 1) = true := by rw [goneK, hk, hv]; simp only; rw [h]; rfl
structure LiveP (w : World) (l : List VersionD) (e : Ending) (w' : World) : Prop where
 bel : Below w.heap.size w w'
 end_ : (goneK l l.length = true /\ e = .returned (.tuple #[.map (some w.heap.size), .bool true]) /\ Zl w' w.heap.size l.length (jcw l)) \/ (goneK l l.length = false /\ e = .returned (.tuple #[.map none, .bool false]))
theorem impl_liveOf (l : List VersionD) (a : Option Addr) (n cap : Nat) (w : World) (hA : Za w a 8 (l.map VersionD.cs)) (hiD : ∀ v ∈ l, 1 <= v.id /\ v.id <= 1000000) (hn : l.length = n) (hl : n <= 1048576) :
  Calls Tryz.prog 46 #[.slice a n cap] w (LiveP w l) := by
 have hB0 : Below w.heap.size w (w.alloc (.map #[] 0)) := qal _ _
 have hM0 := Zl.made w
 have HN := hid hn
 have HI := hid hiD
 clear hn hiD
 have hmm := @run_makeMap Tryz.prog
 go_enter Tryz.func46, Tryz.ntmps46
 go_wp2
 go_loopw [10] (fun s wr => ∃ i : Nat, i <= n /\ s = .int .i64 i /\ Hid (goneK l i = true) /\ Hid (Zl wr w.heap.size i (jcw (l.take i))) /\ Below w.heap.size w wr) (fun s _ => n - (intOf s).toNat)
 case atStart => exact ⟨0, by omega, rfl, rfl, hM0, hB0⟩
 case round =>
  obtain ⟨wa, hwa⟩ : ∃ x : World, x = wr := ⟨_, rfl⟩
  subst hwa
  obtain ⟨i, hin, rfl, HK, HM, hBr⟩ := hrel
  have hAw : Za wa a 8 (l.map VersionD.cs) := hA.below hBr
  clear hB0 hM0
  by_cases hlt : i < n
  ·have a1 : (i : Int) < (n : Int) := by omega
   obtain ⟨v, hv⟩ : ∃ v, l[i]? = some v := ⟨_, List.getElem?_eq_getElem (by have := HN.out; omega)⟩
   have hrow : (l.map VersionD.cs)[i]? = some v.cs := by rw [List.getElem?_map, hv]; rfl
   obtain ⟨b, ob, rfl, hc⟩ := hAw.at (i := i) hrow
   have c0 : wa.cell? ⟨b, ob + i * 8, none⟩ = some (.int .i64 v.tx) := hc 0 _ rfl
   have c1 : wa.cell? ⟨b, ob + i * 8 + 1, none⟩ = some (.bool v.gone) := hc 1 _ rfl
   have c2 : wa.cell? ⟨b, ob + i * 8 + 2, none⟩ = some (.int .i64 v.id) := hc 2 _ rfl
   have c3 : wa.cell? ⟨b, ob + i * 8 + 3, none⟩ = some (.string v.name) := hc 3 _ rfl
   have c4 : wa.cell? ⟨b, ob + i * 8 + 4, none⟩ = some (.string v.zone) := hc 4 _ rfl
   have c5 : wa.cell? ⟨b, ob + i * 8 + 5, none⟩ = some (.int .i64 v.wall) := hc 5 _ rfl
   have c6 : wa.cell? ⟨b, ob + i * 8 + 6, none⟩ = some (.int .i64 v.gap) := hc 6 _ rfl
   have c7 : wa.cell? ⟨b, ob + i * 8 + 7, none⟩ = some (.int .i64 v.fold) := hc 7 _ rfl
   clear hc hrow
   have hMa := HM.out.alloc (.cells #[.int .i64 v.tx, .bool v.gone, .int .i64 v.id, .string v.name, .string v.zone, .int .i64 v.wall, .int .i64 v.gap, .int .i64 v.fold] 87)
   have hT := impl_take v w.heap.size i _ _ hMa (by unfold maxLen; omega) (HI.out v (List.mem_of_getElem? hv))
   rw [takeF_live l i hv, takeB_live] at hT
   simp only [VersionD.v] at hT
   have HVN : Hid ((!v.gone || goneB l i v) = false -> goneK l l.length = false) := fun h => goneK_no hv h (by rw [HN.out]; exact hlt)
   have HVY : Hid ((!v.gone || goneB l i v) = true -> goneK l (i + 1) = true) := fun h => goneK_yes hv h HK.out
   generalize (!v.gone || goneB l i v) = tb at *
   clear hMa hv
   cases tb
   ·have HF : Hid (goneK l l.length = false) := HVN.out rfl
    clear HVN HVY
    go_wp2_with fail
    refine hT.mono ?_
    rintro e w2 ⟨rfl, hM2, hg2⟩
    have hB2 := (hBr.alloc hBr.size _).grown hg2 (by have := hBr.size; simp; omega) (fun k hk => by cases hk; exact Nat.le_refl _)
    clear hM2 hg2
    go_wp2
    go_ret2
    exact ⟨hB2, .inr ⟨HF.out, rfl⟩⟩
   ·have HF : Hid (goneK l (i + 1) = true) := HVY.out rfl
    clear HVN HVY
    go_wp2_with fail
    refine hT.mono ?_
    rintro e w2 ⟨rfl, hM2, hg2⟩
    have hB2 := (hBr.alloc hBr.size _).grown hg2 (by have := hBr.size; simp; omega) (fun k hk => by cases hk; exact Nat.le_refl _)
    have HM2 := hid hM2
    clear hM2 hg2
    go_wp2
    go_roundw
    case rel => exact ⟨i + 1, by omega, by go_num, HF, HM2, hB2⟩
    case measure => simp [intOf]; omega
  ·obtain rfl : i = n := by omega
   have HF : Hid (goneK l l.length = true /\ Zl wa w.heap.size l.length (jcw l)) := by
    have h := HM.out
    rw [List.take_of_length_le (by rw [HN.out]; exact Nat.le_refl _), <- HN.out] at h
    exact ⟨by rw [HN.out]; exact HK.out, h⟩
   go_wp2
   go_ret2
   exact ⟨hBr, .inl ⟨HF.out.1, rfl, HF.out.2⟩⟩
end
end Go.Proofs.YtpejeokacilebaaGreatDoor
