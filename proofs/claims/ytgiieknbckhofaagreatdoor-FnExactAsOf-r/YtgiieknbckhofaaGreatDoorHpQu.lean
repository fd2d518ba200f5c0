/- Packed. -/
import Derived.Test.YtgiieknbckhofaaGreatDoorHpSu
import Derived.Test.YtgiieknbckhofaaGreatDoorRightXu
set_option maxHeartbeats 20000000
set_option linter.unusedSimpArgs false
namespace Go.Proofs.YtgiieknbckhofaaGreatDoor
section
open Go.RowKit
def jdy (i : Nat) (x : RuleD) (y : Int) : List WallD := if moV y x.month x.on = -1000000 then [] else [⟨86400 * moV y x.month x.on + x.at_, i⟩]
def wallsN (i : Nat) (x : RuleD) (y : Int) : Nat -> List WallD
 | 0 => []
 | n + 1 => wallsN i x y n ++ jdy i x (y + n)
def yrs (x : RuleD) : Nat := (min x.hi 2037 - max x.lo 1960 + 1).toNat
def jcj (i : Nat) (x : RuleD) : List WallD := wallsN i x (max x.lo 1960) (yrs x)
def jaq (nm : ByteArray) (l : List RuleD) : Nat -> List WallD
 | 0 => []
 | k + 1 => jaq nm l k ++ (match l[k]? with | some x => if (x.name.toList == nm.toList) = true then jcj k x else [] | none => [])
theorem jm1 {i : Nat} {x : RuleD} {y : Int} (h : moV y x.month x.on = -1000000) : jdy i x y = [] := by unfold jdy; rw [if_pos h]
theorem jkn {i : Nat} {x : RuleD} {y : Int} (h : moV y x.month x.on ≠ -1000000) : jdy i x y = [⟨86400 * moV y x.month x.on + x.at_, i⟩] := by unfold jdy; rw [if_neg h]
theorem jko {nm : ByteArray} {l : List RuleD} {k : Nat} {x : RuleD} (hx : l[k]? = some x) (h : (x.name.toList == nm.toList) = true) : jaq nm l (k + 1) = jaq nm l k ++ jcj k x := by rw [jaq, hx]; simp only [h, if_true]
theorem jm2 {nm : ByteArray} {l : List RuleD} {k : Nat} {x : RuleD} (hx : l[k]? = some x) (h : (x.name.toList == nm.toList) = false) : jaq nm l (k + 1) = jaq nm l k := by rw [jaq, hx]; simp [h]
theorem jee (i : Nat) (x : RuleD) (y : Int) : ∀ n, (wallsN i x y n).length <= n := by
 intro n
 induction n with
 | zero => simp [wallsN]
 | succ n ih =>
  rw [wallsN, lla]
  have : (jdy i x (y + n)).length <= 1 := by unfold jdy; split <;> simp
  omega
theorem jrc (x : RuleD) : yrs x <= 78 := by unfold yrs; omega
theorem jsr (nm : ByteArray) (l : List RuleD) : ∀ k, (jaq nm l k).length <= 78 * k := by
 intro k
 induction k with
 | zero => simp [jaq]
 | succ k ih =>
  rw [jaq, lla]
  have AP : ∀ x, (jcj k x).length <= 78 := fun x => Nat.le_trans (jee _ _ _ _) (jrc x)
  split
  ·rename_i x _
   split
   ·have := AP x; omega
   ·simp; omega
  ·simp; omega
structure Jo (x : RuleD) : Prop where
 month : 1 <= x.month /\ x.month <= 12
 at_ : 0 <= x.at_ /\ x.at_ <= 604800
 save : -7200 <= x.save /\ x.save <= 7200
theorem jrj {x : RuleD} (h : jav x = true) : Jo x := by
 unfold jav at h
 simp only [bat] at h
 obtain ⟨_, _, _, hm, _, ha, _, hs, _⟩ := h
 exact ⟨jaw hm, jaw ha, jaw hs⟩
theorem j18 {y m : Int} {s : ByteArray} (hy : ymB y m = true) : moV y m s = -1000000 \/ (-800000 <= moV y m s /\ moV y m s <= 3000000) := by
 have := j1v (y := y) (m := m) (s := s)
 unfold jbk at this
 rw [hy, if_pos rfl, jig hy] at this
 exact this
theorem jyc {y m : Int} (h1 : 1960 <= y) (h2 : y <= 2037) (h3 : 1 <= m) (h4 : m <= 12) : ymB y m = true := by
 unfold ymB
 simp
 omega
theorem jgq (a b : Int) (w : World) : Cl 228 #[iv a, iv b] w fun e w' => e = .returned (iv (max a b)) /\ w' = w := by
 by_cases h : b < a
 ·go_enter Tryz.func228, Tryz.ntmps228
  go_wp2
  go_ret
  exact ⟨ret_int (by omega), rfl⟩
 ·go_enter Tryz.func228, Tryz.ntmps228
  go_wp2
  go_ret
  exact ⟨ret_int (by omega), rfl⟩
theorem jgp (a b : Int) (w : World) : Cl 227 #[iv a, iv b] w fun e w' => e = .returned (iv (min a b)) /\ w' = w := by
 by_cases h : a < b
 ·go_enter Tryz.func227, Tryz.ntmps227
  go_wp2
  go_ret
  exact ⟨ret_int (by omega), rfl⟩
 ·go_enter Tryz.func227, Tryz.ntmps227
  go_wp2
  go_ret
  exact ⟨ret_int (by omega), rfl⟩
def jpj (r : RelD) (nm : ByteArray) (s : List WallD) (b : Bool) : Prop := ((jaq nm r.rules r.rules.length).length <= 2000 /\ b = true /\ Jb (jaq nm r.rules r.rules.length) s) \/ (¬ (jaq nm r.rules r.rules.length).length <= 2000 /\ b = false /\ s = [])
end
section
open Go.RowKit
theorem j3f {g H bx : Nat} {a : Option Addr} {n c n2 c2 : Nat} (bF : (Value.slice a n c).ownBlock = some g \/ g = H) (az : some bx ≠ (Value.slice a n c).ownBlock) (hH : bx < H) : some bx ≠ (so g n2 c2).ownBlock := by
 intro e
 have e2 : bx = g := by simpa [Value.ownBlock] using e
 subst e2
 rcases bF with h | h
 ·exact az h.symm
 ·omega
set_option maxRecDepth 20000 in
theorem jln (r : RelD) (v : Value) (nm : ByteArray) (w : World) (hv : Zd w v r) (hr : ∀ x ∈ r.rules, jav x = true) (hl : r.rules.length <= 40) (dn : ∀ x ∈ r.rules, x.on.size <= 1048576) :
  Cl 226 #[v, .string nm] w fun e W' => ∃ v' s b, e = .returned (.tuple #[v', .bool b]) /\ jc2 W' v' s /\ jpj r nm s b /\ Bw w W' := by
 obtain ⟨i0, hi, aH, aI, aG⟩ := info_parts jr5
 obtain ⟨a, b, c, ca, cb, cc, rfl, hA, _, _⟩ := hv.form
 have jM : Hid (∀ x ∈ r.rules, Jo x) := fun x hx => jrj (hr x hx)
 have tr := hid dn
 clear hr dn hv
 have f9 := qal w (.cells #[.slice a r.rules.length ca, .slice b r.zones.length cb, .slice c r.links.length cc] 38)
 have x0 : (w.alloc (.cells #[.slice a r.rules.length ca, .slice b r.zones.length cb, .slice c r.links.length cc] 38)).cell? (ad w.heap.size 0) = some (.slice a r.rules.length ca) := by simp [go_sem]
 go_enter Tryz.func226, Tryz.ntmps226
 go_wp2
 obtain ⟨wA, df⟩ := qeb ((w.alloc (.cells #[.slice a r.rules.length ca, .slice b r.zones.length cb, .slice c r.links.length cc] 38)))
 have jB : wA.heap.size = w.heap.size + 1 := by rw [<- df]; simp
 rw [df] at f9 x0 ⊢
 clear df
 have hE : Zn (wA.alloc (.cells #[] 285)) (w.heap.size + 1) (.slice (some (ad (w.heap.size + 1) 0)) 0 0) (jaq nm r.rules 0) := by have := ja4 wA 285 2; rw [jB] at this; exact this
 go_loopw [6, 7] (fun s6 s7 wr => ∃ k : Nat, k <= r.rules.length /\ s7 = iv k /\ Zn wr (w.heap.size + 1) s6 (jaq nm r.rules k) /\ Below (w.heap.size + 1) wA wr) (fun _ s7 _ => r.rules.length - (intOf s7).toNat)
 case atStart => exact ⟨0, by omega, rfl, hE, (brf _ _).alloc (by omega) _⟩
 case round =>
  clear hE
  obtain ⟨k, hk, rfl, ai, aM⟩ := hrel
  have dB := aM.size
  have eP := f9.trans (aM.mono (show w.heap.size <= w.heap.size + 1 by omega))
  have xr : wr.cell? (ad w.heap.size 0) = some (.slice a r.rules.length ca) := (aM.cell (p := (ad w.heap.size 0)) (show w.heap.size < w.heap.size + 1 by omega)).trans x0
  have au := jsr nm r.rules k
  by_cases hlt : k < r.rules.length
  ·obtain ⟨x, hx⟩ := qgg hlt
   have mj := jM.out x (lmg hx)
   have Cy := tr.out x (lmg hx)
   obtain ⟨b9, o9, rfl, hc⟩ := (hA.below eP).at (i := k) (r := x.cs) (by rw [lgm, hx]; rfl)
   have c0 : wr.cell? (ad b9 (o9 + k * 9)) = some (.string x.name) := hc 0 _ rfl
   have c1 := hc 1 _ rfl
   have c2 := hc 2 _ rfl
   have c3 := hc 3 _ rfl
   have c4 := hc 4 _ rfl
   have c5 := hc 5 _ rfl
   have c6 := hc 6 _ rfl
   have c7 := hc 7 _ rfl
   have c8 := hc 8 _ rfl
   clear hc
   cases hn : (x.name.toList == nm.toList)
   ·have HT : Hid (jaq nm r.rules (k + 1) = jaq nm r.rules k) := jm2 hx hn
    clear hx
    obtain ⟨a6, m6, d6, rfl⟩ := jab ai
    go_wp2
    go_roundw
    case rel => exact ⟨k + 1, by omega, by go_num, by rw [HT.out]; exact woa ai _, aM.alloc (by omega) _⟩
    case measure => simp [intOf]; omega
   ·have HT : Hid (jaq nm r.rules (k + 1) = jaq nm r.rules k ++ jcj k x) := jko hx hn
    clear hx
    obtain ⟨L, hL⟩ := qeb (jaq nm r.rules k)
    rw [hL] at HT ai au
    clear hL
    obtain ⟨a6, m6, d6, rfl⟩ := jab ai
    have hM := fun w => jgq x.lo 1960 w
    have hN := fun w => jgp x.hi 2037 w
    obtain ⟨ya, vP⟩ := qeb (max x.lo 1960)
    obtain ⟨ye, vQ⟩ := qeb (min x.hi 2037)
    have Oc : 1960 <= ya := by omega
    have Od : ye <= 2037 := by omega
    have HX : Hid (∀ n : Nat, ¬ ya + n <= ye -> ya + n <= ye + 1 \/ n = 0 -> jcj k x = wallsN k x ya n) := fun n h1 h2 => by
     unfold jcj yrs
     rw [vP, vQ]
     congr 1
     omega
    have PT := jrc x
    rw [vP] at hM
    rw [vQ] at hN
    clear vP vQ
    have qT : some wr.heap.size ≠ (Value.slice a6 m6 d6).ownBlock := fun e => by have := (ai.lt _ e.symm).2; omega
    have aT : Zn (wr.alloc (.cells #[.string x.name, iv x.lo, iv x.hi, iv x.month, .string x.on, iv x.at_, .string x.of, iv x.save, .string x.letter] 142)) (w.heap.size + 1) (.slice a6 m6 d6) (L ++ wallsN k x ya 0) := by rw [show L ++ wallsN k x ya 0 = L from List.append_nil _]; exact woa ai _
    have B1 : Below (w.heap.size + 1) wA (wr.alloc (.cells #[.string x.name, iv x.lo, iv x.hi, iv x.month, .string x.on, iv x.at_, .string x.of, iv x.save, .string x.letter] 142)) := aM.alloc (by omega) _
    have kP : (wr.alloc (.cells #[.string x.name, iv x.lo, iv x.hi, iv x.month, .string x.on, iv x.at_, .string x.of, iv x.save, .string x.letter] 142)).heap.size = wr.heap.size + 1 := by simp
    obtain ⟨e1, e2, e3, e4, e5⟩ : (fun z : World => z.cell? (ad wr.heap.size 1) = some (iv x.lo) /\ z.cell? (ad wr.heap.size 2) = some (iv x.hi) /\ z.cell? (ad wr.heap.size 3) = some (iv x.month) /\ z.cell? (ad wr.heap.size 4) = some (.string x.on) /\ z.cell? (ad wr.heap.size 5) = some (iv x.at_)) (wr.alloc (.cells #[.string x.name, iv x.lo, iv x.hi, iv x.month, .string x.on, iv x.at_, .string x.of, iv x.save, .string x.letter] 142)) := by simp [go_sem]
    go_wp2_with (go_at_call 228; refine (hM _).mono ?_; rintro e wz ⟨rfl, gI⟩; have gI := gI.symm; subst gI)
    obtain ⟨wB, ja⟩ := qeb ((wr.alloc (.cells #[.string x.name, iv x.lo, iv x.hi, iv x.month, .string x.on, iv x.at_, .string x.of, iv x.save, .string x.letter] 142)))
    obtain ⟨bx, eQ⟩ := qeb wr.heap.size
    rw [ja] at aT B1 kP e1 e2 e3 e4 e5 ⊢
    rw [eQ] at kP e1 e2 e3 e4 e5 qT dB ⊢
    clear ja eQ ai aM eP xr c0 c1 c2 c3 c4 c5 c6 c7 c8 hM
    go_loopw [6, 9] (fun s6 s9 wq => ∃ (n : Nat) (aq : Option Addr) (mq dq : Nat), s9 = iv (ya + n) /\ s6 = .slice aq mq dq /\ (ya + n <= ye + 1 \/ n = 0) /\ Zn wq (w.heap.size + 1) (.slice aq mq dq) (L ++ wallsN k x ya n) /\ some bx ≠ (Value.slice aq mq dq).ownBlock /\ bx < wq.heap.size /\ (wq.cell? (ad bx 2) = some (iv x.hi) /\ wq.cell? (ad bx 3) = some (iv x.month) /\ wq.cell? (ad bx 4) = some (.string x.on) /\ wq.cell? (ad bx 5) = some (iv x.at_)) /\ Below (w.heap.size + 1) wA wq) (fun _ s9 _ => (ye + 1 - intOf s9).toNat)
    case atStart => exact ⟨0, a6, m6, d6, by simp, rfl, .inr rfl, aT, qT, by omega, ⟨e2, e3, e4, e5⟩, B1⟩
    case round =>
     obtain ⟨n, aq, mq, dq, rfl, rfl, sW, jF, nq, bg, ⟨q2, q3, q4, q5⟩, Bq⟩ := hrel
     clear aT qT B1 kP e1 e2 e3 e4 e5
     have j9 := Bq.size
     have vM := jee k x ya n
     obtain ⟨wq, qR⟩ := qea wr
     subst qR
     by_cases hy : ya + n <= ye
     ·have L6 : n <= 78 := by omega
      have mT : ymB (ya + n) x.month = true := jyc (by omega) (by omega) mj.month.1 mj.month.2
      have hO := fun w => jkx (ya + n) x.month x.on w mT Cy
      have oB := j18 (s := x.on) mT
      have Ky := mj.at_.1
      have ie := mj.at_.2
      by_cases hd : moV (ya + n) x.month x.on = -1000000
      ·have HW : Hid (wallsN k x ya (n + 1) = wallsN k x ya n) := by simp only [Hid]; rw [wallsN, jm1 hd, List.append_nil]
       rw [hd] at hO
       clear hd oB mT
       go_wp2_with fail
       refine (hN _).mono ?_
       rintro e wz ⟨rfl, gI⟩
       have gI := gI.symm
       subst gI
       go_wp2_with fail
       refine (hO _).mono ?_
       rintro e w3 ⟨rfl, av⟩
       have Q2 := jaa av q2
       have Q3 := jaa av q3
       have Q4 := jaa av q4
       have Q5 := jaa av q5
       have j7 := av.size
       have eB := jad jF av
       have B3 := Bq.trans (av.mono (by omega))
       clear av q2 q3 q4 q5 jF
       go_wp2
       go_roundw
       case rel => exact ⟨n + 1, aq, mq, dq, by congr 1; omega, rfl, .inl (by omega), by rw [HW.out]; exact eB, nq, by omega, ⟨Q2, Q3, Q4, Q5⟩, B3⟩
       case measure => simp [intOf]; omega
      ·have HW : Hid (wallsN k x ya (n + 1) = wallsN k x ya n ++ [⟨86400 * moV (ya + n) x.month x.on + x.at_, k⟩]) := by simp only [Hid]; rw [wallsN, jkn hd]
       have BU := oB.resolve_left hd
       have gd : (moV (ya + n) x.month x.on != -1000000) = true := by simpa using hd
       generalize moV (ya + n) x.month x.on = dy at *
       obtain ⟨X, hX⟩ := qeb (L ++ wallsN k x ya n)
       have jo : X.length <= 4000 := by rw [<- hX, lla]; omega
       have EZ : Hid (L ++ wallsN k x ya (n + 1) = X ++ [⟨86400 * dy + x.at_, k⟩]) := by simp only [Hid]; rw [HW.out, <- List.append_assoc, hX]
       rw [hX] at jF
       clear hd oB mT hX HW
       go_wp2_with fail
       refine (hN _).mono ?_
       rintro e wz ⟨rfl, gI⟩
       have gI := gI.symm
       subst gI
       go_wp2_with fail
       refine (hO _).mono ?_
       rintro e w3 ⟨rfl, av⟩
       have Q2 := jaa av q2
       have Q3 := jaa av q3
       have Q4 := jaa av q4
       have Q5 := jaa av q5
       have j7 := av.size
       have eB : Zn w3 (w.heap.size + 1) (.slice aq mq dq) X := jad jF av
       have B3 := Bq.trans (av.mono (by omega))
       clear av q2 q3 q4 q5 jF
       go_wp2_with (first
        | (at_builtin; refine wpList_append_lies _ rfl _ _ 281 rfl (w.heap.size + 1) 285 i0 (.agg #[iv 0, iv 0]) 2 16 Tryz.underlying281 hi aH aI aG rfl (by decide) _ _ _ rfl (woa eB _) ⟨w3.heap.size, 0, none⟩ 1 1 [iv (86400 * dy + x.at_), iv k] rfl rfl ?c1 ?c2 (by omega) ?c3 ?c4 ?c5 _ rfl ?_)
        | fail)
       case c1 => exact jag _ [iv (86400 * dy + x.at_), iv k] _
       case c2 => intro u hu; simp at hu; rcases hu with rfl | rfl <;> rfl
       case c3 => unfold maxLen; omega
       case c4 => omega
       case c5 => simp; omega
       intro g4 pc w4 gC af bF hlt4
       have B4 : Below (w.heap.size + 1) wA w4 := (B3.alloc (by omega) _).grown af (by simp; omega) (fun j hj => (eB.lt j hj).1)
       have HO : Hid (Zn w4 (w.heap.size + 1) (so g4 (X.length + 1) pc) (L ++ wallsN k x ya (n + 1))) := by simp only [Hid]; rw [EZ.out]; exact Zn.add (p := ⟨86400 * dy + x.at_, k⟩) gC
       have kb := qal w3 (.cells #[iv (86400 * dy + x.at_), iv k] 285)
       have R2 := af.cell (a := (ad bx 2)) (jaa kb Q2) nq
       have R3 := af.cell (a := (ad bx 3)) (jaa kb Q3) nq
       have R4 := af.cell (a := (ad bx 4)) (jaa kb Q4) nq
       have R5 := af.cell (a := (ad bx 5)) (jaa kb Q5) nq
       have n4 := j3f (n2 := X.length + 1) (c2 := pc) bF nq (by omega)
       have aD : bx < w4.heap.size := by have := af.size; simp at this; omega
       clear af gC eB bF kb Q2 Q3 Q4 Q5 EZ
       go_wp2
       go_roundw
       case rel => exact ⟨n + 1, some (ad g4 0), X.length + 1, pc, by congr 1; omega, rfl, .inl (by omega), HO.out, n4, aD, ⟨R2, R3, R4, R5⟩, B4⟩
       case measure => simp [intOf]; omega
     ·have HE : Hid (jaq nm r.rules (k + 1) = L ++ wallsN k x ya n) := by simp only [Hid]; rw [HT.out, HX.out n (by omega) sW]
      go_wp2_with fail
      refine (hN _).mono ?_
      rintro e wz ⟨rfl, gI⟩
      have gI := gI.symm
      subst gI
      go_wp2
      go_roundw
      case rel => exact ⟨k + 1, by omega, by go_num, by rw [HE.out]; exact jF, Bq⟩
      case measure => simp [intOf]; omega
  ·obtain rfl : k = r.rules.length := by omega
   obtain ⟨L, hL⟩ := qeb (jaq nm r.rules r.rules.length)
   have nJ := hid hL
   rw [hL] at ai au
   clear hL
   obtain ⟨a6, d6, rfl, uS, KF⟩ := ai.seq
   have hW : jc2 wr (.slice a6 L.length d6) L := ⟨a6, d6, rfl, KF, uS⟩
   by_cases h2 : L.length <= 2000
   ·have G0 := jna L.length L (.slice a6 L.length d6) wr (nlr _) (by omega) hW
    go_wp2_with fail
    refine G0.mono ?_
    rintro e w5 ⟨v5, s, rfl, xP, gP, aW⟩
    have HR : Hid (jpj r nm s true) := .inl (by rw [nJ.out]; exact ⟨h2, rfl, gP⟩)
    have B5 := qtr eP aW
    obtain ⟨a5, d5, rfl, KE, sq⟩ := xP
    have IK : Hid (jc2 w5 (.slice a5 s.length d5) s) := ⟨a5, d5, rfl, KE, sq⟩
    clear G0 aW gP sq
    go_wp2
    exact bpr (v := .tuple #[.slice a5 s.length d5, .bool true]) (by simp [results, Tryz.results226, go_sem]) rfl ⟨_, s, true, rfl, IK.out, HR.out, B5⟩
   ·have HR : Hid (jpj r nm [] false) := .inr (by rw [nJ.out]; exact ⟨h2, rfl, rfl⟩)
    go_wp2
    exact bpr (v := .tuple #[nS, .bool false]) (by simp [results, Tryz.results226, go_sem]) rfl ⟨_, [], false, rfl, ⟨none, 0, rfl, by simp, .inl rfl⟩, HR.out, eP⟩
end
section
open Go.RowKit
def jd9 (x : RuleD) (wall off save : Int) : HapD := ⟨if (x.of.toList == [115]) = true then wall - off else if (x.of.toList == [119]) = true then wall - off - save else wall, x.save, x.letter⟩
theorem j2o {x : RuleD} {wall off save : Int} (h : (x.of.toList == [115]) = true) : jd9 x wall off save = ⟨wall - off, x.save, x.letter⟩ := by unfold jd9; rw [if_pos h]
theorem j2m {x : RuleD} {wall off save : Int} (h : (x.of.toList == [115]) = false) (h2 : (x.of.toList == [119]) = true) : jd9 x wall off save = ⟨wall - off - save, x.save, x.letter⟩ := by unfold jd9; rw [if_neg (by rw [h]; simp), if_pos h2]
theorem j2n {x : RuleD} {wall off save : Int} (h : (x.of.toList == [115]) = false) (h2 : (x.of.toList == [119]) = false) : jd9 x wall off save = ⟨wall, x.save, x.letter⟩ := by unfold jd9; rw [if_neg (by rw [h]; simp), if_neg (by rw [h2]; simp)]
def jdk (l : List RuleD) (off : Int) (st : List HapD × Int) (m : WallD) : List HapD × Int := match l[m.place]? with
 | some x => (st.1 ++ [jd9 x m.wall off st.2], x.save)
 | none => st
def jbx (l : List RuleD) (off : Int) (s : List WallD) : List HapD × Int := s.foldl (jdk l off) ([], 0)
theorem jgh {l : List RuleD} {off : Int} {s : List WallD} {k : Nat} {m : WallD} {x : RuleD} (hm : s[k]? = some m) (hx : l[m.place]? = some x) : jbx l off (s.take (k + 1)) = ((jbx l off (s.take k)).1 ++ [jd9 x m.wall off (jbx l off (s.take k)).2], x.save) := by
 unfold jbx
 rw [List.take_add_one, hm, List.foldl_append]
 show jdk l off _ m = _
 unfold jdk
 rw [hx]
theorem jo0 {l : List RuleD} {off : Int} {s : List WallD} (h : ∀ m ∈ s, m.place < l.length) : ∀ k, k <= s.length -> (jbx l off (s.take k)).1.length = k := by
 intro k
 induction k with
 | zero => intro _; rfl
 | succ k ih =>
  intro hk
  obtain ⟨m, hm⟩ : ∃ m, s[k]? = some m := ⟨_, lgg (by omega)⟩
  obtain ⟨x, hx⟩ : ∃ x, l[m.place]? = some x := ⟨_, lgg (h m (lmg hm))⟩
  rw [jgh hm hx, lla, ih (by omega)]; rfl
theorem jk6 {l : List RuleD} {off : Int} {s : List WallD} (h : ∀ m ∈ s, m.place < l.length) (hs : ∀ x ∈ l, -7200 <= x.save /\ x.save <= 7200) : ∀ k, k <= s.length -> -7200 <= (jbx l off (s.take k)).2 /\ (jbx l off (s.take k)).2 <= 7200 := by
 intro k
 induction k with
 | zero => intro _; exact ⟨by simp [jbx], by simp [jbx]⟩
 | succ k ih =>
  intro hk
  obtain ⟨m, hm⟩ : ∃ m, s[k]? = some m := ⟨_, lgg (by omega)⟩
  obtain ⟨x, hx⟩ : ∃ x, l[m.place]? = some x := ⟨_, lgg (h m (lmg hm))⟩
  rw [jgh hm hx]
  exact hs x (lmg hx)
theorem jkq {i : Nat} {x : RuleD} {y : Int} (hx : Jo x) {m : WallD} : ∀ {n : Nat}, 1960 <= y -> y + n <= 2038 -> m ∈ wallsN i x y n -> m.place = i /\ -100000000000 <= m.wall /\ m.wall <= 300000000000 := by
 intro n
 induction n with
 | zero => intro _ _ h; simp [wallsN] at h
 | succ n ih =>
  intro h1 h2 h
  rw [wallsN, List.mem_append] at h
  rcases h with h | h
  ·exact ih h1 (by omega) h
  ·have hb := j18 (s := x.on) (jyc (y := y + n) (m := x.month) (by omega) (by omega) hx.month.1 hx.month.2)
   have ha := hx.at_
   unfold jdy at h
   split at h
   ·simp at h
   ·rename_i az
    simp at h
    subst h
    refine ⟨rfl, ?_, ?_⟩
    ·show -100000000000 <= 86400 * moV (y + n) x.month x.on + x.at_
     omega
    ·show 86400 * moV (y + n) x.month x.on + x.at_ <= 300000000000
     omega
theorem jkp {nm : ByteArray} {l : List RuleD} (hl : ∀ x ∈ l, Jo x) {m : WallD} : ∀ {k : Nat}, m ∈ jaq nm l k -> (∃ x, l[m.place]? = some x /\ (x.name.toList == nm.toList) = true) /\ m.place < k /\ -100000000000 <= m.wall /\ m.wall <= 300000000000 := by
 intro k
 induction k with
 | zero => intro h; simp [jaq] at h
 | succ k ih =>
  intro h
  rw [jaq, List.mem_append] at h
  rcases h with h | h
  ·obtain ⟨h1, h2, h3⟩ := ih h
   exact ⟨h1, by omega, h3⟩
  ·split at h
   ·rename_i x hx
    split at h
    ·rename_i hn
     by_cases hy : yrs x = 0
     ·unfold jcj at h; rw [hy] at h; simp [wallsN] at h
     ·obtain ⟨p1, p2⟩ := jkq (hl x (lmg hx)) (by omega) (by unfold yrs at *; omega) h
      exact ⟨⟨x, by rw [p1]; exact hx, hn⟩, by omega, p2⟩
    ·simp at h
   ·simp at h
theorem jpp {l s : List WallD} (h : Jb l s) {m : WallD} (hm : m ∈ s) : m ∈ l := by
 have : m ∈ atW m.wall s := List.mem_filter.mpr ⟨hm, by simp⟩
 rw [h.at_] at this
 exact (List.mem_filter.mp this).1
structure WallOk (l : List RuleD) (s : List WallD) : Prop where
 place : ∀ m ∈ s, m.place < l.length
 wall : ∀ m ∈ s, -100000000000 <= m.wall /\ m.wall <= 300000000000
 len : s.length <= 2000
theorem jyd {r : RelD} {nm : ByteArray} {s : List WallD} {b : Bool} (hl : ∀ x ∈ r.rules, Jo x) (h : jpj r nm s b) : WallOk r.rules s := by
 rcases h with ⟨h1, _, h3⟩ | ⟨_, _, h3⟩
 ·refine ⟨fun m hm => ?_, fun m hm => ?_, by rw [h3.len]; exact h1⟩
  ·exact (jkp hl (jpp h3 hm)).2.1
  ·exact (jkp hl (jpp h3 hm)).2.2
 ·subst h3
  exact ⟨fun m hm => by simp at hm, fun m hm => by simp at hm, by simp⟩
theorem jr8 : (Tryz.prog.info? 254).map (fun i => (i.zero, i.size, i.bytes)) = some (some (.agg #[iv 0, iv 0, .string ⟨#[]⟩]), 3, 32) := by kernel_rfl
theorem j2p {P : List HapD} : ∀ r ∈ P.map HapD.cs, r.length = 3 := fun r hr => by
 obtain ⟨x, _, rfl⟩ := List.mem_map.mp hr; rfl
def Zx (w : World) (base : Nat) (v : Value) (P : List HapD) : Prop := w.ownsRow base 254 3 v P.length (P.map HapD.cs).flatten
theorem Zx.add {w : World} {base : Nat} {v : Value} {P : List HapD} {p : HapD} (h : w.ownsRow base 254 3 v (P.length + 1) ((P.map HapD.cs).flatten ++ p.cs)) : Zx w base v (P ++ [p]) := by
 unfold Zx
 rw [lla, lma, List.flatten_append]
 simpa using h
def jx2 (r : RelD) (nm : ByteArray) (off : Int) (H : List HapD) (b : Bool) : Prop := ∃ s, jpj r nm s b /\ H = (jbx r.rules off s).1
end
end Go.Proofs.YtgiieknbckhofaaGreatDoor
