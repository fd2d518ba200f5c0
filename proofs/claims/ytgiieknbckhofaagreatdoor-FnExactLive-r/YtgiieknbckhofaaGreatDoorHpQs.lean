/- Packed. -/
import Derived.Test.YtgiieknbckhofaaGreatDoorHpSs
import Derived.Test.YtgiieknbckhofaaGreatDoorRightXs
set_option maxHeartbeats 20000000
set_option linter.unusedSimpArgs false
namespace Go.Proofs.YtgiieknbckhofaaGreatDoor
section
open Go.RowKit
def jdz (i : Nat) (x : RuleD) (y : Int) : List WallD := if moV y x.month x.on = -1000000 then [] else [⟨86400 * moV y x.month x.on + x.at_, i⟩]
def wallsN (i : Nat) (x : RuleD) (y : Int) : Nat -> List WallD
 | 0 => []
 | n + 1 => wallsN i x y n ++ jdz i x (y + n)
def yrs (x : RuleD) : Nat := (min x.hi 2037 - max x.lo 1960 + 1).toNat
def jch (i : Nat) (x : RuleD) : List WallD := wallsN i x (max x.lo 1960) (yrs x)
def jap (nm : ByteArray) (l : List RuleD) : Nat -> List WallD
 | 0 => []
 | k + 1 => jap nm l k ++ (match l[k]? with | some x => if (x.name.toList == nm.toList) = true then jch k x else [] | none => [])
theorem jm6 {i : Nat} {x : RuleD} {y : Int} (h : moV y x.month x.on = -1000000) : jdz i x y = [] := by unfold jdz; rw [if_pos h]
theorem jkq {i : Nat} {x : RuleD} {y : Int} (h : moV y x.month x.on ≠ -1000000) : jdz i x y = [⟨86400 * moV y x.month x.on + x.at_, i⟩] := by unfold jdz; rw [if_neg h]
theorem jkr {nm : ByteArray} {l : List RuleD} {k : Nat} {x : RuleD} (hx : l[k]? = some x) (h : (x.name.toList == nm.toList) = true) : jap nm l (k + 1) = jap nm l k ++ jch k x := by rw [jap, hx]; simp only [h, if_true]
theorem jm7 {nm : ByteArray} {l : List RuleD} {k : Nat} {x : RuleD} (hx : l[k]? = some x) (h : (x.name.toList == nm.toList) = false) : jap nm l (k + 1) = jap nm l k := by rw [jap, hx]; simp [h]
theorem jeh (i : Nat) (x : RuleD) (y : Int) : ∀ n, (wallsN i x y n).length <= n := by
 intro n
 induction n with
 | zero => simp [wallsN]
 | succ n ih =>
  rw [wallsN, lla]
  have : (jdz i x (y + n)).length <= 1 := by unfold jdz; split <;> simp
  omega
theorem jrk (x : RuleD) : yrs x <= 78 := by unfold yrs; omega
theorem js1 (nm : ByteArray) (l : List RuleD) : ∀ k, (jap nm l k).length <= 78 * k := by
 intro k
 induction k with
 | zero => simp [jap]
 | succ k ih =>
  rw [jap, lla]
  have BU : ∀ x, (jch k x).length <= 78 := fun x => Nat.le_trans (jeh _ _ _ _) (jrk x)
  split
  ·rename_i x _
   split
   ·have := BU x; omega
   ·simp; omega
  ·simp; omega
structure Jp (x : RuleD) : Prop where
 month : 1 <= x.month /\ x.month <= 12
 at_ : 0 <= x.at_ /\ x.at_ <= 604800
 save : -7200 <= x.save /\ x.save <= 7200
theorem jrr {x : RuleD} (h : jaw x = true) : Jp x := by
 unfold jaw at h
 simp only [bat] at h
 obtain ⟨_, _, _, hm, _, ha, _, hs, _⟩ := h
 exact ⟨jax hm, jax ha, jax hs⟩
theorem j17 {y m : Int} {s : ByteArray} (hy : ymB y m = true) : moV y m s = -1000000 \/ (-800000 <= moV y m s /\ moV y m s <= 3000000) := by
 have := j1u (y := y) (m := m) (s := s)
 unfold jbl at this
 rw [hy, if_pos rfl, jil hy] at this
 exact this
theorem jyc {y m : Int} (h1 : 1960 <= y) (h2 : y <= 2037) (h3 : 1 <= m) (h4 : m <= 12) : ymB y m = true := by
 unfold ymB
 simp
 omega
theorem jgu (a b : Int) (w : World) : Cl 228 #[iv a, iv b] w fun e w' => e = .returned (iv (max a b)) /\ w' = w := by
 by_cases h : b < a
 ·go_enter Tryz.func228, Tryz.ntmps228
  go_wp2
  go_ret
  exact ⟨ret_int (by omega), rfl⟩
 ·go_enter Tryz.func228, Tryz.ntmps228
  go_wp2
  go_ret
  exact ⟨ret_int (by omega), rfl⟩
theorem jgt (a b : Int) (w : World) : Cl 227 #[iv a, iv b] w fun e w' => e = .returned (iv (min a b)) /\ w' = w := by
 by_cases h : a < b
 ·go_enter Tryz.func227, Tryz.ntmps227
  go_wp2
  go_ret
  exact ⟨ret_int (by omega), rfl⟩
 ·go_enter Tryz.func227, Tryz.ntmps227
  go_wp2
  go_ret
  exact ⟨ret_int (by omega), rfl⟩
def jpr (r : RelD) (nm : ByteArray) (s : List WallD) (b : Bool) : Prop := ((jap nm r.rules r.rules.length).length <= 2000 /\ b = true /\ Jc (jap nm r.rules r.rules.length) s) \/ (¬ (jap nm r.rules r.rules.length).length <= 2000 /\ b = false /\ s = [])
end
section
open Go.RowKit
theorem j3g {g H bx : Nat} {a : Option Addr} {n c n2 c2 : Nat} (bI : (Value.slice a n c).ownBlock = some g \/ g = H) (aC : some bx ≠ (Value.slice a n c).ownBlock) (hH : bx < H) : some bx ≠ (Value.slice (some (ad g 0)) n2 c2).ownBlock := by
 intro e
 have e2 : bx = g := by simpa [Value.ownBlock] using e
 subst e2
 rcases bI with h | h
 ·exact aC h.symm
 ·omega
set_option maxRecDepth 20000 in
theorem jlt (r : RelD) (v : Value) (nm : ByteArray) (w : World) (hv : Zd w v r) (hr : ∀ x ∈ r.rules, jaw x = true) (hl : r.rules.length <= 40) (dr : ∀ x ∈ r.rules, x.on.size <= 1048576) :
  Cl 226 #[v, .string nm] w fun e W' => ∃ v' s b, e = .returned (.tuple #[v', .bool b]) /\ jc1 W' v' s /\ jpr r nm s b /\ Bw w W' := by
 obtain ⟨i0, hi, aG, aI, aF⟩ := info_parts jsd
 obtain ⟨a, b, c, ca, cb, cc, rfl, hA, _, _⟩ := hv.form
 have jY : Hid (∀ x ∈ r.rules, Jp x) := fun x hx => jrr (hr x hx)
 have um := hid dr
 clear hr dr hv
 have ff := qal w (.cells #[.slice a r.rules.length ca, .slice b r.zones.length cb, .slice c r.links.length cc] 38)
 have x0 : (w.alloc (.cells #[.slice a r.rules.length ca, .slice b r.zones.length cb, .slice c r.links.length cc] 38)).cell? (ad w.heap.size 0) = some (.slice a r.rules.length ca) := by simp [go_sem]
 go_enter Tryz.func226, Tryz.ntmps226
 go_wp2
 obtain ⟨wA, dg⟩ := qeb ((w.alloc (.cells #[.slice a r.rules.length ca, .slice b r.zones.length cb, .slice c r.links.length cc] 38)))
 have jO : wA.heap.size = w.heap.size + 1 := by rw [<- dg]; simp
 rw [dg] at ff x0 ⊢
 clear dg
 have hE : Zm (wA.alloc (.cells #[] 285)) (w.heap.size + 1) (.slice (some (ad (w.heap.size + 1) 0)) 0 0) (jap nm r.rules 0) := by have := jau wA 285 2; rw [jO] at this; exact this
 go_loopw [6, 7] (fun s6 s7 wr => ∃ k : Nat, k <= r.rules.length /\ s7 = iv k /\ Zm wr (w.heap.size + 1) s6 (jap nm r.rules k) /\ Below (w.heap.size + 1) wA wr) (fun _ s7 _ => r.rules.length - (intOf s7).toNat)
 case atStart => exact ⟨0, by omega, rfl, hE, (brf _ _).alloc (by omega) _⟩
 case round =>
  clear hE
  obtain ⟨k, hk, rfl, ai, aH⟩ := hrel
  have dX := aH.size
  have eW := ff.trans (aH.mono (show w.heap.size <= w.heap.size + 1 by omega))
  have xr : wr.cell? (ad w.heap.size 0) = some (.slice a r.rules.length ca) := (aH.cell (p := (ad w.heap.size 0)) (show w.heap.size < w.heap.size + 1 by omega)).trans x0
  have au := js1 nm r.rules k
  by_cases hlt : k < r.rules.length
  ·obtain ⟨x, hx⟩ := qgg hlt
   have mZ := jY.out x (lmg hx)
   have Dk := um.out x (lmg hx)
   obtain ⟨b9, o9, rfl, hc⟩ := (hA.below eW).at (i := k) (r := x.cs) (by rw [lgm, hx]; rfl)
   have c0 : wr.cell? (ad b9 (o9 + k * 9)) = some (.string x.name) := hc 0 _ rfl
   have c1 := hc 1 _ rfl
   have c2 := hc 2 _ rfl
   have c3 := hc 3 _ rfl
   have c4 := hc 4 _ rfl
   have c5 := hc 5 _ rfl
   have c6 := hc 6 _ rfl
   have c7 := hc 7 _ rfl
   have c8 := hc 8 _ rfl
   clear hc
   cases hn : (x.name.toList == nm.toList)
   ·have HT : Hid (jap nm r.rules (k + 1) = jap nm r.rules k) := jm7 hx hn
    clear hx
    obtain ⟨a6, m6, d6, rfl⟩ := jac ai
    go_wp2
    go_roundw
    case rel => exact ⟨k + 1, by omega, by go_num, by rw [HT.out]; exact woa ai _, aH.alloc (by omega) _⟩
    case measure => simp [intOf]; omega
   ·have HT : Hid (jap nm r.rules (k + 1) = jap nm r.rules k ++ jch k x) := jkr hx hn
    clear hx
    obtain ⟨L, hL⟩ := qeb (jap nm r.rules k)
    rw [hL] at HT ai au
    clear hL
    obtain ⟨a6, m6, d6, rfl⟩ := jac ai
    have hM := fun w => jgu x.lo 1960 w
    have hN := fun w => jgt x.hi 2037 w
    obtain ⟨ya, wU⟩ := qeb (max x.lo 1960)
    obtain ⟨ye, wV⟩ := qeb (min x.hi 2037)
    have Of : 1960 <= ya := by omega
    have Og : ye <= 2037 := by omega
    have HX : Hid (∀ n : Nat, ¬ ya + n <= ye -> ya + n <= ye + 1 \/ n = 0 -> jch k x = wallsN k x ya n) := fun n h1 h2 => by
     unfold jch yrs
     rw [wU, wV]
     congr 1
     omega
    have PF := jrk x
    rw [wU] at hM
    rw [wV] at hN
    clear wU wV
    have rF : some wr.heap.size ≠ (Value.slice a6 m6 d6).ownBlock := fun e => by have := (ai.lt _ e.symm).2; omega
    have aU : Zm (wr.alloc (.cells #[.string x.name, iv x.lo, iv x.hi, iv x.month, .string x.on, iv x.at_, .string x.of, iv x.save, .string x.letter] 142)) (w.heap.size + 1) (.slice a6 m6 d6) (L ++ wallsN k x ya 0) := by rw [show L ++ wallsN k x ya 0 = L from List.append_nil _]; exact woa ai _
    have B1 : Below (w.heap.size + 1) wA (wr.alloc (.cells #[.string x.name, iv x.lo, iv x.hi, iv x.month, .string x.on, iv x.at_, .string x.of, iv x.save, .string x.letter] 142)) := aH.alloc (by omega) _
    have lD : (wr.alloc (.cells #[.string x.name, iv x.lo, iv x.hi, iv x.month, .string x.on, iv x.at_, .string x.of, iv x.save, .string x.letter] 142)).heap.size = wr.heap.size + 1 := by simp
    obtain ⟨e1, e2, e3, e4, e5⟩ : (fun z : World => z.cell? (ad wr.heap.size 1) = some (iv x.lo) /\ z.cell? (ad wr.heap.size 2) = some (iv x.hi) /\ z.cell? (ad wr.heap.size 3) = some (iv x.month) /\ z.cell? (ad wr.heap.size 4) = some (.string x.on) /\ z.cell? (ad wr.heap.size 5) = some (iv x.at_)) (wr.alloc (.cells #[.string x.name, iv x.lo, iv x.hi, iv x.month, .string x.on, iv x.at_, .string x.of, iv x.save, .string x.letter] 142)) := by simp [go_sem]
    go_wp2_with (go_at_call 228; refine (hM _).mono ?_; rintro e wz ⟨rfl, gS⟩; have gS := gS.symm; subst gS)
    obtain ⟨wB, jn⟩ := qeb ((wr.alloc (.cells #[.string x.name, iv x.lo, iv x.hi, iv x.month, .string x.on, iv x.at_, .string x.of, iv x.save, .string x.letter] 142)))
    obtain ⟨bx, gF⟩ := qeb wr.heap.size
    rw [jn] at aU B1 lD e1 e2 e3 e4 e5 ⊢
    rw [gF] at lD e1 e2 e3 e4 e5 rF dX ⊢
    clear jn gF ai aH eW xr c0 c1 c2 c3 c4 c5 c6 c7 c8 hM
    go_loopw [6, 9] (fun s6 s9 wq => ∃ (n : Nat) (aq : Option Addr) (mq dq : Nat), s9 = iv (ya + n) /\ s6 = .slice aq mq dq /\ (ya + n <= ye + 1 \/ n = 0) /\ Zm wq (w.heap.size + 1) (.slice aq mq dq) (L ++ wallsN k x ya n) /\ some bx ≠ (Value.slice aq mq dq).ownBlock /\ bx < wq.heap.size /\ (wq.cell? (ad bx 2) = some (iv x.hi) /\ wq.cell? (ad bx 3) = some (iv x.month) /\ wq.cell? (ad bx 4) = some (.string x.on) /\ wq.cell? (ad bx 5) = some (iv x.at_)) /\ Below (w.heap.size + 1) wA wq) (fun _ s9 _ => (ye + 1 - intOf s9).toNat)
    case atStart => exact ⟨0, a6, m6, d6, by simp, rfl, .inr rfl, aU, rF, by omega, ⟨e2, e3, e4, e5⟩, B1⟩
    case round =>
     obtain ⟨n, aq, mq, dq, rfl, rfl, tI, jS, nq, bl, ⟨q2, q3, q4, q5⟩, Bq⟩ := hrel
     clear aU rF B1 lD e1 e2 e3 e4 e5
     have jm := Bq.size
     have wR := jeh k x ya n
     obtain ⟨wq, rC⟩ := qea wr
     subst rC
     by_cases hy : ya + n <= ye
     ·have LG : n <= 78 := by omega
      have nO : ymB (ya + n) x.month = true := jyc (by omega) (by omega) mZ.month.1 mZ.month.2
      have hO := fun w => jk2 (ya + n) x.month x.on w nO Dk
      have pk := j17 (s := x.on) nO
      have Lc := mZ.at_.1
      have iw := mZ.at_.2
      by_cases hd : moV (ya + n) x.month x.on = -1000000
      ·have HW : Hid (wallsN k x ya (n + 1) = wallsN k x ya n) := by simp only [Hid]; rw [wallsN, jm6 hd, List.append_nil]
       rw [hd] at hO
       clear hd pk nO
       go_wp2_with fail
       refine (hN _).mono ?_
       rintro e wz ⟨rfl, gS⟩
       have gS := gS.symm
       subst gS
       go_wp2_with fail
       refine (hO _).mono ?_
       rintro e w3 ⟨rfl, ar⟩
       have Q2 := jaa ar q2
       have Q3 := jaa ar q3
       have Q4 := jaa ar q4
       have Q5 := jaa ar q5
       have jk := ar.size
       have eI := jad jS ar
       have B3 := Bq.trans (ar.mono (by omega))
       clear ar q2 q3 q4 q5 jS
       go_wp2
       go_roundw
       case rel => exact ⟨n + 1, aq, mq, dq, by congr 1; omega, rfl, .inl (by omega), by rw [HW.out]; exact eI, nq, by omega, ⟨Q2, Q3, Q4, Q5⟩, B3⟩
       case measure => simp [intOf]; omega
      ·have HW : Hid (wallsN k x ya (n + 1) = wallsN k x ya n ++ [⟨86400 * moV (ya + n) x.month x.on + x.at_, k⟩]) := by simp only [Hid]; rw [wallsN, jkq hd]
       have CK := pk.resolve_left hd
       have gd : (moV (ya + n) x.month x.on != -1000000) = true := by simpa using hd
       generalize moV (ya + n) x.month x.on = dy at *
       obtain ⟨X, hX⟩ := qeb (L ++ wallsN k x ya n)
       have jC : X.length <= 4000 := by rw [<- hX, lla]; omega
       have Fx : Hid (L ++ wallsN k x ya (n + 1) = X ++ [⟨86400 * dy + x.at_, k⟩]) := by simp only [Hid]; rw [HW.out, <- List.append_assoc, hX]
       rw [hX] at jS
       clear hd pk nO hX HW
       go_wp2_with fail
       refine (hN _).mono ?_
       rintro e wz ⟨rfl, gS⟩
       have gS := gS.symm
       subst gS
       go_wp2_with fail
       refine (hO _).mono ?_
       rintro e w3 ⟨rfl, ar⟩
       have Q2 := jaa ar q2
       have Q3 := jaa ar q3
       have Q4 := jaa ar q4
       have Q5 := jaa ar q5
       have jk := ar.size
       have eI : Zm w3 (w.heap.size + 1) (.slice aq mq dq) X := jad jS ar
       have B3 := Bq.trans (ar.mono (by omega))
       clear ar q2 q3 q4 q5 jS
       go_wp2_with (first
        | (at_builtin; refine wpList_append_lies _ rfl _ _ 281 rfl (w.heap.size + 1) 285 i0 (.agg #[iv 0, iv 0]) 2 16 Tryz.underlying281 hi aG aI aF rfl (by decide) _ _ _ rfl (woa eI _) ⟨w3.heap.size, 0, none⟩ 1 1 [iv (86400 * dy + x.at_), iv k] rfl rfl ?c1 ?c2 (by omega) ?c3 ?c4 ?c5 _ rfl ?_)
        | fail)
       case c1 => exact jaf _ [iv (86400 * dy + x.at_), iv k] _
       case c2 => intro u hu; simp at hu; rcases hu with rfl | rfl <;> rfl
       case c3 => unfold maxLen; omega
       case c4 => omega
       case c5 => simp; omega
       intro g4 pU w4 gO af bI hlt4
       have B4 : Below (w.heap.size + 1) wA w4 := (B3.alloc (by omega) _).grown af (by simp; omega) (fun j hj => (eI.lt j hj).1)
       have HO : Hid (Zm w4 (w.heap.size + 1) (.slice (some (ad g4 0)) (X.length + 1) pU) (L ++ wallsN k x ya (n + 1))) := by simp only [Hid]; rw [Fx.out]; exact Zm.add (p := ⟨86400 * dy + x.at_, k⟩) gO
       have kb := qal w3 (.cells #[iv (86400 * dy + x.at_), iv k] 285)
       have R2 := af.cell (a := (ad bx 2)) (jaa kb Q2) nq
       have R3 := af.cell (a := (ad bx 3)) (jaa kb Q3) nq
       have R4 := af.cell (a := (ad bx 4)) (jaa kb Q4) nq
       have R5 := af.cell (a := (ad bx 5)) (jaa kb Q5) nq
       have n4 := j3g (n2 := X.length + 1) (c2 := pU) bI nq (by omega)
       have az : bx < w4.heap.size := by have := af.size; simp at this; omega
       clear af gO eI bI kb Q2 Q3 Q4 Q5 Fx
       go_wp2
       go_roundw
       case rel => exact ⟨n + 1, some (ad g4 0), X.length + 1, pU, by congr 1; omega, rfl, .inl (by omega), HO.out, n4, az, ⟨R2, R3, R4, R5⟩, B4⟩
       case measure => simp [intOf]; omega
     ·have HE : Hid (jap nm r.rules (k + 1) = L ++ wallsN k x ya n) := by simp only [Hid]; rw [HT.out, HX.out n (by omega) tI]
      go_wp2_with fail
      refine (hN _).mono ?_
      rintro e wz ⟨rfl, gS⟩
      have gS := gS.symm
      subst gS
      go_wp2
      go_roundw
      case rel => exact ⟨k + 1, by omega, by go_num, by rw [HE.out]; exact jS, Bq⟩
      case measure => simp [intOf]; omega
  ·obtain rfl : k = r.rules.length := by omega
   obtain ⟨L, hL⟩ := qeb (jap nm r.rules r.rules.length)
   have oy := hid hL
   rw [hL] at ai au
   clear hL
   obtain ⟨a6, d6, rfl, qJ, Lk⟩ := ai.seq
   have hW : jc1 wr (.slice a6 L.length d6) L := ⟨a6, d6, rfl, Lk, qJ⟩
   by_cases h2 : L.length <= 2000
   ·have Gl := jng L.length L (.slice a6 L.length d6) wr (nlr _) (by omega) hW
    go_wp2_with fail
    refine Gl.mono ?_
    rintro e w5 ⟨v5, s, rfl, yR, fy, aV⟩
    have HR : Hid (jpr r nm s true) := .inl (by rw [oy.out]; exact ⟨h2, rfl, fy⟩)
    have B5 := qtr eW aV
    obtain ⟨a5, d5, rfl, Li, mj⟩ := yR
    have J8 : Hid (jc1 w5 (.slice a5 s.length d5) s) := ⟨a5, d5, rfl, Li, mj⟩
    clear Gl aV fy mj
    go_wp2
    exact bodyPost_ret (v := .tuple #[.slice a5 s.length d5, .bool true]) (by simp [results, Tryz.results226, go_sem]) rfl ⟨_, s, true, rfl, J8.out, HR.out, B5⟩
   ·have HR : Hid (jpr r nm [] false) := .inr (by rw [oy.out]; exact ⟨h2, rfl, rfl⟩)
    go_wp2
    exact bodyPost_ret (v := .tuple #[nS, .bool false]) (by simp [results, Tryz.results226, go_sem]) rfl ⟨_, [], false, rfl, ⟨none, 0, rfl, by simp, .inl rfl⟩, HR.out, eW⟩
end
section
open Go.RowKit
def jec (x : RuleD) (wall off save : Int) : HapD := ⟨if (x.of.toList == [115]) = true then wall - off else if (x.of.toList == [119]) = true then wall - off - save else wall, x.save, x.letter⟩
theorem j2o {x : RuleD} {wall off save : Int} (h : (x.of.toList == [115]) = true) : jec x wall off save = ⟨wall - off, x.save, x.letter⟩ := by unfold jec; rw [if_pos h]
theorem j2m {x : RuleD} {wall off save : Int} (h : (x.of.toList == [115]) = false) (h2 : (x.of.toList == [119]) = true) : jec x wall off save = ⟨wall - off - save, x.save, x.letter⟩ := by unfold jec; rw [if_neg (by rw [h]; simp), if_pos h2]
theorem j2n {x : RuleD} {wall off save : Int} (h : (x.of.toList == [115]) = false) (h2 : (x.of.toList == [119]) = false) : jec x wall off save = ⟨wall, x.save, x.letter⟩ := by unfold jec; rw [if_neg (by rw [h]; simp), if_neg (by rw [h2]; simp)]
def jdj (l : List RuleD) (off : Int) (st : List HapD × Int) (m : WallD) : List HapD × Int := match l[m.place]? with
 | some x => (st.1 ++ [jec x m.wall off st.2], x.save)
 | none => st
def jbv (l : List RuleD) (off : Int) (s : List WallD) : List HapD × Int := s.foldl (jdj l off) ([], 0)
theorem jgm {l : List RuleD} {off : Int} {s : List WallD} {k : Nat} {m : WallD} {x : RuleD} (hm : s[k]? = some m) (hx : l[m.place]? = some x) : jbv l off (s.take (k + 1)) = ((jbv l off (s.take k)).1 ++ [jec x m.wall off (jbv l off (s.take k)).2], x.save) := by
 unfold jbv
 rw [List.take_add_one, hm, List.foldl_append]
 show jdj l off _ m = _
 unfold jdj
 rw [hx]
theorem jo7 {l : List RuleD} {off : Int} {s : List WallD} (h : ∀ m ∈ s, m.place < l.length) : ∀ k, k <= s.length -> (jbv l off (s.take k)).1.length = k := by
 intro k
 induction k with
 | zero => intro _; rfl
 | succ k ih =>
  intro hk
  obtain ⟨m, hm⟩ : ∃ m, s[k]? = some m := ⟨_, lgg (by omega)⟩
  obtain ⟨x, hx⟩ : ∃ x, l[m.place]? = some x := ⟨_, lgg (h m (lmg hm))⟩
  rw [jgm hm hx, lla, ih (by omega)]; rfl
theorem jlc {l : List RuleD} {off : Int} {s : List WallD} (h : ∀ m ∈ s, m.place < l.length) (hs : ∀ x ∈ l, -7200 <= x.save /\ x.save <= 7200) : ∀ k, k <= s.length -> -7200 <= (jbv l off (s.take k)).2 /\ (jbv l off (s.take k)).2 <= 7200 := by
 intro k
 induction k with
 | zero => intro _; exact ⟨by simp [jbv], by simp [jbv]⟩
 | succ k ih =>
  intro hk
  obtain ⟨m, hm⟩ : ∃ m, s[k]? = some m := ⟨_, lgg (by omega)⟩
  obtain ⟨x, hx⟩ : ∃ x, l[m.place]? = some x := ⟨_, lgg (h m (lmg hm))⟩
  rw [jgm hm hx]
  exact hs x (lmg hx)
theorem jkt {i : Nat} {x : RuleD} {y : Int} (hx : Jp x) {m : WallD} : ∀ {n : Nat}, 1960 <= y -> y + n <= 2038 -> m ∈ wallsN i x y n -> m.place = i /\ -100000000000 <= m.wall /\ m.wall <= 300000000000 := by
 intro n
 induction n with
 | zero => intro _ _ h; simp [wallsN] at h
 | succ n ih =>
  intro h1 h2 h
  rw [wallsN, List.mem_append] at h
  rcases h with h | h
  ·exact ih h1 (by omega) h
  ·have hb := j17 (s := x.on) (jyc (y := y + n) (m := x.month) (by omega) (by omega) hx.month.1 hx.month.2)
   have ha := hx.at_
   unfold jdz at h
   split at h
   ·simp at h
   ·rename_i aC
    simp at h
    subst h
    refine ⟨rfl, ?_, ?_⟩
    ·show -100000000000 <= 86400 * moV (y + n) x.month x.on + x.at_
     omega
    ·show 86400 * moV (y + n) x.month x.on + x.at_ <= 300000000000
     omega
theorem jks {nm : ByteArray} {l : List RuleD} (hl : ∀ x ∈ l, Jp x) {m : WallD} : ∀ {k : Nat}, m ∈ jap nm l k -> (∃ x, l[m.place]? = some x /\ (x.name.toList == nm.toList) = true) /\ m.place < k /\ -100000000000 <= m.wall /\ m.wall <= 300000000000 := by
 intro k
 induction k with
 | zero => intro h; simp [jap] at h
 | succ k ih =>
  intro h
  rw [jap, List.mem_append] at h
  rcases h with h | h
  ·obtain ⟨h1, h2, h3⟩ := ih h
   exact ⟨h1, by omega, h3⟩
  ·split at h
   ·rename_i x hx
    split at h
    ·rename_i hn
     by_cases hy : yrs x = 0
     ·unfold jch at h; rw [hy] at h; simp [wallsN] at h
     ·obtain ⟨p1, p2⟩ := jkt (hl x (lmg hx)) (by omega) (by unfold yrs at *; omega) h
      exact ⟨⟨x, by rw [p1]; exact hx, hn⟩, by omega, p2⟩
    ·simp at h
   ·simp at h
theorem jpx {l s : List WallD} (h : Jc l s) {m : WallD} (hm : m ∈ s) : m ∈ l := by
 have : m ∈ atW m.wall s := List.mem_filter.mpr ⟨hm, by simp⟩
 rw [h.at_] at this
 exact (List.mem_filter.mp this).1
structure WallOk (l : List RuleD) (s : List WallD) : Prop where
 place : ∀ m ∈ s, m.place < l.length
 wall : ∀ m ∈ s, -100000000000 <= m.wall /\ m.wall <= 300000000000
 len : s.length <= 2000
theorem jyd {r : RelD} {nm : ByteArray} {s : List WallD} {b : Bool} (hl : ∀ x ∈ r.rules, Jp x) (h : jpr r nm s b) : WallOk r.rules s := by
 rcases h with ⟨h1, _, h3⟩ | ⟨_, _, h3⟩
 ·refine ⟨fun m hm => ?_, fun m hm => ?_, by rw [h3.len]; exact h1⟩
  ·exact (jks hl (jpx h3 hm)).2.1
  ·exact (jks hl (jpx h3 hm)).2.2
 ·subst h3
  exact ⟨fun m hm => by simp at hm, fun m hm => by simp at hm, by simp⟩
theorem jsg : (Tryz.prog.info? 254).map (fun i => (i.zero, i.size, i.bytes)) = some (some (.agg #[iv 0, iv 0, .string ⟨#[]⟩]), 3, 32) := by kernel_rfl
theorem j2p {P : List HapD} : ∀ r ∈ P.map HapD.cs, r.length = 3 := fun r hr => by
 obtain ⟨x, _, rfl⟩ := List.mem_map.mp hr; rfl
def Zy (w : World) (base : Nat) (v : Value) (P : List HapD) : Prop := w.ownsRow base 254 3 v P.length (P.map HapD.cs).flatten
theorem Zy.add {w : World} {base : Nat} {v : Value} {P : List HapD} {p : HapD} (h : w.ownsRow base 254 3 v (P.length + 1) ((P.map HapD.cs).flatten ++ p.cs)) : Zy w base v (P ++ [p]) := by
 unfold Zy
 rw [lla, lma, List.flatten_append]
 simpa using h
def jx2 (r : RelD) (nm : ByteArray) (off : Int) (H : List HapD) (b : Bool) : Prop := ∃ s, jpr r nm s b /\ H = (jbv r.rules off s).1
end
end Go.Proofs.YtgiieknbckhofaaGreatDoor
