/- Packed. -/
import Derived.Test.YtgiieknbckhofaaGreatDoorHpPu
import Derived.Test.YtgiieknbckhofaaGreatDoorHpQu
set_option maxRecDepth 20000
set_option maxHeartbeats 20000000
set_option linter.unusedSimpArgs false
namespace Go.Proofs.YtgiieknbckhofaaGreatDoor
section
open Go.RowKit Go.Sort
def wallsA (l : List RuleD) : Nat -> List WallD
 | 0 => []
 | k + 1 => wallsA l k ++ (match l[k]? with | some x => jcj k x | none => [])
theorem jhw {l : List RuleD} {k : Nat} {x : RuleD} (hx : l[k]? = some x) : wallsA l (k + 1) = wallsA l k ++ jcj k x := by rw [wallsA, hx]
theorem jkr (l : List RuleD) : ∀ k, (wallsA l k).length <= 78 * k := by
 intro k
 induction k with
 | zero => simp [wallsA]
 | succ k ih =>
  rw [wallsA, lla]
  have AP : ∀ x, (jcj k x).length <= 78 := fun x => Nat.le_trans (jee _ _ _ _) (jrc x)
  split
  ·rename_i x _; have := AP x; omega
  ·simp; omega
theorem j1u {y m : Int} (hy : ymB y m = true) (s : ByteArray) : jbk y m s = moV y m s := by unfold jbk; rw [hy, if_pos rfl, jig hy]
theorem jwz {w : World} {hp b : Nat} {rb : Option Nat} {X : List WallD} (h : Zt w hp rb X) (hb : b = hp \/ rb = some b) : hp <= b := by
 rcases hb with e | e
 ·omega
 ·obtain ⟨a, c, _, _, h3, _, h5⟩ := h
  exact (h3.lt b (h5.trans e)).1
theorem jsc {w : World} {hp b : Nat} {rb : Option Nat} {X : List WallD} (h : Zt w hp rb X) (hb : rb = some b) : b < w.heap.size := by
 obtain ⟨a, c, _, _, h3, _, h5⟩ := h
 exact (h3.lt b (h5.trans hb)).2
theorem jje (l : List RuleD) (a : Option Addr) (ca : Nat) (w : World) (hA : Za w a 9 (l.map RuleD.cs)) (hT : Tab w) (gM : Mx w) (hr : ∀ x ∈ l, Jo x) (hl : l.length <= 40) (dn : ∀ x ∈ l, x.on.size <= 8000) :
  Cl 292 #[.slice a l.length ca] w fun e W' => ∃ rb X, e = .returned (.pointer (some (ad w.heap.size 0))) /\ Zt W' w.heap.size rb X /\ jc4 X /\ X.Perm (wallsA l l.length) /\ Bw w W' := by
 have jM := hid hr
 have tr := hid dn
 clear hr dn
 have H0 : Zt (w.alloc (.cells #[nS] 343)) w.heap.size none [] := ⟨none, 0, by simp [go_sem], by simp [go_sem], World.ownsRow_nil _ _ _ _, by simp [Value.ownBlock], rfl⟩
 have X0 : Hid (jc4 []) := fun i p c _ hp => by simp at hp
 go_enter Tryz.func292, Tryz.ntmps292
 go_wp2
 go_loopw [12] (fun rf wr => ∃ (k : Nat) (rb : Option Nat) (X : List WallD), k <= l.length /\ rf = iv k /\ Zt wr w.heap.size rb X /\ Hid (jc4 X) /\ Hid (X.Perm (wallsA l k)) /\ Bw w wr) (fun rf _ => l.length - (intOf rf).toNat)
 case atStart => exact ⟨0, none, [], by omega, rfl, H0, X0, List.Perm.refl _, qal _ _⟩
 case round =>
  clear H0 X0
  obtain ⟨k, rb, X, hk, rfl, hH, HX, HP, aM⟩ := hrel
  have dB := aM.size
  have au := jkr l k
  by_cases hlt : k < l.length
  ·obtain ⟨x, hx⟩ := qgg hlt
   have mj := jM.out x (lmg hx)
   have Cy := tr.out x (lmg hx)
   obtain ⟨b9, o9, rfl, hc⟩ := (hA.below aM).at (i := k) (r := x.cs) (by rw [lgm, hx]; rfl)
   have c0 : wr.cell? (ad b9 (o9 + k * 9)) = some (.string x.name) := hc 0 _ rfl
   have c1 := hc 1 _ rfl
   have c2 := hc 2 _ rfl
   have c3 := hc 3 _ rfl
   have c4 := hc 4 _ rfl
   have c5 := hc 5 _ rfl
   have c6 := hc 6 _ rfl
   have c7 := hc 7 _ rfl
   have c8 := hc 8 _ rfl
   clear hc
   have HT : Hid (wallsA l (k + 1) = wallsA l k ++ jcj k x) := jhw hx
   obtain ⟨L, hL⟩ := qeb (wallsA l k)
   rw [hL] at HT HP au
   clear hL hx
   obtain ⟨ya, vP⟩ := qeb (max x.lo 1960)
   obtain ⟨ye, vQ⟩ := qeb (min x.hi 2037)
   have Oc : 1960 <= ya := by omega
   have Od : ye <= 2037 := by omega
   have IP : Hid (∀ n : Nat, ¬ ya + n <= ye -> ya + n <= ye + 1 \/ n = 0 -> jcj k x = wallsN k x ya n) := fun n h1 h2 => by
    unfold jcj yrs
    rw [vP, vQ]
    congr 1
    omega
   have jr := qal wr (.cells #[.string x.name, iv x.lo, iv x.hi, iv x.month, .string x.on, iv x.at_, .string x.of, iv x.save, .string x.letter] 142)
   have aT := hH.below jr
   have B1 : Bw w (wr.alloc (.cells #[.string x.name, iv x.lo, iv x.hi, iv x.month, .string x.on, iv x.at_, .string x.of, iv x.save, .string x.letter] 142)) := aM.alloc dB _
   have qT : rb ≠ some wr.heap.size := fun e => by have := jsc hH e; omega
   have lJ : w.heap.size < wr.heap.size := by obtain ⟨_, _, h1, _⟩ := hH; exact qbl h1
   have kP : (wr.alloc (.cells #[.string x.name, iv x.lo, iv x.hi, iv x.month, .string x.on, iv x.at_, .string x.of, iv x.save, .string x.letter] 142)).heap.size = wr.heap.size + 1 := by simp
   obtain ⟨e1, e2, e3, e4, e5⟩ : (fun z : World => z.cell? (ad wr.heap.size 1) = some (iv x.lo) /\ z.cell? (ad wr.heap.size 2) = some (iv x.hi) /\ z.cell? (ad wr.heap.size 3) = some (iv x.month) /\ z.cell? (ad wr.heap.size 4) = some (.string x.on) /\ z.cell? (ad wr.heap.size 5) = some (iv x.at_)) (wr.alloc (.cells #[.string x.name, iv x.lo, iv x.hi, iv x.month, .string x.on, iv x.at_, .string x.of, iv x.save, .string x.letter] 142)) := by simp [go_sem]
   have nM : Hid (X.Perm (L ++ wallsN k x ya 0)) := by rw [show L ++ wallsN k x ya 0 = L from List.append_nil _]; exact HP
   go_wp2
   obtain ⟨wB, ja⟩ := qeb ((wr.alloc (.cells #[.string x.name, iv x.lo, iv x.hi, iv x.month, .string x.on, iv x.at_, .string x.of, iv x.save, .string x.letter] 142)))
   obtain ⟨bx, eQ⟩ := qeb wr.heap.size
   rw [ja] at aT B1 kP e1 e2 e3 e4 e5 ⊢
   rw [eQ] at kP e1 e2 e3 e4 e5 qT lJ ⊢
   clear ja eQ hH aM dB jr c0 c1 c2 c3 c4 c5 c6 c7 c8 HP
   go_loopw [6] (fun s6 wq => ∃ (n : Nat) (rq : Option Nat) (Y : List WallD), s6 = iv (ya + n) /\ (ya + n <= ye + 1 \/ n = 0) /\ Zt wq w.heap.size rq Y /\ Hid (jc4 Y) /\ Hid (Y.Perm (L ++ wallsN k x ya n)) /\ rq ≠ some bx /\ bx < wq.heap.size /\ (wq.cell? (ad bx 2) = some (iv x.hi) /\ wq.cell? (ad bx 3) = some (iv x.month) /\ wq.cell? (ad bx 4) = some (.string x.on) /\ wq.cell? (ad bx 5) = some (iv x.at_)) /\ Bw w wq) (fun s6 _ => (ye + 1 - intOf s6).toNat)
   case atStart => exact ⟨0, rb, X, by simp, .inr rfl, aT, HX, nM, qT, by omega, ⟨e2, e3, e4, e5⟩, B1⟩
   case round =>
    obtain ⟨n, rq, Y, rfl, sW, ut, xt, xk, nq, bg, ⟨q2, q3, q4, q5⟩, Bq⟩ := hrel
    clear aT qT B1 kP e1 e2 e3 e4 e5 nM HX
    have j9 := Bq.size
    have vM := jee k x ya n
    have kG : Y.length <= 4000 := by rw [xk.out.length_eq, lla]; have := jrc x; rcases sW with e | e <;> omega
    by_cases hy : ya + n <= ye
    ·have mT : ymB (ya + n) x.month = true := jyc (by omega) (by omega) mj.month.1 mj.month.2
     have hO := fun w (h1 : Tab w) (h2 : Mx w) => jtz (ya + n) x.month x.on w h1 h2 Cy
     rw [j1u mT] at hO
     have oB := j18 (s := x.on) mT
     have Ky := mj.at_.1
     have ie := mj.at_.2
     by_cases hd : moV (ya + n) x.month x.on = -1000000
     ·have HW : Hid (wallsN k x ya (n + 1) = wallsN k x ya n) := by simp only [Hid]; rw [wallsN, jm1 hd, List.append_nil]
      rw [hd] at hO
      clear hd oB mT
      go_wp2_with fail
      refine (hO _ (hT.of_below Bq) (gM.of_below Bq)).mono ?_
      rintro e w3 ⟨rfl, av⟩
      have Q2 := jaa av q2
      have Q3 := jaa av q3
      have Q4 := jaa av q4
      have Q5 := jaa av q5
      have j7 := av.size
      have eB := ut.below av
      have B3 := Bq.trans (av.mono j9)
      clear av q2 q3 q4 q5 ut
      go_wp2
      go_roundw
      case rel => exact ⟨n + 1, rq, Y, by congr 1; omega, .inl (by omega), eB, xt, by rw [HW.out]; exact xk, nq, by omega, ⟨Q2, Q3, Q4, Q5⟩, B3⟩
      case measure => simp [intOf]; omega
     ·have HW : Hid (wallsN k x ya (n + 1) = wallsN k x ya n ++ [⟨moV (ya + n) x.month x.on * 86400 + x.at_, k⟩]) := by simp only [Hid]; rw [wallsN, jkn hd, Int.mul_comm]
      have BU := oB.resolve_left hd
      have gd : (moV (ya + n) x.month x.on != -1000000) = true := by simpa using hd
      generalize moV (ya + n) x.month x.on = dy at *
      have EQ : Hid (∀ Z : List WallD, Z.Perm (Y ++ [⟨dy * 86400 + x.at_, k⟩]) -> Z.Perm (L ++ wallsN k x ya (n + 1))) := fun Z hZ => by
       rw [HW.out, <- List.append_assoc]
       exact hZ.trans (xk.out.append_right _)
      have Kn := fun w h => jom Y ⟨dy * 86400 + x.at_, k⟩ w.heap.size rq w h xt.out kG
      have uN := fun (w4 : World) h => jom Y ⟨dy * 86400 + x.at_, k⟩ w.heap.size rq w4 h xt.out kG
      simp only [WallD.v] at uN
      clear hd oB mT HW Kn
      go_wp2_with fail
      refine (hO _ (hT.of_below Bq) (gM.of_below Bq)).mono ?_
      rintro e w3 ⟨rfl, av⟩
      have Q2 := jaa av q2
      have Q3 := jaa av q3
      have Q4 := jaa av q4
      have Q5 := jaa av q5
      have j7 := av.size
      have eB := ut.below av
      have B3 := Bq.trans (av.mono j9)
      clear av q2 q3 q4 q5 ut
      go_wp2_with fail
      refine (uN _ eB).mono ?_
      rintro e w4 ⟨rfl, ⟨Z, rz, hZ, Gh, Gg, Lj⟩, fr⟩
      have nS : ¬ (bx = w.heap.size \/ rq = some bx) := fun e => by
       rcases e with e | e
       ·omega
       ·exact nq e
      have R2 := fr.cell (b := bx) (o := 2) nS Q2
      have R3 := fr.cell (b := bx) (o := 3) nS Q3
      have R4 := fr.cell (b := bx) (o := 4) nS Q4
      have R5 := fr.cell (b := bx) (o := 5) nS Q5
      have mP := fr.size
      have B4 : Bw w w4 := B3.trans (fr.below (fun b hb => jwz eB hb) (by omega))
      have nz : rz ≠ some bx := fun e => by
       rcases Lj with e2 | ⟨k2, eU, e2⟩
       ·exact nq (e2 ▸ e)
       ·rw [e2] at e; injection e with e; omega
      have IU := hid Gh
      have IT : Hid (Z.Perm (L ++ wallsN k x ya (n + 1))) := EQ.out Z Gg
      clear fr eB Q2 Q3 Q4 Q5 Gh Gg EQ
      go_wp2
      go_roundw
      case rel => exact ⟨n + 1, rz, Z, by congr 1; omega, .inl (by omega), hZ, IU, IT, nz, by omega, ⟨R2, R3, R4, R5⟩, B4⟩
      case measure => simp [intOf]; omega
    ·have HE : Hid (Y.Perm (wallsA l (k + 1))) := by simp only [Hid]; rw [HT.out, IP.out n (by omega) sW]; exact xk.out
     go_wp2
     go_roundw
     case rel => exact ⟨k + 1, rq, Y, by omega, by go_num, ut, xt, HE, Bq⟩
     case measure => simp [intOf]; omega
  ·obtain rfl : k = l.length := by omega
   go_wp2
   go_ret
   exact ⟨rb, X, rfl, hH, HX.out, HP.out, aM⟩
end
section
open Go.RowKit Go.Sort
theorem jc7 {S : Nat -> Prop} {w w' : World} {base : Nat} {e : TypeId} {size : Nat} {v : Value} {n : Nat} {xs : List Value} (h : w.ownsRow base e size v n xs) (hf : Fr S w w') (hs : ∀ b, v.ownBlock = some b -> ¬ S b) : w'.ownsRow base e size v n xs := by
 refine ⟨h.1, ?_⟩
 rcases h.2 with h | ⟨g, cap, cur, rfl, e2, e3, e4⟩
 ·exact .inl h
 ·exact .inr ⟨g, cap, cur, rfl, e2, (hf.block g (Array.getElem?_eq_some_iff.1 e3).1 (hs g rfl)).trans e3, e4⟩
theorem jmh {S : Nat -> Prop} {w w' : World} {hp : Nat} {rb : Option Nat} {X : List WallD} (h : Zt w hp rb X) (hf : Fr S w w') (h1 : ¬ S hp) (h2 : ∀ b, rb = some b -> ¬ S b) : Zt w' hp rb X := by
 obtain ⟨a, c, c1, c2, c3, c4, c5⟩ := h
 exact ⟨a, c, hf.cell h1 c1, (hf.frozen (qbl c1) h1).trans c2, jc7 c3 hf (fun b hb => h2 b (c5.symm.trans hb)), c4, c5⟩
theorem Zt.lt_row {w : World} {hp g : Nat} {X : List WallD} (h : Zt w hp (some g) X) : g < w.heap.size := jsc h rfl
theorem jt0 {w : World} {hp n : Nat} {rb : Option Nat} {X : List WallD} (h : Zt w hp rb X) (hn : X.length = n + 1) : ∃ g cap, w.cell? (ad hp 0) = some (so g (n + 1) cap) /\ w.frozen? (ad hp 0) = false /\ Zi w hp (so g (n + 1) cap) X /\ hp ≠ g /\ rb = some g /\ n + 1 <= cap := by
 obtain ⟨a, c, c1, c2, c3, c4, c5⟩ := h
 have xD := c3
 unfold Zi at xD
 rw [hn] at c1 c3 c4 c5 xD
 rcases xD.2 with ⟨_, h0⟩ | ⟨g, cap, cur, e, _, _, hc, _⟩
 ·omega
 ·injection e with e1 e2 e3
  subst e1 e3
  exact ⟨g, c, c1, c2, c3, fun e => c4 (by rw [e]; rfl), c5.symm, hc⟩
theorem jt7 {l : List RuleD} {off : Int} {D : List WallD} {m : WallD} {x : RuleD} (hx : l[m.place]? = some x) : jbx l off (D ++ [m]) = ((jbx l off D).1 ++ [jd9 x m.wall off (jbx l off D).2], x.save) := by
 unfold jbx
 rw [List.foldl_append]
 show jdk l off _ m = _
 unfold jdk
 rw [hx]
theorem jf0 {l : List RuleD} (hl : ∀ x ∈ l, Jo x) {m : WallD} : ∀ {k : Nat}, m ∈ wallsA l k -> m.place < k /\ -100000000000 <= m.wall /\ m.wall <= 300000000000 := by
 intro k
 induction k with
 | zero => intro h; simp [wallsA] at h
 | succ k ih =>
  intro h
  rw [wallsA, List.mem_append] at h
  rcases h with h | h
  ·obtain ⟨h2, h3⟩ := ih h
   exact ⟨by omega, h3⟩
  ·split at h
   ·rename_i x hx
    by_cases hy : yrs x = 0
    ·unfold jcj at h; rw [hy] at h; simp [wallsN] at h
    ·obtain ⟨p1, p2⟩ := jkq (hl x (lmg hx)) (by omega) (by unfold yrs at *; omega) h
     exact ⟨by omega, p2⟩
   ·simp at h
def jx3 (l : List RuleD) (off : Int) (H : List HapD) (b : Bool) : Prop := ((wallsA l l.length).length <= 2000 /\ b = true /\ ∃ P : List WallD, P.Pairwise LeW /\ P.Perm (wallsA l l.length) /\ H = (jbx l off P).1) \/ (¬ (wallsA l l.length).length <= 2000 /\ b = false /\ H = [])
structure PopS (l : List RuleD) (D X : List WallD) : Prop where
 up : D.Pairwise LeW
 all : ∀ d ∈ D, ∀ y ∈ X, LeW d y
 perm : (D ++ X).Perm (wallsA l l.length)
theorem jy5 {l : List RuleD} {D X Y : List WallD} {m : WallD} (h : PopS l D X) (hP : X.Perm (m :: Y)) (hm : ∀ y ∈ Y, LeW m y) : PopS l (D ++ [m]) Y := by
 refine ⟨List.pairwise_append.mpr ⟨h.up, by simp, fun d hd y hy => ?_⟩, fun d hd y hy => ?_, ?_⟩
 ·simp at hy; subst hy
  exact h.all d hd y (hP.mem_iff.mpr (by simp))
 ·rcases List.mem_append.mp hd with e | e
  ·exact h.all d e y (hP.mem_iff.mpr (lmc _ hy))
  ·simp at e; subst e; exact hm y hy
 ·rw [List.append_assoc]
  exact (List.Perm.append_left D hP.symm).trans h.perm
theorem jqs (l : List RuleD) (a : Option Addr) (ca : Nat) (off : Int) (w : World) (hA : Za w a 9 (l.map RuleD.cs)) (hT : Tab w) (gM : Mx w) (hr : ∀ x ∈ l, Jo x) (hl : l.length <= 40) (dn : ∀ x ∈ l, x.on.size <= 8000) (f1 : -86400 <= off) (f2 : off <= 86400) :
  Cl 276 #[.slice a l.length ca, iv off] w fun e W' => ∃ v' H b, e = .returned (.tuple #[v', .bool b]) /\ Zx W' w.heap.size v' H /\ jx3 l off H b /\ Bw w W' := by
 obtain ⟨i0, hi, aH, aI, aG⟩ := info_parts jr8
 have jM := hid hr
 have hH := jje l a ca w hA hT gM hr hl dn
 have uV := jkr l l.length
 clear hr dn hT gM
 go_enter Tryz.func276, Tryz.ntmps276
 go_wp2_with fail
 refine hH.mono ?_
 rintro e w1 ⟨rb, X, rfl, hB, hX, xQ, hb1⟩
 have jo := xQ.length_eq
 have aF : ∃ a c, w1.cell? (ad w.heap.size 0) = some (.slice a X.length c) := by obtain ⟨a, c, h, _⟩ := hB; exact ⟨a, c, h⟩
 obtain ⟨a1, c1, aY⟩ := aF
 by_cases h2 : (wallsA l l.length).length <= 2000
 ·have xm : Hid (PopS l [] X) := ⟨List.Pairwise.nil, fun d hd => by simp at hd, xQ⟩
  have EY := hid hX
  have se : X.length <= 2000 := by omega
  have HW := hid h2
  have Fp : ¬ (2000 : Int) < (X.length : Int) := by omega
  clear hX xQ jo uV hH h2
  go_wp2
  go_loopw [7, 8] (fun s7 s8 wr => ∃ (rb : Option Nat) (D X : List WallD) (a7 : Option Addr) (n7 c7 : Nat), s7 = .slice a7 n7 c7 /\ s8 = iv (jbx l off D).2 /\ Zt wr w.heap.size rb X /\ Hid (jc4 X) /\ Hid (PopS l D X) /\ X.length <= 2000 /\ D.length + X.length <= 2000 /\ Zx wr w.heap.size (.slice a7 n7 c7) (jbx l off D).1 /\ (∀ b, (Value.slice a7 n7 c7).ownBlock = some b -> b ≠ w.heap.size /\ rb ≠ some b) /\ Bw w wr) (fun _ _ wr => match wr.cell? (ad w.heap.size 0) with | some (.slice _ n _) => n | _ => 0)
  case atStart => exact ⟨rb, [], X, none, 0, 0, rfl, rfl, hB, EY, xm, se, by simpa using se, World.ownsRow_nil _ _ _ _, fun b hb => by simp [Value.ownBlock] at hb, hb1⟩
  case round =>
   clear hB xm EY se hb1 aY Fp
   obtain ⟨rb, D, X, a7, n7, c7, rfl, rfl, hB, HX, HS, BP, Pw, ai, qK, aM⟩ := hrel
   have dB := aM.size
   have oO : -7200 <= (jbx l off D).2 /\ (jbx l off D).2 <= 7200 := by
    have := jk6 (off := off) (s := D) (l := l) (fun m hm => (jf0 jM.out (HS.out.perm.mem_iff.mp (List.mem_append_left _ hm))).1) (fun x hx => (jM.out x hx).save) D.length (nlr _)
    rw [List.take_length] at this
    exact this
   have js : (jbx l off D).1.length = D.length := by
    have := jo0 (off := off) (s := D) (l := l) (fun m hm => (jf0 jM.out (HS.out.perm.mem_iff.mp (List.mem_append_left _ hm))).1) D.length (nlr _)
    rw [List.take_length] at this
    exact this
   by_cases mO : X.length = 0
   ·have uW : X = [] := List.length_eq_zero_iff.mp mO
    subst uW
    obtain ⟨a2, c2, cY, _⟩ := hB
    have HR : Hid (jx3 l off (jbx l off D).1 true) := .inl ⟨HW.out, rfl, D, HS.out.up, by have := HS.out.perm; rw [List.append_nil] at this; exact this, rfl⟩
    clear HS HX oO js
    generalize jbx l off D = F at *
    go_wp2
    exact bpr (v := .tuple #[.slice a7 n7 c7, .bool true]) (by simp [results, Tryz.results276, go_sem]) rfl ⟨_, _, true, rfl, ai, HR.out, aM⟩
   ·obtain ⟨n, hn⟩ : ∃ n, X.length = n + 1 := ⟨X.length - 1, by omega⟩
    obtain ⟨g, cap, c2, c3, c4, az, hrb, eS⟩ := jt0 hB hn
    have QT := jz0 X n w.heap.size g cap wr c2 c3 c4 hn az HX.out (by omega) eS
    have GP : (0 : Int) < (n : Int) + 1 := by omega
    have HN := hid hn
    clear hn hB mO
    simp only [WallD.v] at QT
    go_wp2_with fail
    refine QT.mono ?_
    rintro e w2 ⟨m, Y, rfl, Gc, BQ, Gd, kG, d1, d2, d3, fr⟩
    have Gs := (c4.lt g rfl)
    have Ln := qbl c2
    have jW : Hid (PopS l (D ++ [m]) Y) := jy5 HS.out BQ Gd
    have yY := hid Gc
    obtain ⟨gE, Qy, Qz⟩ := jf0 jM.out (HS.out.perm.mem_iff.mp (List.mem_append_right _ (BQ.mem_iff.mpr (by simp : m ∈ m :: Y))))
    obtain ⟨x, hx⟩ : ∃ x, l[m.place]? = some x := ⟨_, lgg gE⟩
    have ao : Bw w w2 := aM.trans (fr.below (fun b hb => by rcases hb with e | e <;> omega) (by omega))
    have ax : Zx w2 w.heap.size (.slice a7 n7 c7) (jbx l off D).1 := jc7 ai fr (fun b hb hs => by
     obtain ⟨q1, q2⟩ := qK b hb
     rcases hs with e | e
     ·exact q1 e
     ·exact q2 (by rw [e]; exact hrb))
    have lN : Zt w2 w.heap.size (some g) Y := jmg (cap := cap) (by rw [kG]; exact d1) d2 (by rw [kG]; exact d3) az
    have il : ∀ b, (Value.slice a7 n7 c7).ownBlock = some b -> b ≠ w.heap.size /\ b ≠ g := fun b hb => ⟨(qK b hb).1, fun e => (qK b hb).2 (by rw [e]; exact hrb)⟩
    have hF := jt7 (off := off) (D := D) hx
    have HF := hid hF
    obtain ⟨b9, o9, rfl, hc⟩ := (hA.below ao).at (i := m.place) (r := x.cs) (by rw [lgm, hx]; rfl)
    have ik := qal w2 (.cells #[iv m.wall, iv m.place] 345)
    have OD : (w2.alloc (.cells #[iv m.wall, iv m.place] 345)).cell? (ad b9 (o9 + m.place * 9)) = some (.string x.name) := jaa ik (hc 0 _ rfl)
    have OE : (w2.alloc (.cells #[iv m.wall, iv m.place] 345)).cell? (ad b9 (o9 + m.place * 9 + 1)) = some (iv x.lo) := jaa ik (hc 1 _ rfl)
    have IZ : (w2.alloc (.cells #[iv m.wall, iv m.place] 345)).cell? (ad b9 (o9 + m.place * 9 + 2)) = some (iv x.hi) := jaa ik (hc 2 _ rfl)
    have xD : (w2.alloc (.cells #[iv m.wall, iv m.place] 345)).cell? (ad b9 (o9 + m.place * 9 + 3)) = some (iv x.month) := jaa ik (hc 3 _ rfl)
    have OF : (w2.alloc (.cells #[iv m.wall, iv m.place] 345)).cell? (ad b9 (o9 + m.place * 9 + 4)) = some (.string x.on) := jaa ik (hc 4 _ rfl)
    have OG : (w2.alloc (.cells #[iv m.wall, iv m.place] 345)).cell? (ad b9 (o9 + m.place * 9 + 5)) = some (iv x.at_) := jaa ik (hc 5 _ rfl)
    have OH : (w2.alloc (.cells #[iv m.wall, iv m.place] 345)).cell? (ad b9 (o9 + m.place * 9 + 6)) = some (.string x.of) := jaa ik (hc 6 _ rfl)
    have OI : (w2.alloc (.cells #[iv m.wall, iv m.place] 345)).cell? (ad b9 (o9 + m.place * 9 + 7)) = some (iv x.save) := jaa ik (hc 7 _ rfl)
    have OJ : (w2.alloc (.cells #[iv m.wall, iv m.place] 345)).cell? (ad b9 (o9 + m.place * 9 + 8)) = some (.string x.letter) := jaa ik (hc 8 _ rfl)
    obtain ⟨⟨F, sv⟩, Bi⟩ := qeb (jbx l off D)
    rw [Bi] at HF ax oO js
    rw [Bi]
    simp only at ax oO js
    have Ke : F.length <= 2000 := by omega
    clear js
    have Ku : D.length + 1 + Y.length <= 2000 := by have := HN.out; omega
    have GD : (0 : Int) <= (m.place : Int) := by omega
    have PI : (m.place : Int) < (l.length : Int) := by omega
    obtain ⟨rC, rD⟩ := oO
    clear hF Bi hc hx ai fr qK HS HX Gc BQ Gd c3 c4 d2 d3
    cases hs : (x.of.toList == [115])
    ·cases hw : (x.of.toList == [119])
     ·have HP : Hid (jd9 x m.wall off sv = ⟨m.wall, x.save, x.letter⟩) := j2n hs hw
      go_wp2_with (first
       | (at_builtin; refine wpList_append_lies _ rfl _ _ 249 rfl w.heap.size 254 i0 (.agg #[iv 0, iv 0, .string ⟨#[]⟩]) 3 32 Tryz.underlying249 hi aH aI aG rfl (by decide) _ _ _ rfl (woa (woa (woa ax _) _) _) ⟨w2.heap.size + 1 + 1, 0, none⟩ 1 1 [iv (m.wall), iv x.save, .string x.letter] rfl rfl ?c1a ?c2a (by omega) ?c3a ?c4a ?c5a _ rfl ?_)
       | fail)
      case c1a => simpa using jag ((w2.alloc (.cells #[iv m.wall, iv m.place] 345)).alloc (.cells #[.string x.name, iv x.lo, iv x.hi, iv x.month, .string x.on, iv x.at_, .string x.of, iv x.save, .string x.letter] 142)) [iv (m.wall), iv x.save, .string x.letter] 254
      case c2a => intro u hu; simp at hu; rcases hu with rfl | rfl | rfl <;> rfl
      case c3a => unfold maxLen; omega
      case c4a => omega
      case c5a => simp; have := ao.size; omega
      intro g5 eg w5 dQ af bF hlt5
      have dG := ((ik.alloc (by simp) (.cells #[.string x.name, iv x.lo, iv x.hi, iv x.month, .string x.on, iv x.at_, .string x.of, iv x.save, .string x.letter] 142)).alloc (by simp; omega) (.cells #[iv (m.wall), iv x.save, .string x.letter] 254))
      have bQ : Bw w w5 := (qtr ao dG).grown af (by have := ao.size; have := dG.size; omega) (fun k hk => (ax.lt k hk).1)
      have HO : Hid (Zx w5 w.heap.size (so g5 (F.length + 1) eg) (F ++ [⟨m.wall, x.save, x.letter⟩])) := Zx.add (p := ⟨m.wall, x.save, x.letter⟩) dQ
      have lO : Zt w5 w.heap.size (some g) Y := jmh (lN.below dG) (Fr.of_grown af) (fun e => (il _ e).1 rfl) (fun b hb e => by injection hb with hb; subst hb; exact (il _ e).2 rfl)
      have fP : w5.cell? (ad w.heap.size 0) = some (so g n cap) := af.cell (jaa dG d1) (fun e => (il _ e.symm).1 rfl)
      have r7 : w5.cell? (ad (w2.heap.size + 1) 7) = some (iv x.save) := af.cell (by simp [go_sem]) (fun e => absurd (show w2.heap.size + 1 < w2.heap.size from (ax.lt _ e.symm).2) (by omega))
      have vU : ∀ b, (so g5 (F.length + 1) eg).ownBlock = some b -> b ≠ w.heap.size /\ some g ≠ some b := fun b hb => by
       have e : g5 = b := by simpa [Value.ownBlock] using hb
       subst e
       rcases bF with hh | hh
       ·exact ⟨(il _ hh).1, fun e => by injection e with e; exact (il _ hh).2 e.symm⟩
       ·have hz := dG.size
        have hd := qbl d1
        have bU : g < w2.heap.size := (lN.lt_row)
        exact ⟨by omega, fun e => by injection e with e; omega⟩
      clear af dQ ax bF hlt5 dG lN ik
      go_wp2
      go_roundw
      case rel => exact ⟨some g, D ++ [m], Y, some (ad g5 0), F.length + 1, eg, rfl, by rw [HF.out], lO, yY, jW, by omega, by simp; omega, by rw [HF.out]; simp only; rw [HP.out]; exact HO.out, vU, bQ⟩
      case measure => rw [fP, c2]; simp
     ·have HP : Hid (jd9 x m.wall off sv = ⟨m.wall - (off + sv), x.save, x.letter⟩) := by simp only [Hid]; rw [j2m hs hw, show m.wall - off - sv = m.wall - (off + sv) by omega]
      go_wp2_with (first
       | (at_builtin; refine wpList_append_lies _ rfl _ _ 249 rfl w.heap.size 254 i0 (.agg #[iv 0, iv 0, .string ⟨#[]⟩]) 3 32 Tryz.underlying249 hi aH aI aG rfl (by decide) _ _ _ rfl (woa (woa (woa ax _) _) _) ⟨w2.heap.size + 1 + 1, 0, none⟩ 1 1 [iv (m.wall - (off + sv)), iv x.save, .string x.letter] rfl rfl ?c1b ?c2b (by omega) ?c3b ?c4b ?c5b _ rfl ?_)
       | fail)
      case c1b => simpa using jag ((w2.alloc (.cells #[iv m.wall, iv m.place] 345)).alloc (.cells #[.string x.name, iv x.lo, iv x.hi, iv x.month, .string x.on, iv x.at_, .string x.of, iv x.save, .string x.letter] 142)) [iv (m.wall - (off + sv)), iv x.save, .string x.letter] 254
      case c2b => intro u hu; simp at hu; rcases hu with rfl | rfl | rfl <;> rfl
      case c3b => unfold maxLen; omega
      case c4b => omega
      case c5b => simp; have := ao.size; omega
      intro g5 eg w5 dQ af bF hlt5
      have dG := ((ik.alloc (by simp) (.cells #[.string x.name, iv x.lo, iv x.hi, iv x.month, .string x.on, iv x.at_, .string x.of, iv x.save, .string x.letter] 142)).alloc (by simp; omega) (.cells #[iv (m.wall - (off + sv)), iv x.save, .string x.letter] 254))
      have bQ : Bw w w5 := (qtr ao dG).grown af (by have := ao.size; have := dG.size; omega) (fun k hk => (ax.lt k hk).1)
      have HO : Hid (Zx w5 w.heap.size (so g5 (F.length + 1) eg) (F ++ [⟨m.wall - (off + sv), x.save, x.letter⟩])) := Zx.add (p := ⟨m.wall - (off + sv), x.save, x.letter⟩) dQ
      have lO : Zt w5 w.heap.size (some g) Y := jmh (lN.below dG) (Fr.of_grown af) (fun e => (il _ e).1 rfl) (fun b hb e => by injection hb with hb; subst hb; exact (il _ e).2 rfl)
      have fP : w5.cell? (ad w.heap.size 0) = some (so g n cap) := af.cell (jaa dG d1) (fun e => (il _ e.symm).1 rfl)
      have r7 : w5.cell? (ad (w2.heap.size + 1) 7) = some (iv x.save) := af.cell (by simp [go_sem]) (fun e => absurd (show w2.heap.size + 1 < w2.heap.size from (ax.lt _ e.symm).2) (by omega))
      have vU : ∀ b, (so g5 (F.length + 1) eg).ownBlock = some b -> b ≠ w.heap.size /\ some g ≠ some b := fun b hb => by
       have e : g5 = b := by simpa [Value.ownBlock] using hb
       subst e
       rcases bF with hh | hh
       ·exact ⟨(il _ hh).1, fun e => by injection e with e; exact (il _ hh).2 e.symm⟩
       ·have hz := dG.size
        have hd := qbl d1
        have bU : g < w2.heap.size := (lN.lt_row)
        exact ⟨by omega, fun e => by injection e with e; omega⟩
      clear af dQ ax bF hlt5 dG lN ik
      go_wp2
      go_roundw
      case rel => exact ⟨some g, D ++ [m], Y, some (ad g5 0), F.length + 1, eg, rfl, by rw [HF.out], lO, yY, jW, by omega, by simp; omega, by rw [HF.out]; simp only; rw [HP.out]; exact HO.out, vU, bQ⟩
      case measure => rw [fP, c2]; simp
    ·have HP : Hid (jd9 x m.wall off sv = ⟨m.wall - off, x.save, x.letter⟩) := j2o hs
     go_wp2_with (first
      | (at_builtin; refine wpList_append_lies _ rfl _ _ 249 rfl w.heap.size 254 i0 (.agg #[iv 0, iv 0, .string ⟨#[]⟩]) 3 32 Tryz.underlying249 hi aH aI aG rfl (by decide) _ _ _ rfl (woa (woa (woa ax _) _) _) ⟨w2.heap.size + 1 + 1, 0, none⟩ 1 1 [iv (m.wall - off), iv x.save, .string x.letter] rfl rfl ?c1c ?c2c (by omega) ?c3c ?c4c ?c5c _ rfl ?_)
      | fail)
     case c1c => simpa using jag ((w2.alloc (.cells #[iv m.wall, iv m.place] 345)).alloc (.cells #[.string x.name, iv x.lo, iv x.hi, iv x.month, .string x.on, iv x.at_, .string x.of, iv x.save, .string x.letter] 142)) [iv (m.wall - off), iv x.save, .string x.letter] 254
     case c2c => intro u hu; simp at hu; rcases hu with rfl | rfl | rfl <;> rfl
     case c3c => unfold maxLen; omega
     case c4c => omega
     case c5c => simp; have := ao.size; omega
     intro g5 eg w5 dQ af bF hlt5
     have dG := ((ik.alloc (by simp) (.cells #[.string x.name, iv x.lo, iv x.hi, iv x.month, .string x.on, iv x.at_, .string x.of, iv x.save, .string x.letter] 142)).alloc (by simp; omega) (.cells #[iv (m.wall - off), iv x.save, .string x.letter] 254))
     have bQ : Bw w w5 := (qtr ao dG).grown af (by have := ao.size; have := dG.size; omega) (fun k hk => (ax.lt k hk).1)
     have HO : Hid (Zx w5 w.heap.size (so g5 (F.length + 1) eg) (F ++ [⟨m.wall - off, x.save, x.letter⟩])) := Zx.add (p := ⟨m.wall - off, x.save, x.letter⟩) dQ
     have lO : Zt w5 w.heap.size (some g) Y := jmh (lN.below dG) (Fr.of_grown af) (fun e => (il _ e).1 rfl) (fun b hb e => by injection hb with hb; subst hb; exact (il _ e).2 rfl)
     have fP : w5.cell? (ad w.heap.size 0) = some (so g n cap) := af.cell (jaa dG d1) (fun e => (il _ e.symm).1 rfl)
     have r7 : w5.cell? (ad (w2.heap.size + 1) 7) = some (iv x.save) := af.cell (by simp [go_sem]) (fun e => absurd (show w2.heap.size + 1 < w2.heap.size from (ax.lt _ e.symm).2) (by omega))
     have vU : ∀ b, (so g5 (F.length + 1) eg).ownBlock = some b -> b ≠ w.heap.size /\ some g ≠ some b := fun b hb => by
      have e : g5 = b := by simpa [Value.ownBlock] using hb
      subst e
      rcases bF with hh | hh
      ·exact ⟨(il _ hh).1, fun e => by injection e with e; exact (il _ hh).2 e.symm⟩
      ·have hz := dG.size
       have hd := qbl d1
       have bU : g < w2.heap.size := (lN.lt_row)
       exact ⟨by omega, fun e => by injection e with e; omega⟩
     clear af dQ ax bF hlt5 dG lN ik
     go_wp2
     go_roundw
     case rel => exact ⟨some g, D ++ [m], Y, some (ad g5 0), F.length + 1, eg, rfl, by rw [HF.out], lO, yY, jW, by omega, by simp; omega, by rw [HF.out]; simp only; rw [HP.out]; exact HO.out, vU, bQ⟩
     case measure => rw [fP, c2]; simp
 ·have Fp : (2000 : Int) < (X.length : Int) := by omega
  have HR : Hid (jx3 l off [] false) := .inr ⟨h2, rfl, rfl⟩
  clear hX xQ jo uV hH h2
  go_wp2
  exact bpr (v := .tuple #[nS, .bool false]) (by simp [results, Tryz.results276, go_sem]) rfl ⟨_, [], false, rfl, World.ownsRow_nil _ _ _ _, HR.out, hb1⟩
end
section
open Go.RowKit
theorem jpw : ∀ {a b : List WallD}, (∀ x ∈ a, ∀ y ∈ a, x.place = y.place -> x = y) -> a.Pairwise (fun x y => x.place <= y.place) -> b.Pairwise (fun x y => x.place <= y.place) -> a.Perm b -> a = b := by
 intro a
 induction a with
 | nil => intro b _ _ _ h; exact (List.nil_perm.mp h).symm
 | cons x a ih =>
  intro b hu ha hb h
  cases b with
  | nil => exact absurd h.length_eq (by simp)
  | cons y b =>
   have jQ := List.pairwise_cons.mp ha
   have sB := List.pairwise_cons.mp hb
   have fu : x.place = y.place := by
    have h1 : x ∈ y :: b := h.mem_iff.mp (by simp)
    have h2 : y ∈ x :: a := h.mem_iff.mpr (by simp)
    have e1 : y.place <= x.place := by
     rcases List.mem_cons.mp h1 with e | e
     ·rw [e]; exact nlr _
     ·exact sB.1 x e
    have e2 : x.place <= y.place := by
     rcases List.mem_cons.mp h2 with e | e
     ·rw [e]; exact nlr _
     ·exact jQ.1 y e
    omega
   have hE : x = y := hu x (by simp) y (h.mem_iff.mpr (by simp)) fu
   subst hE
   rw [ih (fun p hp q hq => hu p (lmc _ hp) q (lmc _ hq)) jQ.2 sB.2 ((List.perm_cons x).mp h)]
theorem jdz {i : Nat} {x : RuleD} {y : Int} : ∀ {n : Nat} {m : WallD}, m ∈ wallsN i x y n -> m.place = i := by
 intro n
 induction n with
 | zero => intro m h; simp [wallsN] at h
 | succ n ih =>
  intro m h
  rw [wallsN, List.mem_append] at h
  rcases h with h | h
  ·exact ih h
  ·unfold jdy at h
   split at h
   ·simp at h
   ·simp at h; rw [h]
theorem jhx {l : List RuleD} : ∀ {k : Nat} {m : WallD}, m ∈ wallsA l k -> m.place < k := by
 intro k
 induction k with
 | zero => intro m h; simp [wallsA] at h
 | succ k ih =>
  intro m h
  rw [wallsA, List.mem_append] at h
  rcases h with h | h
  ·have := ih h; omega
  ·split at h
   ·have := jdz h; omega
   ·simp at h
theorem jup (l : List RuleD) : ∀ k, (wallsA l k).Pairwise fun x y => x.place <= y.place := by
 intro k
 induction k with
 | zero => exact List.Pairwise.nil
 | succ k ih =>
  rw [wallsA, List.pairwise_append]
  refine ⟨ih, ?_, fun a ha b hb => ?_⟩
  ·split
   ·rename_i x _
    have h : ∀ m ∈ jcj k x, m.place = k := fun m hm => jdz hm
    exact List.pairwise_iff_forall_sublist.mpr fun {a b} hs => by
     have := h a (hs.subset (by simp))
     have := h b (hs.subset (by simp))
     omega
   ·exact List.Pairwise.nil
  ·have h1 := jhx ha
   split at hb
   ·have := jdz hb; omega
   ·simp at hb
theorem jvo {l : List RuleD} {P : List WallD} (hP : P.Pairwise LeW) (hp : P.Perm (wallsA l l.length)) (t : Int) : atW t P = atW t (wallsA l l.length) := by
 refine jpw (fun x hx y hy e => ?_) ?_ ?_ (hp.filter _)
 ·have h1 := odt (List.mem_filter.mp hx).2
  have h2 := odt (List.mem_filter.mp hy).2
  obtain ⟨xw, xp⟩ := x
  obtain ⟨yw, yp⟩ := y
  simp at h1 h2 e
  rw [h1, h2, e]
 ·refine List.Pairwise.imp_of_mem (fun {a b} ha hb gj => ?_) (hP.filter _)
  have h1 := odt (List.mem_filter.mp ha).2
  have h2 := odt (List.mem_filter.mp hb).2
  unfold LeW at gj
  omega
 ·exact (jup l _).filter _
def jjz (ix : List Nat) (m : WallD) : WallD := ⟨m.wall, ix[m.place]?.getD 0⟩
theorem jpk {ix : List Nat} {n k : Nat} {x : RuleD} {y : Int} (h : ix[n]? = some k) : ∀ c, (wallsN n x y c).map (jjz ix) = wallsN k x y c := by
 intro c
 induction c with
 | zero => rfl
 | succ c ih =>
  rw [wallsN, wallsN, lma, ih]
  congr 1
  unfold jdy
  split
  ·rfl
  ·simp [jjz, h]
theorem jlf (F : List RuleD) (x : RuleD) : ∀ k, k <= F.length -> wallsA (F ++ [x]) k = wallsA F k := by
 intro k
 induction k with
 | zero => intro _; rfl
 | succ k ih =>
  intro hk
  rw [wallsA, wallsA, ih (by omega), lgl (by omega)]
structure Link (l : List RuleD) (nm : ByteArray) (k : Nat) (F : List RuleD) (ix : List Nat) : Prop where
 len : F.length = ix.length
 at_ : ∀ (j i : Nat), ix[j]? = some i -> l[i]? = F[j]?
 walls : jaq nm l k = (wallsA F F.length).map (jjz ix)
theorem jzq (l : List RuleD) (nm : ByteArray) : ∀ k, k <= l.length -> ∃ ix, Link l nm k ((l.take k).filter fun x => x.name.toList == nm.toList) ix := by
 intro k
 induction k with
 | zero => intro _; exact ⟨[], by simp, fun j i h => by simp at h, by simp [jaq, wallsA]⟩
 | succ k ih =>
  intro hk
  obtain ⟨ix, hL⟩ := ih (by omega)
  obtain ⟨x, hx⟩ : ∃ x, l[k]? = some x := ⟨_, lgg (by omega)⟩
  rw [List.take_add_one, hx]
  cases hn : (x.name.toList == nm.toList)
  ·refine ⟨ix, ?_⟩
   have e : ((l.take k ++ (some x).toList).filter fun x => x.name.toList == nm.toList) = (l.take k).filter fun x => x.name.toList == nm.toList := by
    rw [List.filter_append]; simp [hn]
   rw [e]
   exact ⟨hL.len, hL.at_, by rw [jm2 hx hn]; exact hL.walls⟩
  ·obtain ⟨F, hF⟩ : ∃ F, ((l.take k).filter fun x => x.name.toList == nm.toList) = F := ⟨_, rfl⟩
   rw [hF] at hL
   have e : ((l.take k ++ (some x).toList).filter fun x => x.name.toList == nm.toList) = F ++ [x] := by
    rw [List.filter_append, hF]; simp [hn]
   rw [e]
   refine ⟨ix ++ [k], by simp [hL.len], fun j i hj => ?_, ?_⟩
   ·have eT := (lgs hj).1
    rw [lla] at eT
    simp at eT
    by_cases ju : j = ix.length
    ·subst ju
     rw [List.getElem?_append_right (nlr _)] at hj
     simp at hj
     subst hj
     rw [hx, <- hL.len, List.getElem?_append_right (nlr _)]
     simp
    ·rw [lgl (by omega)] at hj
     rw [hL.at_ j i hj, lgl (by rw [hL.len]; omega)]
   ·rw [jko hx hn, hL.walls, lla]
    show _ = (wallsA (F ++ [x]) (F.length + 1)).map _
    rw [jhw (x := x) (by simp), jlf F x _ (nlr _), lma]
    congr 1
    ·apply List.map_congr_left
     intro m hm
     have hlt := jhx hm
     unfold jjz
     rw [lgl (by rw [<- hL.len]; exact hlt)]
    ·unfold jcj
     rw [jpk (k := k)]
     rw [hL.len]
     simp
theorem jw9 {l F : List RuleD} {ix : List Nat} {off : Int} (au : F.length = ix.length) (h : ∀ (j i : Nat), ix[j]? = some i -> l[i]? = F[j]?) : ∀ (P : List WallD) (st : List HapD × Int), (∀ m ∈ P, m.place < F.length) -> (P.map (jjz ix)).foldl (jdk l off) st = P.foldl (jdk F off) st := by
 intro P
 induction P with
 | nil => intro st _; rfl
 | cons m P ih =>
  intro st hP
  have hm := hP m (by simp)
  obtain ⟨i, hi⟩ : ∃ i, ix[m.place]? = some i := ⟨_, lgg (by omega)⟩
  rw [List.map_cons, List.foldl_cons, List.foldl_cons]
  have e : jdk l off st (jjz ix m) = jdk F off st m := by
   unfold jdk jjz
   simp only [hi, Option.getD_some]
   rw [h _ _ hi]
  rw [e]
  exact ih _ fun q hq => hP q (lmc _ hq)
theorem jw2 {r : RelD} {nm : ByteArray} {off : Int} {H1 H2 : List HapD} {b1 b2 : Bool} (h1 : jx3 (r.rules.filter fun x => x.name.toList == nm.toList) off H1 b1) (h2 : jx2 r nm off H2 b2) : H1 = H2 /\ b1 = b2 := by
 obtain ⟨ix, hL⟩ := jzq r.rules nm r.rules.length (nlr _)
 rw [List.take_length] at hL
 obtain ⟨F, hF⟩ : ∃ F, (r.rules.filter fun x => x.name.toList == nm.toList) = F := ⟨_, rfl⟩
 rw [hF] at hL h1
 have au : (jaq nm r.rules r.rules.length).length = (wallsA F F.length).length := by rw [hL.walls, llm]
 obtain ⟨s, hs, rfl⟩ := h2
 rcases h1 with ⟨g1, rfl, P, hP, hp, rfl⟩ | ⟨g1, rfl, rfl⟩
 ·rcases hs with ⟨_, rfl, hS⟩ | ⟨g2, _, _⟩
  ·refine ⟨?_, rfl⟩
   have Lk : s = P.map (jjz ix) := by
    refine jve hS.up ?_ fun t => ?_
    ·exact List.pairwise_map.mpr (hP.imp fun {a b} gj => by unfold LeW at gj; show a.wall <= b.wall; omega)
    ·have e : ∀ X : List WallD, atW t (X.map (jjz ix)) = (atW t X).map (jjz ix) := fun X => by unfold atW; rw [List.filter_map]; rfl
     rw [hS.at_, hL.walls, e, e, jvo hP hp]
   rw [Lk]
   unfold jbx
   rw [jw9 hL.len hL.at_ P _ fun m hm => jhx (hp.mem_iff.mp hm)]
  ·omega
 ·rcases hs with ⟨g2, _, _⟩ | ⟨_, rfl, rfl⟩
  ·omega
  ·exact ⟨rfl, rfl⟩
end
end Go.Proofs.YtgiieknbckhofaaGreatDoor
