/- Packed. -/
import Derived.Test.YtgiieknbckhofaaGreatDoorOwn1u
set_option maxHeartbeats 20000000
set_option linter.unusedSimpArgs false
namespace Go.Proofs.YtgiieknbckhofaaGreatDoor
section
open Go.RowKit
structure WallD where
 wall : Int
 place : Nat
def WallD.cs (x : WallD) : List Value := [iv x.wall, iv x.place]
theorem jbo {l : List WallD} : ∀ r ∈ l.map WallD.cs, r.length = 2 := fun r hr => by
 obtain ⟨x, _, rfl⟩ := List.mem_map.mp hr; rfl
def atW (t : Int) (l : List WallD) : List WallD := l.filter fun x => decide (x.wall = t)
theorem atW_append (t : Int) (a b : List WallD) : atW t (a ++ b) = atW t a ++ atW t b := List.filter_append ..
theorem jco {t : Int} {x : WallD} (l : List WallD) (h : x.wall = t) : atW t (x :: l) = x :: atW t l := List.filter_cons_of_pos (by simpa using h)
theorem jeo {t : Int} {x : WallD} (l : List WallD) (h : x.wall ≠ t) : atW t (x :: l) = atW t l := List.filter_cons_of_neg (by simpa using h)
theorem jmt {t : Int} {l : List WallD} (h : ∀ x ∈ l, t < x.wall) : atW t l = [] := by
 unfold atW
 rw [List.filter_eq_nil_iff]
 intro x hx
 have := h x hx
 simp
 omega
def UpW (l : List WallD) : Prop := l.Pairwise fun a b => a.wall <= b.wall
structure Jb (l s : List WallD) : Prop where
 up : UpW s
 at_ : ∀ t, atW t s = atW t l
 len : s.length = l.length
theorem jff {l : List WallD} (h : l.length < 2) : Jb l l := by
 refine ⟨?_, fun _ => rfl, rfl⟩
 match l, h with
 | [], _ => exact List.Pairwise.nil
 | [x], _ => exact List.pairwise_singleton _ _
def jazA (x : WallD) (f : List WallD -> List WallD) : List WallD -> List WallD
 | [] => x :: f []
 | y :: b => if x.wall <= y.wall then x :: f (y :: b) else y :: jazA x f b
def jaz : List WallD -> List WallD -> List WallD
 | [], b => b
 | x :: a, b => jazA x (jaz a) b
theorem jcz (b : List WallD) : jaz [] b = b := rfl
theorem jei (a : List WallD) : jaz a [] = a := by
 induction a with
 | nil => rfl
 | cons x a ih => rw [jaz, jazA, ih]
theorem jf5 {x y : WallD} {a b : List WallD} (h : x.wall <= y.wall) : jaz (x :: a) (y :: b) = x :: jaz a (y :: b) := by rw [jaz, jazA, if_pos h]
theorem je7 {x y : WallD} {a b : List WallD} (h : ¬ x.wall <= y.wall) : jaz (x :: a) (y :: b) = y :: jaz (x :: a) b := by rw [jaz, jazA, if_neg h, jaz]
theorem jns : ∀ {n : Nat} {a b : List WallD} {z : WallD}, a.length + b.length <= n -> (z ∈ jaz a b ↔ z ∈ a \/ z ∈ b) := by
 intro n
 induction n with
 | zero =>
  intro a b z h
  obtain rfl : a = [] := List.length_eq_zero_iff.mp (by omega)
  rw [jcz]; simp
 | succ n ih =>
  intro a b z h
  match a, b with
  | [], b => rw [jcz]; simp
  | x :: a, [] => rw [jei]; simp
  | x :: a, y :: b =>
   by_cases hc : x.wall <= y.wall
   ·rw [jf5 hc, List.mem_cons, ih (by simp at h ⊢; omega), List.mem_cons, List.mem_cons]
    constructor
    ·rintro (h | h | h)
     ·exact .inl (.inl h)
     ·exact .inl (.inr h)
     ·exact .inr h
    ·rintro ((h | h) | h)
     ·exact .inl h
     ·exact .inr (.inl h)
     ·exact .inr (.inr h)
   ·rw [je7 hc, List.mem_cons, ih (by simp at h ⊢; omega), List.mem_cons, List.mem_cons]
    constructor
    ·rintro (h | h | h)
     ·exact .inr (.inl h)
     ·exact .inl h
     ·exact .inr (.inr h)
    ·rintro (h | h | h)
     ·exact .inr (.inl h)
     ·exact .inl h
     ·exact .inr (.inr h)
theorem jv7 : ∀ {n : Nat} {a b : List WallD}, a.length + b.length <= n -> UpW a -> UpW b -> Jb (a ++ b) (jaz a b) := by
 intro n
 induction n with
 | zero =>
  intro a b h ha hb
  obtain rfl : a = [] := List.length_eq_zero_iff.mp (by omega)
  rw [jcz]
  exact ⟨hb, fun _ => rfl, rfl⟩
 | succ n ih =>
  intro a b h ha hb
  match a, b with
  | [], b => rw [jcz]; exact ⟨hb, fun _ => rfl, rfl⟩
  | x :: a, [] => rw [jei, List.append_nil]; exact ⟨ha, fun _ => rfl, rfl⟩
  | x :: a, y :: b =>
   have jQ := List.pairwise_cons.mp ha
   have sB := List.pairwise_cons.mp hb
   by_cases hc : x.wall <= y.wall
   ·have := ih (a := a) (b := y :: b) (by simp at h ⊢; omega) jQ.2 hb
    rw [jf5 hc]
    refine ⟨List.pairwise_cons.mpr ⟨fun z hz => ?_, this.up⟩, fun t => ?_, by simp [this.len]⟩
    ·rcases (jns (nlr _)).mp hz with e | e
     ·exact jQ.1 z e
     ·rcases List.mem_cons.mp e with e | e
      ·subst e; exact hc
      ·have := sB.1 z e; omega
    ·rw [List.cons_append]
     by_cases ht : x.wall = t
     ·rw [jco _ ht, jco _ ht, this.at_]
     ·rw [jeo _ ht, jeo _ ht, this.at_]
   ·have := ih (a := x :: a) (b := b) (by simp at h ⊢; omega) ha sB.2
    rw [je7 hc]
    refine ⟨List.pairwise_cons.mpr ⟨fun z hz => ?_, this.up⟩, fun t => ?_, by simp [this.len]; omega⟩
    ·rcases (jns (nlr _)).mp hz with e | e
     ·rcases List.mem_cons.mp e with e | e
      ·subst e; omega
      ·have := jQ.1 z e; omega
     ·exact sB.1 z e
    ·by_cases ht : y.wall = t
     ·rw [jco _ ht, this.at_, atW_append, atW_append, jco _ ht, jmt (l := x :: a)]
      ·rfl
      ·intro z hz
       rcases List.mem_cons.mp hz with e | e
       ·subst e; omega
       ·have := jQ.1 z e; omega
     ·rw [jeo _ ht, this.at_, atW_append, atW_append, jeo _ ht]
theorem jm8 {l1 l2 s1 s2 : List WallD} (h1 : Jb l1 s1) (h2 : Jb l2 s2) : Jb (l1 ++ l2) (jaz s1 s2) := by
 have h := jv7 (nlr _) h1.up h2.up
 refine ⟨h.up, fun t => ?_, by rw [h.len, lla, lla, h1.len, h2.len]⟩
 rw [h.at_, atW_append, atW_append, h1.at_, h2.at_]
theorem jve : ∀ {s1 s2 : List WallD}, UpW s1 -> UpW s2 -> (∀ t, atW t s1 = atW t s2) -> s1 = s2 := by
 intro s1
 induction s1 with
 | nil =>
  intro s2 _ _ h
  cases s2 with
  | nil => rfl
  | cons y s2 => have := h y.wall; rw [jco _ rfl] at this; simp [atW] at this
 | cons x s1 ih =>
  intro s2 h1 h2 h
  have Fn := List.pairwise_cons.mp h1
  cases s2 with
  | nil => have := h x.wall; rw [jco _ rfl] at this; simp [atW] at this
  | cons y s2 =>
   have se := List.pairwise_cons.mp h2
   have hw : x.wall = y.wall := by
    rcases Int.lt_trichotomy x.wall y.wall with e | e | e
    ·have := h x.wall
     rw [jco _ rfl, jmt (l := y :: s2)] at this
     ·cases this
     ·intro z hz
      rcases List.mem_cons.mp hz with e2 | e2
      ·subst e2; exact e
      ·have := se.1 z e2; omega
    ·exact e
    ·have := h y.wall
     rw [jco (x := y) _ rfl, jmt (l := x :: s1)] at this
     ·cases this
     ·intro z hz
      rcases List.mem_cons.mp hz with e2 | e2
      ·subst e2; exact e
      ·have := Fn.1 z e2; omega
   have fu := h x.wall
   rw [jco _ rfl, jco _ hw.symm] at fu
   injection fu with e1 e2
   subst e1
   rw [ih Fn.2 se.2 fun t => ?_]
   have := h t
   by_cases ht : x.wall = t
   ·rw [jco _ ht, jco _ ht] at this
    injection this
   ·rw [jeo _ ht, jeo _ ht] at this
    exact this
end
section
open Go.RowKit
theorem jr5 : (Tryz.prog.info? 285).map (fun i => (i.zero, i.size, i.bytes)) = some (some (.agg #[iv 0, iv 0]), 2, 16) := by kernel_rfl
def Zn (w : World) (base : Nat) (v : Value) (P : List WallD) : Prop := w.ownsRow base 285 2 v P.length (P.map WallD.cs).flatten
theorem Zn.add {w : World} {base : Nat} {v : Value} {P : List WallD} {p : WallD} (h : w.ownsRow base 285 2 v (P.length + 1) ((P.map WallD.cs).flatten ++ p.cs)) : Zn w base v (P ++ [p]) := by
 unfold Zn
 rw [lla, lma, List.flatten_append]
 simpa using h
theorem Zn.seq {w : World} {base : Nat} {v : Value} {P : List WallD} (h : Zn w base v P) : ∃ a cap, v = .slice a P.length cap /\ Za w a 2 (P.map WallD.cs) /\ P.length <= cap := by
 obtain ⟨a, cap, h1, h2, h3⟩ := jbc (rows := P.map WallD.cs) (by rw [llm]; exact h) jbo
 rw [llm] at h1 h3
 exact ⟨a, cap, h1, h2, h3⟩
def jc2 (w : World) (v : Value) (l : List WallD) : Prop := ∃ a cap, v = .slice a l.length cap /\ l.length <= cap /\ Za w a 2 (l.map WallD.cs)
theorem Zn.walls {w : World} {base : Nat} {v : Value} {P : List WallD} (h : Zn w base v P) : jc2 w v P := by
 obtain ⟨a, cap, h1, h2, h3⟩ := h.seq
 exact ⟨a, cap, h1, h3, h2⟩
theorem jyq {l : List WallD} {k : Nat} {s1 s2 : List WallD} (h1 : Jb (l.take k) s1) (h2 : Jb (l.drop k) s2) : Jb l (jaz s1 s2) := by
 have := jm8 h1 h2
 rw [List.take_append_drop] at this
 exact this
set_option maxRecDepth 20000 in
theorem jna (N : Nat) : ∀ (l : List WallD) (v : Value) (w : World), l.length <= N -> l.length <= 4000 -> jc2 w v l ->
  Cl 258 #[v] w fun e W' => ∃ v' s, e = .returned v' /\ jc2 W' v' s /\ Jb l s /\ Bw w W' := by
 induction N with
 | zero =>
  intro l v w h0 _ hv
  obtain ⟨a, cap, rfl, eS, hA⟩ := hv
  have HR : Hid (Jb l l) := jff (by omega)
  have HA : Hid (jc2 w (.slice a l.length cap) l) := ⟨a, cap, rfl, eS, hA⟩
  go_enter Tryz.func258, Tryz.ntmps258
  go_wp2
  go_ret
  exact ⟨_, l, rfl, HA.out, HR.out, brf _ _⟩
 | succ N ih =>
  intro l v w h0 h4 hv
  obtain ⟨a, cap, rfl, eS, hA⟩ := hv
  by_cases h2 : l.length < 2
  ·have HR : Hid (Jb l l) := jff h2
   have HA : Hid (jc2 w (.slice a l.length cap) l) := ⟨a, cap, rfl, eS, hA⟩
   go_enter Tryz.func258, Tryz.ntmps258
   go_wp2
   go_ret
   exact ⟨_, l, rfl, HA.out, HR.out, brf _ _⟩
  ·obtain ⟨i0, hi, aH, aI, aG⟩ := info_parts jr5
   obtain ⟨f, hf⟩ : ∃ f, l[0]? = some f := ⟨_, lgg (by omega)⟩
   obtain ⟨b, o, rfl, hc⟩ := hA.at (i := 0) (r := f.cs) (by rw [lgm, hf]; rfl)
   clear hc hf
   have lk : (l.take (l.length / 2)).length = l.length / 2 := by rw [List.length_take]; omega
   have ld : (l.drop (l.length / 2)).length = l.length - l.length / 2 := by rw [List.length_drop]
   have T1 : Za w (some (ad b o)) 2 ((l.take (l.length / 2)).map WallD.cs) := by rw [List.map_take]; exact hA.take _
   have T2 : Za w (some (ad b (o + l.length / 2 * 2))) 2 ((l.drop (l.length / 2)).map WallD.cs) := by rw [List.map_drop]; exact hA.drop
   have HM : Hid (∀ s1 s2, Jb (l.take (l.length / 2)) s1 -> Jb (l.drop (l.length / 2)) s2 -> Jb l (jaz s1 s2)) := fun s1 s2 h1 h2 => jyq h1 h2
   have sh := fun v w h => ih (l.take (l.length / 2)) v w (by omega) (by omega) h
   have od := fun v w h => ih (l.drop (l.length / 2)) v w (by omega) (by omega) h
   obtain ⟨l1, e1⟩ := qeb (l.take (l.length / 2))
   obtain ⟨l2, e2⟩ := qeb (l.drop (l.length / 2))
   rw [e1] at lk T1 HM sh
   rw [e2] at ld T2 HM od
   clear e1 e2 ih
   have f1 : (l1.map WallD.cs).flatten.length = l.length / 2 * 2 := by rw [jbz jbo, llm, lk]
   have f2 : (l2.map WallD.cs).flatten.length = (l.length - l.length / 2) * 2 := by rw [jbz jbo, llm, ld]
   have one : ∀ (m : List WallD) u, u ∈ (m.map WallD.cs).flatten -> u.oneCell' = true := fun m u hu => by
    obtain ⟨r, hr, hu⟩ := List.mem_flatten.mp hu
    obtain ⟨x, _, rfl⟩ := List.mem_map.mp hr
    simp [WallD.cs] at hu
    rcases hu with rfl | rfl <;> rfl
   have o1 := one l1
   have o2 := one l2
   clear one
   have HN : Hid (l.length = l1.length + l2.length) := by simp only [Hid]; omega
   have tk : ((l.length : Int) / 2).toNat = l.length / 2 := by omega
   have bk : (0 : Int) <= (l.length : Int) / 2 := by omega
   have Fe : (l.length : Int) / 2 <= (cap : Int) := by omega
   have IY : (l.length : Int) / 2 <= (l.length : Int) := by omega
   have iU : ¬ cap = l.length / 2 := by omega
   have HK : Hid (l1.length = l.length / 2 /\ l2.length = l.length - l.length / 2) := ⟨lk, ld⟩
   clear lk ld
   have n1 := T1.flat jbo
   have EU : Hid (∀ w2, Bw w w2 -> ∀ j u, (l2.map WallD.cs).flatten[j]? = some u -> w2.cell? (((ad b (o + l.length / 2 * 2)) : Addr).add j) = some u) := fun w2 hb => (T2.below hb).flat jbo
   have Hf : ∀ j u, (l1.map WallD.cs).flatten[j]? = some u -> (w.alloc (.cells #[] 285)).cell? (((ad b o) : Addr).add j) = some u := (T1.below (qal w _)).flat jbo
   have hE := ja4 w 285 2
   go_enter Tryz.func258, Tryz.ntmps258
   go_wp2_with (first
    | (at_builtin; refine wpList_append_own _ rfl _ _ 281 rfl w.heap.size 285 i0 (.agg #[iv 0, iv 0]) 2 16 Tryz.underlying281 hi aH aI aG rfl (by decide) _ _ _ rfl hE ⟨b, o, none⟩ (l.length / 2) cap (l1.map WallD.cs).flatten rfl f1 Hf o1 ?d3 ?d4 ?d5 ?_)
    | fail)
   case d3 => unfold maxLen; omega
   case d4 => omega
   case d5 => simp
   intro v1 w1 aw aR _
   have aj : Bw w w1 := (qal w _).grown aR (by simp) (fun j hj => (hE.lt j hj).1)
   have jn : jc2 w1 v1 l1 := Zn.walls (base := w.heap.size) (by unfold Zn; rw [HK.out.1]; exact aw)
   obtain ⟨a1, m1, c1, rfl⟩ := jab aw
   clear aR hE aw Hf o1 f1
   go_wp2_with fail
   refine (sh _ _ jn).mono ?_
   rintro e w2 ⟨v2, s1, rfl, su, cH, ac⟩
   have ao := qtr aj ac
   obtain ⟨a2, c2, rfl, cY, qj⟩ := su
   clear jn ac sh
   have hE := ja4 w2 285 2
   have BT : Bw w (w2.alloc (.cells #[] 285)) := ao.alloc ao.size _
   have n2 := EU.out _ BT
   go_wp2_with (first
    | (at_builtin; refine wpList_append_own _ rfl _ _ 281 rfl w2.heap.size 285 i0 (.agg #[iv 0, iv 0]) 2 16 Tryz.underlying281 hi aH aI aG rfl (by decide) _ _ _ rfl hE ⟨b, o + l.length / 2 * 2, none⟩ (l.length - l.length / 2) (cap - l.length / 2) (l2.map WallD.cs).flatten rfl f2 n2 o2 ?e3 ?e4 ?e5 ?_)
    | fail)
   case e3 => unfold maxLen; omega
   case e4 => omega
   case e5 => simp
   intro v3 w3 aJ aK _
   have av : Bw w2 w3 := (qal w2 _).grown aK (by simp) (fun j hj => (hE.lt j hj).1)
   have ay := qtr ao av
   have sw : jc2 w3 v3 l2 := Zn.walls (base := w2.heap.size) (by unfold Zn; rw [HK.out.2]; exact aJ)
   have FU := qj.below av
   obtain ⟨a3, m3, c3, rfl⟩ := jab aJ
   clear aK hE aJ n2 o2 f2 av qj
   go_wp2_with fail
   refine (od _ _ sw).mono ?_
   rintro e w4 ⟨v4, s2, rfl, Kt, et, aD⟩
   have aS := qtr ay aD
   obtain ⟨a4, c4, rfl, Gm, uR⟩ := Kt
   have FT := FU.below aD
   clear sw aD od FU EU T1 T2 n1 hA
   have HR : Hid (Jb l (jaz s1 s2)) := HM.out s1 s2 cH et
   have au : s1.length + s2.length <= 4000 := by have := cH.len; have := et.len; have := HN.out; omega
   clear HM cH et
   have hE : Zn (w4.alloc (.cells #[] 285)) w4.heap.size (.slice (some (ad w4.heap.size 0)) 0 0) [] := ja4 w4 285 2
   go_wp2
   go_loopw [4, 5, 6] (fun x4 x5 x6 wr => ∃ (aa ab : Option Addr) (ca cb na nb : Nat) (ra rb out : List WallD), x4 = .slice aa na ca /\ Hid (ra.length = na) /\ na <= ca /\ Za w4 aa 2 (ra.map WallD.cs) /\ x5 = .slice ab nb cb /\ Hid (rb.length = nb) /\ nb <= cb /\ Za w4 ab 2 (rb.map WallD.cs) /\ Zn wr w4.heap.size x6 out /\ Hid (out ++ jaz ra rb = jaz s1 s2) /\ out.length + na + nb <= 4000 /\ Bw w4 wr) (fun x4 x5 _ _ => (match x4 with | .slice _ n _ => n | _ => 0) + (match x5 with | .slice _ n _ => n | _ => 0))
   case atStart => exact ⟨a2, a4, c2, c4, _, _, s1, s2, [], rfl, rfl, cY, FT, rfl, rfl, Gm, uR, hE, rfl, by simpa using au, qal _ _⟩
   case round =>
    clear hE cY FT Gm uR au
    obtain ⟨aa, ab, ca, cb, na, nb, ra, rb, out, rfl, HA, xT, oq, rfl, HB, sD, ot, ai, HG, au, aM⟩ := hrel
    have dB := aM.size
    have eP := qtr aS aM
    obtain ⟨a6, m6, c6, rfl⟩ := jab ai
    cases hra : ra with
    | nil =>
     subst hra
     obtain rfl : na = 0 := HA.out.symm
     cases hrb : rb with
     | nil =>
      subst hrb
      obtain rfl : nb = 0 := HB.out.symm
      have HX : Hid (out = jaz s1 s2) := by
       have := HG.out
       rw [jcz, List.append_nil] at this
       exact this
      have HO : Hid (jc2 wr (.slice a6 m6 c6) (jaz s1 s2)) := by simp only [Hid]; rw [<- HX.out]; exact ai.walls
      clear HG
      go_wp2
      go_ret
      exact ⟨_, _, rfl, HO.out, HR.out, eP⟩
     | cons y gR =>
      subst hrb
      have gK : Hid ((out ++ [y]) ++ jaz [] gR = jaz s1 s2) := by
       have := HG.out
       rw [jcz] at this
       simp only [Hid]
       rw [jcz, <- this]; simp
      obtain ⟨bb, ob, rfl, qy⟩ := (ot.below aM).at (i := 0) (r := y.cs) rfl
      have pb : 0 < nb := by have := HB.out; simp at this; omega
      have eb : ((nb : Int) == 0) = false := by simp; omega
      have db : decide ((0 : Int) < (nb : Int)) = true := by simp; omega
      have J8 : decide (0 < nb) = true := by simp; omega
      have LS : (1 : Int) <= (nb : Int) := by omega
      have LT : (0 : Int) < (nb : Int) := by omega
      have J6 : wr.cell? (ad bb ob) = some (iv y.wall) := by simpa using qy 0 _ rfl
      have J7 : wr.cell? (ad bb (ob + 1)) = some (iv y.place) := by simpa using qy 1 _ rfl
      have qk : Za w4 (some (ad bb (ob + 2))) 2 (gR.map WallD.cs) := by simpa using ot.drop (m := 1)
      clear qy
      by_cases aY : cb = 1
      ·have hn : gR = [] := List.length_eq_zero_iff.mp (by have := HB.out; simp at this; omega)
       subst hn aY
       obtain rfl : nb = 1 := by omega
       clear HG
       go_wp2_with fail
       go_quiet (fail)
       go_wp2_with (first
        | (at_builtin; refine wpList_append_own _ rfl _ _ 281 rfl w4.heap.size 285 i0 (.agg #[iv 0, iv 0]) 2 16 Tryz.underlying281 hi aH aI aG rfl (by decide) _ _ _ rfl (woa ai _) ⟨wr.heap.size, 0, none⟩ 1 1 [iv y.wall, iv y.place] rfl rfl ?c1a1 ?c2a1 ?c3a1 ?c4a1 ?c5a1 ?_)
        | fail)
       case c1a1 => exact jag _ [iv y.wall, iv y.place] _
       case c2a1 => intro u hu; simp at hu; rcases hu with rfl | rfl <;> rfl
       case c3a1 => unfold maxLen; omega
       case c4a1 => omega
       case c5a1 => simp; omega
       intro v' wn ar af _
       have dv : Bw w4 wn := (Below.alloc (below_drewN aM _) (by simp; omega) _).grown af (by simp; omega) (fun j hj => (ai.lt j hj).1)
       have HO : Hid (Zn wn w4.heap.size v' (out ++ [y])) := Zn.add (p := y) ar
       obtain ⟨a7, m7, c7, rfl⟩ := jab ar
       clear af ar ai
       go_wp2
       go_roundw
       case rel => exact ⟨_, _, _, _, 0, 0, [], [], out ++ [y], rfl, rfl, xT, oq, rfl, rfl, by omega, .inl rfl, HO.out, gK, by simp; omega, dv⟩
       case measure => simp
      ·clear HG
       go_wp2_with fail
       go_quiet (fail)
       go_wp2_with (first
        | (at_builtin; refine wpList_append_own _ rfl _ _ 281 rfl w4.heap.size 285 i0 (.agg #[iv 0, iv 0]) 2 16 Tryz.underlying281 hi aH aI aG rfl (by decide) _ _ _ rfl (woa ai _) ⟨wr.heap.size, 0, none⟩ 1 1 [iv y.wall, iv y.place] rfl rfl ?c1a2 ?c2a2 ?c3a2 ?c4a2 ?c5a2 ?_)
        | fail)
       case c1a2 => exact jag _ [iv y.wall, iv y.place] _
       case c2a2 => intro u hu; simp at hu; rcases hu with rfl | rfl <;> rfl
       case c3a2 => unfold maxLen; omega
       case c4a2 => omega
       case c5a2 => simp; omega
       intro v' wn ar af _
       have dv : Bw w4 wn := (Below.alloc (below_drewN aM _) (by simp; omega) _).grown af (by simp; omega) (fun j hj => (ai.lt j hj).1)
       have HO : Hid (Zn wn w4.heap.size v' (out ++ [y])) := Zn.add (p := y) ar
       obtain ⟨a7, m7, c7, rfl⟩ := jab ar
       clear af ar ai
       go_wp2
       go_roundw
       case rel => exact ⟨_, _, _, _, 0, nb - 1, [], gR, out ++ [y], rfl, rfl, xT, oq, rfl, by have := HB.out; simp at this; simp only [Hid]; omega, by omega, qk, HO.out, gK, by simp; omega, dv⟩
       case measure => simp; omega
    | cons x ra' =>
     subst hra
     obtain ⟨ba, oa, rfl, dZ⟩ := (oq.below aM).at (i := 0) (r := x.cs) rfl
     have pa : 0 < na := by have := HA.out; simp at this; omega
     have ea : ((na : Int) == 0) = false := by simp; omega
     have da : decide ((0 : Int) < (na : Int)) = true := by simp; omega
     have P4 : decide (0 < na) = true := by simp; omega
     have Q9 : (1 : Int) <= (na : Int) := by omega
     have Qa : (0 : Int) < (na : Int) := by omega
     have OX : wr.cell? (ad ba oa) = some (iv x.wall) := by simpa using dZ 0 _ rfl
     have OY : wr.cell? (ad ba (oa + 1)) = some (iv x.place) := by simpa using dZ 1 _ rfl
     have uT : Za w4 (some (ad ba (oa + 2))) 2 (ra'.map WallD.cs) := by simpa using oq.drop (m := 1)
     clear dZ
     cases hrb : rb with
     | nil =>
      subst hrb
      obtain rfl : nb = 0 := HB.out.symm
      have gK : Hid ((out ++ [x]) ++ jaz ra' [] = jaz s1 s2) := by
       have := HG.out
       rw [jei] at this
       simp only [Hid]
       rw [jei, <- this]; simp
      by_cases aY : ca = 1
      ·have hn : ra' = [] := List.length_eq_zero_iff.mp (by have := HA.out; simp at this; omega)
       subst hn aY
       obtain rfl : na = 1 := by omega
       clear HG
       go_wp2_with fail
       go_quiet (fail)
       go_wp2_with (first
        | (at_builtin; refine wpList_append_own _ rfl _ _ 281 rfl w4.heap.size 285 i0 (.agg #[iv 0, iv 0]) 2 16 Tryz.underlying281 hi aH aI aG rfl (by decide) _ _ _ rfl (woa ai _) ⟨wr.heap.size, 0, none⟩ 1 1 [iv x.wall, iv x.place] rfl rfl ?c1b1 ?c2b1 ?c3b1 ?c4b1 ?c5b1 ?_)
        | fail)
       case c1b1 => exact jag _ [iv x.wall, iv x.place] _
       case c2b1 => intro u hu; simp at hu; rcases hu with rfl | rfl <;> rfl
       case c3b1 => unfold maxLen; omega
       case c4b1 => omega
       case c5b1 => simp; omega
       intro v' wn ar af _
       have dv : Bw w4 wn := (Below.alloc (below_drewN aM _) (by simp; omega) _).grown af (by simp; omega) (fun j hj => (ai.lt j hj).1)
       have HO : Hid (Zn wn w4.heap.size v' (out ++ [x])) := Zn.add (p := x) ar
       obtain ⟨a7, m7, c7, rfl⟩ := jab ar
       clear af ar ai
       go_wp2
       go_roundw
       case rel => exact ⟨_, _, _, _, 0, 0, [], [], out ++ [x], rfl, rfl, by omega, .inl rfl, rfl, rfl, sD, ot, HO.out, gK, by simp; omega, dv⟩
       case measure => simp
      ·clear HG
       go_wp2_with fail
       go_quiet (fail)
       go_wp2_with (first
        | (at_builtin; refine wpList_append_own _ rfl _ _ 281 rfl w4.heap.size 285 i0 (.agg #[iv 0, iv 0]) 2 16 Tryz.underlying281 hi aH aI aG rfl (by decide) _ _ _ rfl (woa ai _) ⟨wr.heap.size, 0, none⟩ 1 1 [iv x.wall, iv x.place] rfl rfl ?c1b2 ?c2b2 ?c3b2 ?c4b2 ?c5b2 ?_)
        | fail)
       case c1b2 => exact jag _ [iv x.wall, iv x.place] _
       case c2b2 => intro u hu; simp at hu; rcases hu with rfl | rfl <;> rfl
       case c3b2 => unfold maxLen; omega
       case c4b2 => omega
       case c5b2 => simp; omega
       intro v' wn ar af _
       have dv : Bw w4 wn := (Below.alloc (below_drewN aM _) (by simp; omega) _).grown af (by simp; omega) (fun j hj => (ai.lt j hj).1)
       have HO : Hid (Zn wn w4.heap.size v' (out ++ [x])) := Zn.add (p := x) ar
       obtain ⟨a7, m7, c7, rfl⟩ := jab ar
       clear af ar ai
       go_wp2
       go_roundw
       case rel => exact ⟨_, _, _, _, na - 1, 0, ra', [], out ++ [x], rfl, by have := HA.out; simp at this; simp only [Hid]; omega, by omega, uT, rfl, rfl, sD, ot, HO.out, gK, by simp; omega, dv⟩
       case measure => simp; omega
     | cons y gR =>
      subst hrb
      obtain ⟨bb, ob, rfl, qy⟩ := (ot.below aM).at (i := 0) (r := y.cs) rfl
      have pb : 0 < nb := by have := HB.out; simp at this; omega
      have eb : ((nb : Int) == 0) = false := by simp; omega
      have db : decide ((0 : Int) < (nb : Int)) = true := by simp; omega
      have J8 : decide (0 < nb) = true := by simp; omega
      have LS : (1 : Int) <= (nb : Int) := by omega
      have LT : (0 : Int) < (nb : Int) := by omega
      have J6 : wr.cell? (ad bb ob) = some (iv y.wall) := by simpa using qy 0 _ rfl
      have J7 : wr.cell? (ad bb (ob + 1)) = some (iv y.place) := by simpa using qy 1 _ rfl
      have qk : Za w4 (some (ad bb (ob + 2))) 2 (gR.map WallD.cs) := by simpa using ot.drop (m := 1)
      clear qy
      by_cases fu : x.wall <= y.wall
      ·have gK : Hid ((out ++ [x]) ++ jaz ra' (y :: gR) = jaz s1 s2) := by
        have := HG.out
        rw [jf5 fu] at this
        simp only [Hid]
        rw [<- this]; simp
       have Jw : decide (x.wall <= y.wall) = true := dte fu
       by_cases aY : ca = 1
       ·have hn : ra' = [] := List.length_eq_zero_iff.mp (by have := HA.out; simp at this; omega)
        subst hn aY
        obtain rfl : na = 1 := by omega
        clear HG
        go_wp2_with fail
        go_quiet (fail)
        go_wp2_with (first
         | (at_builtin; refine wpList_append_own _ rfl _ _ 281 rfl w4.heap.size 285 i0 (.agg #[iv 0, iv 0]) 2 16 Tryz.underlying281 hi aH aI aG rfl (by decide) _ _ _ rfl (woa ai _) ⟨wr.heap.size, 0, none⟩ 1 1 [iv x.wall, iv x.place] rfl rfl ?c1c1 ?c2c1 ?c3c1 ?c4c1 ?c5c1 ?_)
         | fail)
        case c1c1 => exact jag _ [iv x.wall, iv x.place] _
        case c2c1 => intro u hu; simp at hu; rcases hu with rfl | rfl <;> rfl
        case c3c1 => unfold maxLen; omega
        case c4c1 => omega
        case c5c1 => simp; omega
        intro v' wn ar af _
        have dv : Bw w4 wn := (Below.alloc (below_drewN aM _) (by simp; omega) _).grown af (by simp; omega) (fun j hj => (ai.lt j hj).1)
        have HO : Hid (Zn wn w4.heap.size v' (out ++ [x])) := Zn.add (p := x) ar
        obtain ⟨a7, m7, c7, rfl⟩ := jab ar
        clear af ar ai
        go_wp2
        go_roundw
        case rel => exact ⟨_, _, _, _, 0, nb, [], (y :: gR), out ++ [x], rfl, rfl, by omega, .inl rfl, rfl, HB, sD, ot, HO.out, gK, by simp; omega, dv⟩
        case measure => simp
       ·clear HG
        go_wp2_with fail
        go_quiet (fail)
        go_wp2_with (first
         | (at_builtin; refine wpList_append_own _ rfl _ _ 281 rfl w4.heap.size 285 i0 (.agg #[iv 0, iv 0]) 2 16 Tryz.underlying281 hi aH aI aG rfl (by decide) _ _ _ rfl (woa ai _) ⟨wr.heap.size, 0, none⟩ 1 1 [iv x.wall, iv x.place] rfl rfl ?c1c2 ?c2c2 ?c3c2 ?c4c2 ?c5c2 ?_)
         | fail)
        case c1c2 => exact jag _ [iv x.wall, iv x.place] _
        case c2c2 => intro u hu; simp at hu; rcases hu with rfl | rfl <;> rfl
        case c3c2 => unfold maxLen; omega
        case c4c2 => omega
        case c5c2 => simp; omega
        intro v' wn ar af _
        have dv : Bw w4 wn := (Below.alloc (below_drewN aM _) (by simp; omega) _).grown af (by simp; omega) (fun j hj => (ai.lt j hj).1)
        have HO : Hid (Zn wn w4.heap.size v' (out ++ [x])) := Zn.add (p := x) ar
        obtain ⟨a7, m7, c7, rfl⟩ := jab ar
        clear af ar ai
        go_wp2
        go_roundw
        case rel => exact ⟨_, _, _, _, na - 1, nb, ra', (y :: gR), out ++ [x], rfl, by have := HA.out; simp at this; simp only [Hid]; omega, by omega, uT, rfl, HB, sD, ot, HO.out, gK, by simp; omega, dv⟩
        case measure => simp; omega
      ·have gK : Hid ((out ++ [y]) ++ jaz (x :: ra') gR = jaz s1 s2) := by
        have := HG.out
        rw [je7 fu] at this
        simp only [Hid]
        rw [<- this]; simp
       have Jw : decide (x.wall <= y.wall) = false := dfe fu
       by_cases aY : cb = 1
       ·have hn : gR = [] := List.length_eq_zero_iff.mp (by have := HB.out; simp at this; omega)
        subst hn aY
        obtain rfl : nb = 1 := by omega
        clear HG
        go_wp2_with fail
        go_quiet (fail)
        go_wp2_with (first
         | (at_builtin; refine wpList_append_own _ rfl _ _ 281 rfl w4.heap.size 285 i0 (.agg #[iv 0, iv 0]) 2 16 Tryz.underlying281 hi aH aI aG rfl (by decide) _ _ _ rfl (woa ai _) ⟨wr.heap.size, 0, none⟩ 1 1 [iv y.wall, iv y.place] rfl rfl ?c1d1 ?c2d1 ?c3d1 ?c4d1 ?c5d1 ?_)
         | fail)
        case c1d1 => exact jag _ [iv y.wall, iv y.place] _
        case c2d1 => intro u hu; simp at hu; rcases hu with rfl | rfl <;> rfl
        case c3d1 => unfold maxLen; omega
        case c4d1 => omega
        case c5d1 => simp; omega
        intro v' wn ar af _
        have dv : Bw w4 wn := (Below.alloc (below_drewN aM _) (by simp; omega) _).grown af (by simp; omega) (fun j hj => (ai.lt j hj).1)
        have HO : Hid (Zn wn w4.heap.size v' (out ++ [y])) := Zn.add (p := y) ar
        obtain ⟨a7, m7, c7, rfl⟩ := jab ar
        clear af ar ai
        go_wp2
        go_roundw
        case rel => exact ⟨_, _, _, _, na, 0, (x :: ra'), [], out ++ [y], rfl, HA, xT, oq, rfl, rfl, by omega, .inl rfl, HO.out, gK, by simp; omega, dv⟩
        case measure => simp
       ·clear HG
        go_wp2_with fail
        go_quiet (fail)
        go_wp2_with (first
         | (at_builtin; refine wpList_append_own _ rfl _ _ 281 rfl w4.heap.size 285 i0 (.agg #[iv 0, iv 0]) 2 16 Tryz.underlying281 hi aH aI aG rfl (by decide) _ _ _ rfl (woa ai _) ⟨wr.heap.size, 0, none⟩ 1 1 [iv y.wall, iv y.place] rfl rfl ?c1d2 ?c2d2 ?c3d2 ?c4d2 ?c5d2 ?_)
         | fail)
        case c1d2 => exact jag _ [iv y.wall, iv y.place] _
        case c2d2 => intro u hu; simp at hu; rcases hu with rfl | rfl <;> rfl
        case c3d2 => unfold maxLen; omega
        case c4d2 => omega
        case c5d2 => simp; omega
        intro v' wn ar af _
        have dv : Bw w4 wn := (Below.alloc (below_drewN aM _) (by simp; omega) _).grown af (by simp; omega) (fun j hj => (ai.lt j hj).1)
        have HO : Hid (Zn wn w4.heap.size v' (out ++ [y])) := Zn.add (p := y) ar
        obtain ⟨a7, m7, c7, rfl⟩ := jab ar
        clear af ar ai
        go_wp2
        go_roundw
        case rel => exact ⟨_, _, _, _, na, nb - 1, (x :: ra'), gR, out ++ [y], rfl, HA, xT, oq, rfl, by have := HB.out; simp at this; simp only [Hid]; omega, by omega, qk, HO.out, gK, by simp; omega, dv⟩
        case measure => simp; omega
end
end Go.Proofs.YtgiieknbckhofaaGreatDoor
