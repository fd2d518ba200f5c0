/- Packed. -/
import Derived.Test.YtgiieknbckhofaaGreatDoorSBu
import Derived.Shelf.GgSortFunc.InsertionK
set_option maxHeartbeats 20000000
set_option linter.unusedSimpArgs false
namespace Go.Proofs.YtgiieknbckhofaaGreatDoor
section
open Go.RowKit
def jba (a b : EntryD) : Bool := decide (a.at_ < b.at_) || (decide (a.at_ = b.at_) && decide (a.id < b.id))
theorem jp8 {a b : EntryD} (h : a.at_ < b.at_) : jba a b = true := by unfold jba; rw [dte h]; rfl
theorem jp7 {a b : EntryD} (h : b.at_ < a.at_) : jba a b = false := by unfold jba; rw [dfe (by omega), dfe (by omega)]; rfl
theorem jp6 {a b : EntryD} (h : a.at_ = b.at_) (h2 : a.id < b.id) : jba a b = true := by unfold jba; rw [dte h, dte h2]; simp
theorem jp5 {a b : EntryD} (h : a.at_ = b.at_) (h2 : ¬ a.id < b.id) : jba a b = false := by unfold jba; rw [dfe (by omega), dfe h2]; simp
def insX : List EntryD -> EntryD -> List EntryD
 | [], e => [e]
 | x :: l, e => if jba x e = true then x :: insX l e else e :: x :: l
def jg6 (l : List EntryD) (e : EntryD) : Nat := (l.takeWhile fun x => jba x e).length
theorem jqm (l : List EntryD) (e : EntryD) : insX l e = l.take (jg6 l e) ++ [e] ++ l.drop (jg6 l e) := by
 induction l with
 | nil => rfl
 | cons a l ih =>
  unfold jg6 at *
  rw [insX]
  by_cases h : jba a e = true
  ·rw [if_pos h, ih]
   simp [h]
  ·rw [if_neg h]
   simp [h]
theorem jjv {L : List EntryD} {e : EntryD} {k : Nat} (h1 : ∀ (j : Nat) x, j < k -> L[j]? = some x -> jba x e = true) (h2 : ∀ x, L[k]? = some x -> jba x e = false) (hk : k <= L.length) : jg6 L e = k := by
 induction L generalizing k with
 | nil => simp at hk; subst hk; rfl
 | cons a L ih =>
  unfold jg6 at *
  cases k with
  | zero => have := h2 a rfl; simp [this]
  | succ k =>
   have h0 := h1 0 a (by omega) rfl
   have := ih (k := k) (fun j x hj hx => h1 (j + 1) x (by omega) (by simpa using hx)) (fun x hx => h2 x (by simpa using hx)) (by simp at hk; omega)
   simp [h0, this]
theorem jbd (L : List EntryD) (e : EntryD) : (insX L e).length = L.length + 1 := by
 induction L with
 | nil => rfl
 | cons a L ih => rw [insX]; split <;> simp [ih]
theorem jao {L : List EntryD} : ∀ r ∈ L.map EntryD.cs, r.length = 2 := fun r hr => by
 obtain ⟨x, _, rfl⟩ := List.mem_map.1 hr
 rfl
theorem jbn {L : List EntryD} : ∀ u ∈ (L.map EntryD.cs).flatten, u.oneCell' = true := fun u hu => by
 simp only [List.mem_flatten, List.mem_map] at hu
 obtain ⟨r, ⟨t, _, rfl⟩, hr⟩ := hu
 simp [EntryD.cs] at hr
 rcases hr with rfl | rfl <;> rfl
def Zl (w : World) (base : Nat) (v : Value) (L : List EntryD) : Prop := w.ownsRow base 101 2 v L.length (L.map EntryD.cs).flatten
theorem Zl.cell {w : World} {base g n cap : Nat} {L : List EntryD} (h : Zl w base (so g n cap) L) {j : Nat} {u : Value} (hu : (L.map EntryD.cs).flatten[j]? = some u) : w.cell? (ad g j) = some u := by
 have h' : w.ownsRow base 101 2 (so g n cap) L.length (L.map EntryD.cs).flatten := h
 have hl := (List.getElem?_eq_some_iff.1 hu).1
 rcases h'.2 with ⟨hv, _⟩ | ⟨g2, c2, cur, hv, _⟩
 ·cases hv
 ·injection hv with e1 e2 e3
  subst e2
  rw [h'.cellAt j (by rw [ja5 jao, llm] at hl; omega)]
  exact hu
theorem Zl.shape {w : World} {base : Nat} {v : Value} {L : List EntryD} (h : Zl w base v L) (hn : 0 < L.length) : ∃ g cap, v = so g L.length cap /\ L.length <= cap := by
 rcases h.2 with ⟨_, h0⟩ | ⟨g, cap, cur, hv, hb, hg, hc, _⟩
 ·omega
 ·exact ⟨g, cap, hv, hc⟩
set_option maxRecDepth 20000 in
theorem jh6 (L : List EntryD) (x : EntryD) (g m c base : Nat) (w : World) (hO : Zl w base (so g m c) L) (hm : L.length = m) (yd : m <= c) (hl : m <= 1000) :
  Cl 90 #[so g m c, .agg #[iv x.at_, iv x.id]] w fun e w' => ∃ g' c', e = .returned (so g' (m + 1) c') /\ m + 1 <= c' /\ Zl w' w.heap.size (so g' (m + 1) c') (insX L x) /\ Bw w w' := by
 obtain ⟨i0, hi, aH, aI, aG⟩ := jfq
 have HM := hid hm
 clear hm
 have ag : Bw w (w.alloc (.cells #[iv x.at_, iv x.id] 101)) := qal _ _
 obtain ⟨y0, y1⟩ : (fun z : World => z.cell? (ad w.heap.size 0) = some (iv x.at_) /\ z.cell? (ad w.heap.size 1) = some (iv x.id)) (w.alloc (.cells #[iv x.at_, iv x.id] 101)) := by simp [go_sem]
 have oj : Zl (w.alloc (.cells #[iv x.at_, iv x.id] 101)) base (so g m c) L := jad hO ag
 clear hO
 go_enter Tryz.func90, Tryz.ntmps90
 go_wp2
 generalize (w.alloc (.cells #[iv x.at_, iv x.id] 101)) = w0 at *
 go_loopw [5] (fun s wr => ∃ k : Nat, k <= m /\ s = iv k /\ Hid (∀ (j : Nat) y, j < k -> L[j]? = some y -> jba y x = true) /\ Bw w0 wr) (fun s _ => m + 1 - (intOf s).toNat)
 case atStart => exact ⟨0, by omega, rfl, fun j x hj => by omega, brf _ _⟩
 case round =>
  obtain ⟨wb, mS⟩ := qea wr
  subst mS
  obtain ⟨k, hk, rfl, HS, dg⟩ := hrel
  have g9 : Zl wb base (so g m c) L := jad oj dg
  have d0 := jaa dg y0
  have d1 := jaa dg y1
  have k0 : (0 : Int) <= (k : Int) := by omega
  clear oj y0 y1
  by_cases jv : k < m
  ·have k1 : (k : Int) < (m : Int) := by omega
   obtain ⟨y, hy⟩ : ∃ y, L[k]? = some y := ⟨_, lgg (by have := HM.out; omega)⟩
   have CR : (L.map EntryD.cs)[k]? = some y.cs := by rw [lgm, hy]; rfl
   have cy : wb.cell? (ad g (k * 2)) = some (iv y.at_) := g9.cell (jbh (q := 2) jao (j := 0) CR rfl)
   have cz : wb.cell? (ad g (k * 2 + 1)) = some (iv y.id) := g9.cell (jbh (q := 2) jao (j := 1) CR rfl)
   clear CR
   by_cases h1 : y.at_ < x.at_
   ·skip
    have jW : Hid (∀ (j : Nat) z, j < k + 1 -> L[j]? = some z -> jba z x = true) := fun j z hj hz => by
     by_cases e1 : j = k
     ·subst e1; rw [hy] at hz; obtain rfl := osi hz; exact jp8 h1
     ·exact HS.out j z (by omega) hz
    clear hy HS g9
    have q1 : decide (y.at_ < x.at_) = true := dte h1
    have q0 : decide ((k : Int) < (m : Int)) = true := dte k1
    go_wp2_with fail
    go_quiet (fail)
    go_wp2
    go_roundw
    case rel => exact ⟨k + 1, by omega, by go_num, jW, dg.trans ((blN wb nq).mono dg.size)⟩
    case measure => simp [intOf]; omega
   by_cases h2 : x.at_ < y.at_
   ·have h3 : (y.at_ == x.at_) = false := by simp; omega
    have HA : Hid (jg6 L x = k) := jjv HS.out (fun z hz => by rw [hy] at hz; obtain rfl := osi hz; exact jp7 h2) (by have := HM.out; omega)
    clear hy
    have q1 : decide (y.at_ < x.at_) = false := dfe h1
    have q0 : decide ((k : Int) < (m : Int)) = true := dte k1
    go_wp2_with fail
    go_quiet (fail)
    clear cy cz
    have bR : Zl (wb.drewN nq) base (so g m c) L := jad g9 (blN wb nq)
    have dw : Bw w (wb.drewN nq) := (qtr ag dg).trans ((blN wb nq).mono (qtr ag dg).size)
    have e0 := jaa (blN wb nq) d0
    have e1 := jaa (blN wb nq) d1
    clear g9 ag dg d0 d1 HS
    generalize wb.drewN nq = wq at *
    have lk : (L.take k).length = k := by rw [List.length_take, HM.out]; omega
    have ld : (L.drop k).length = m - k := by rw [List.length_drop, HM.out]
    have j5 : (L.map EntryD.cs).take k = (L.take k).map EntryD.cs := List.map_take.symm
    have j4 : (L.map EntryD.cs).drop k = (L.drop k).map EntryD.cs := List.map_drop.symm
    have t1 : ((L.take k).map EntryD.cs).flatten.length = k * 2 := by rw [ja5 jao, llm, lk]
    have t2 : ((L.drop k).map EntryD.cs).flatten.length = (m - k) * 2 := by rw [ja5 jao, llm, ld]
    have n1 : ∀ j u, ((L.take k).map EntryD.cs).flatten[j]? = some u -> (wq.alloc (.cells #[] 101)).cell? (((ad g 0) : Addr).add j) = some u := fun j u hj => by
     rw [addP, Nat.zero_add]
     exact jaa (qal wq _) (bR.cell (jfv (k := k) (by rw [j5]; exact hj)))
    have HD : Hid (∀ w2, Bw wq w2 -> ∀ j u, ((L.drop k).map EntryD.cs).flatten[j]? = some u -> w2.cell? (ad g (k * 2 + j)) = some u) := fun w2 hb j u hj => jaa hb (bR.cell (jfu jao (by rw [llm, HM.out]; omega) (by rw [j4]; exact hj)))
    have HE : Hid (insX L x = (L.take k ++ [x]) ++ L.drop k) := by simp only [Hid]; rw [jqm, HA.out]
    have hE := ja4 wq 101 2
    have k2 : (k : Int) <= (c : Int) := by omega
    have k3 : (k : Int) <= (m : Int) := by omega
    clear bR j5 j4
    go_wp2_with (first | (at_builtin; refine wpList_append_own _ rfl _ _ 40 rfl wq.heap.size 101 i0 (.agg #[iv 0, iv 0]) 2 16 Tryz.underlying40 hi aH aI aG rfl (by decide) _ _ _ rfl hE (ad g 0) k c ((L.take k).map EntryD.cs).flatten rfl t1 n1 jbn ?a3 ?a4 ?a5 ?_) | fail)
    case a3 => unfold maxLen; omega
    case a4 => omega
    case a5 => simp
    intro v1 w1 aw aR _
    have aj : Bw wq w1 := (qal wq _).grown aR (by simp) (fun j hj => (hE.lt j hj).1)
    obtain ⟨a1, m1, x1, rfl⟩ := jab aw
    have cH := aj.size
    have f0 := jaa aj e0
    have f1 := jaa aj e1
    clear aR hE n1 t1 e0 e1
    go_wp2_with (first | (at_builtin; refine wpList_append_own _ rfl _ _ 40 rfl wq.heap.size 101 i0 (.agg #[iv 0, iv 0]) 2 16 Tryz.underlying40 hi aH aI aG rfl (by decide) _ _ _ rfl (woa aw _) (ad w1.heap.size 0) 1 1 [iv x.at_, iv x.id] rfl rfl ?b1 ?b2 ?b3 ?b4 ?b5 ?_) | fail)
    case b1 => exact jag _ [iv x.at_, iv x.id] _
    case b2 => intro u hu; simp at hu; rcases hu with rfl | rfl <;> rfl
    case b3 => unfold maxLen; omega
    case b4 => omega
    case b5 => simp; omega
    intro v2 w2 ax aV _
    have ao : Bw wq w2 := (aj.alloc aj.size _).grown aV (by simp; omega) (fun j hj => (aw.lt j hj).1)
    obtain ⟨a2, m2, x2, rfl⟩ := jab ax
    have et := ao.size
    have n2 := HD.out w2 ao
    clear aV aw aj f0 f1
    by_cases iU : c = k
    ·exfalso; omega
    ·skip
     have n3 : ∀ j u, ((L.drop k).map EntryD.cs).flatten[j]? = some u -> w2.cell? (((ad g (k * 2)) : Addr).add j) = some u := fun j u hj => by rw [addP]; exact n2 j u hj
     go_wp2_with (first | (at_builtin; refine wpList_append_own _ rfl _ _ 40 rfl wq.heap.size 101 i0 (.agg #[iv 0, iv 0]) 2 16 Tryz.underlying40 hi aH aI aG rfl (by decide) _ _ _ rfl ax (ad g (k * 2)) (m - k) (c - k) ((L.drop k).map EntryD.cs).flatten rfl t2 n3 jbn ?g3 ?g4 ?g5 ?_) | fail)
     case g3 => unfold maxLen; omega
     case g4 => omega
     case g5 => omega
     intro v3 w3 aJ aK _
     have ay : Bw wq w3 := ao.grown aK (by omega) (fun j hj => (ax.lt j hj).1)
     have HO : Hid (Zl w3 w.heap.size v3 (insX L x)) := by
      simp only [Hid]
      have h9 : w3.ownsRow wq.heap.size 101 2 v3 (insX L x).length ((insX L x).map EntryD.cs).flatten := by
       rw [jbd, HM.out, HE.out, lma, lma, List.flatten_append, List.flatten_append]
       have hx : k + 1 + (m - k) = m + 1 := by omega
       rw [hx] at aJ
       simpa [EntryD.cs] using aJ
      exact jak h9 dw.size
     obtain ⟨g3, x3, eV, eJ⟩ := HO.out.shape (by rw [jbd]; omega)
     rw [jbd, HM.out] at eV eJ
     subst eV
     have ck : Bw w w3 := qtr dw ay
     clear aK aJ ax ao ay n2 n3 t2 HD
     go_wp2
     go_ret
     exact ⟨g3, x3, rfl, eJ, HO.out, ck⟩
   have h3 : y.at_ = x.at_ := by omega
   have h4 : (y.at_ == x.at_) = true := by simp [h3]
   by_cases h5 : y.id < x.id
   ·skip
    have jW : Hid (∀ (j : Nat) z, j < k + 1 -> L[j]? = some z -> jba z x = true) := fun j z hj hz => by
     by_cases e1 : j = k
     ·subst e1; rw [hy] at hz; obtain rfl := osi hz; exact jp6 h3 h5
     ·exact HS.out j z (by omega) hz
    clear hy HS g9
    clear h3
    have q1 : decide (y.at_ < x.at_) = false := dfe h1
    have q2 : decide (y.id < x.id) = true := dte h5
    have q0 : decide ((k : Int) < (m : Int)) = true := dte k1
    go_wp2_with fail
    go_quiet (fail)
    go_wp2
    go_roundw
    case rel => exact ⟨k + 1, by omega, by go_num, jW, dg.trans ((blN wb nq).mono dg.size)⟩
    case measure => simp [intOf]; omega
   ·skip
    have HA : Hid (jg6 L x = k) := jjv HS.out (fun z hz => by rw [hy] at hz; obtain rfl := osi hz; exact jp5 h3 h5) (by have := HM.out; omega)
    clear hy
    clear h3
    have q1 : decide (y.at_ < x.at_) = false := dfe h1
    have q2 : decide (y.id < x.id) = false := dfe h5
    have q0 : decide ((k : Int) < (m : Int)) = true := dte k1
    go_wp2_with fail
    go_quiet (fail)
    clear cy cz
    have bR : Zl (wb.drewN nq) base (so g m c) L := jad g9 (blN wb nq)
    have dw : Bw w (wb.drewN nq) := (qtr ag dg).trans ((blN wb nq).mono (qtr ag dg).size)
    have e0 := jaa (blN wb nq) d0
    have e1 := jaa (blN wb nq) d1
    clear g9 ag dg d0 d1 HS
    generalize wb.drewN nq = wq at *
    have lk : (L.take k).length = k := by rw [List.length_take, HM.out]; omega
    have ld : (L.drop k).length = m - k := by rw [List.length_drop, HM.out]
    have j5 : (L.map EntryD.cs).take k = (L.take k).map EntryD.cs := List.map_take.symm
    have j4 : (L.map EntryD.cs).drop k = (L.drop k).map EntryD.cs := List.map_drop.symm
    have t1 : ((L.take k).map EntryD.cs).flatten.length = k * 2 := by rw [ja5 jao, llm, lk]
    have t2 : ((L.drop k).map EntryD.cs).flatten.length = (m - k) * 2 := by rw [ja5 jao, llm, ld]
    have n1 : ∀ j u, ((L.take k).map EntryD.cs).flatten[j]? = some u -> (wq.alloc (.cells #[] 101)).cell? (((ad g 0) : Addr).add j) = some u := fun j u hj => by
     rw [addP, Nat.zero_add]
     exact jaa (qal wq _) (bR.cell (jfv (k := k) (by rw [j5]; exact hj)))
    have HD : Hid (∀ w2, Bw wq w2 -> ∀ j u, ((L.drop k).map EntryD.cs).flatten[j]? = some u -> w2.cell? (ad g (k * 2 + j)) = some u) := fun w2 hb j u hj => jaa hb (bR.cell (jfu jao (by rw [llm, HM.out]; omega) (by rw [j4]; exact hj)))
    have HE : Hid (insX L x = (L.take k ++ [x]) ++ L.drop k) := by simp only [Hid]; rw [jqm, HA.out]
    have hE := ja4 wq 101 2
    have k2 : (k : Int) <= (c : Int) := by omega
    have k3 : (k : Int) <= (m : Int) := by omega
    clear bR j5 j4
    go_wp2_with (first | (at_builtin; refine wpList_append_own _ rfl _ _ 40 rfl wq.heap.size 101 i0 (.agg #[iv 0, iv 0]) 2 16 Tryz.underlying40 hi aH aI aG rfl (by decide) _ _ _ rfl hE (ad g 0) k c ((L.take k).map EntryD.cs).flatten rfl t1 n1 jbn ?a3 ?a4 ?a5 ?_) | fail)
    case a3 => unfold maxLen; omega
    case a4 => omega
    case a5 => simp
    intro v1 w1 aw aR _
    have aj : Bw wq w1 := (qal wq _).grown aR (by simp) (fun j hj => (hE.lt j hj).1)
    obtain ⟨a1, m1, x1, rfl⟩ := jab aw
    have cH := aj.size
    have f0 := jaa aj e0
    have f1 := jaa aj e1
    clear aR hE n1 t1 e0 e1
    go_wp2_with (first | (at_builtin; refine wpList_append_own _ rfl _ _ 40 rfl wq.heap.size 101 i0 (.agg #[iv 0, iv 0]) 2 16 Tryz.underlying40 hi aH aI aG rfl (by decide) _ _ _ rfl (woa aw _) (ad w1.heap.size 0) 1 1 [iv x.at_, iv x.id] rfl rfl ?b1 ?b2 ?b3 ?b4 ?b5 ?_) | fail)
    case b1 => exact jag _ [iv x.at_, iv x.id] _
    case b2 => intro u hu; simp at hu; rcases hu with rfl | rfl <;> rfl
    case b3 => unfold maxLen; omega
    case b4 => omega
    case b5 => simp; omega
    intro v2 w2 ax aV _
    have ao : Bw wq w2 := (aj.alloc aj.size _).grown aV (by simp; omega) (fun j hj => (aw.lt j hj).1)
    obtain ⟨a2, m2, x2, rfl⟩ := jab ax
    have et := ao.size
    have n2 := HD.out w2 ao
    clear aV aw aj f0 f1
    by_cases iU : c = k
    ·exfalso; omega
    ·skip
     have n3 : ∀ j u, ((L.drop k).map EntryD.cs).flatten[j]? = some u -> w2.cell? (((ad g (k * 2)) : Addr).add j) = some u := fun j u hj => by rw [addP]; exact n2 j u hj
     go_wp2_with (first | (at_builtin; refine wpList_append_own _ rfl _ _ 40 rfl wq.heap.size 101 i0 (.agg #[iv 0, iv 0]) 2 16 Tryz.underlying40 hi aH aI aG rfl (by decide) _ _ _ rfl ax (ad g (k * 2)) (m - k) (c - k) ((L.drop k).map EntryD.cs).flatten rfl t2 n3 jbn ?g3 ?g4 ?g5 ?_) | fail)
     case g3 => unfold maxLen; omega
     case g4 => omega
     case g5 => omega
     intro v3 w3 aJ aK _
     have ay : Bw wq w3 := ao.grown aK (by omega) (fun j hj => (ax.lt j hj).1)
     have HO : Hid (Zl w3 w.heap.size v3 (insX L x)) := by
      simp only [Hid]
      have h9 : w3.ownsRow wq.heap.size 101 2 v3 (insX L x).length ((insX L x).map EntryD.cs).flatten := by
       rw [jbd, HM.out, HE.out, lma, lma, List.flatten_append, List.flatten_append]
       have hx : k + 1 + (m - k) = m + 1 := by omega
       rw [hx] at aJ
       simpa [EntryD.cs] using aJ
      exact jak h9 dw.size
     obtain ⟨g3, x3, eV, eJ⟩ := HO.out.shape (by rw [jbd]; omega)
     rw [jbd, HM.out] at eV eJ
     subst eV
     have ck : Bw w w3 := qtr dw ay
     clear aK aJ ax ao ay n2 n3 t2 HD
     go_wp2
     go_ret
     exact ⟨g3, x3, rfl, eJ, HO.out, ck⟩
  ·have k1 : ¬ (k : Int) < (m : Int) := by omega
   have HA : Hid (jg6 L x = k) := jjv HS.out (fun z hz => by have := (lgs hz).1; have := HM.out; omega) (by have := HM.out; omega)
   have q0 : decide ((k : Int) < (m : Int)) = false := dfe k1
   go_wp2_with fail
   go_quiet (fail)
   have bR : Zl (wb.drewN nq) base (so g m c) L := jad g9 (blN wb nq)
   have dw : Bw w (wb.drewN nq) := (qtr ag dg).trans ((blN wb nq).mono (qtr ag dg).size)
   have e0 := jaa (blN wb nq) d0
   have e1 := jaa (blN wb nq) d1
   clear g9 ag dg d0 d1 HS
   generalize wb.drewN nq = wq at *
   have lk : (L.take k).length = k := by rw [List.length_take, HM.out]; omega
   have ld : (L.drop k).length = m - k := by rw [List.length_drop, HM.out]
   have j5 : (L.map EntryD.cs).take k = (L.take k).map EntryD.cs := List.map_take.symm
   have j4 : (L.map EntryD.cs).drop k = (L.drop k).map EntryD.cs := List.map_drop.symm
   have t1 : ((L.take k).map EntryD.cs).flatten.length = k * 2 := by rw [ja5 jao, llm, lk]
   have t2 : ((L.drop k).map EntryD.cs).flatten.length = (m - k) * 2 := by rw [ja5 jao, llm, ld]
   have n1 : ∀ j u, ((L.take k).map EntryD.cs).flatten[j]? = some u -> (wq.alloc (.cells #[] 101)).cell? (((ad g 0) : Addr).add j) = some u := fun j u hj => by
    rw [addP, Nat.zero_add]
    exact jaa (qal wq _) (bR.cell (jfv (k := k) (by rw [j5]; exact hj)))
   have HD : Hid (∀ w2, Bw wq w2 -> ∀ j u, ((L.drop k).map EntryD.cs).flatten[j]? = some u -> w2.cell? (ad g (k * 2 + j)) = some u) := fun w2 hb j u hj => jaa hb (bR.cell (jfu jao (by rw [llm, HM.out]; omega) (by rw [j4]; exact hj)))
   have HE : Hid (insX L x = (L.take k ++ [x]) ++ L.drop k) := by simp only [Hid]; rw [jqm, HA.out]
   have hE := ja4 wq 101 2
   have k2 : (k : Int) <= (c : Int) := by omega
   have k3 : (k : Int) <= (m : Int) := by omega
   clear bR j5 j4
   go_wp2_with (first | (at_builtin; refine wpList_append_own _ rfl _ _ 40 rfl wq.heap.size 101 i0 (.agg #[iv 0, iv 0]) 2 16 Tryz.underlying40 hi aH aI aG rfl (by decide) _ _ _ rfl hE (ad g 0) k c ((L.take k).map EntryD.cs).flatten rfl t1 n1 jbn ?a3 ?a4 ?a5 ?_) | fail)
   case a3 => unfold maxLen; omega
   case a4 => omega
   case a5 => simp
   intro v1 w1 aw aR _
   have aj : Bw wq w1 := (qal wq _).grown aR (by simp) (fun j hj => (hE.lt j hj).1)
   obtain ⟨a1, m1, x1, rfl⟩ := jab aw
   have cH := aj.size
   have f0 := jaa aj e0
   have f1 := jaa aj e1
   clear aR hE n1 t1 e0 e1
   go_wp2_with (first | (at_builtin; refine wpList_append_own _ rfl _ _ 40 rfl wq.heap.size 101 i0 (.agg #[iv 0, iv 0]) 2 16 Tryz.underlying40 hi aH aI aG rfl (by decide) _ _ _ rfl (woa aw _) (ad w1.heap.size 0) 1 1 [iv x.at_, iv x.id] rfl rfl ?b1 ?b2 ?b3 ?b4 ?b5 ?_) | fail)
   case b1 => exact jag _ [iv x.at_, iv x.id] _
   case b2 => intro u hu; simp at hu; rcases hu with rfl | rfl <;> rfl
   case b3 => unfold maxLen; omega
   case b4 => omega
   case b5 => simp; omega
   intro v2 w2 ax aV _
   have ao : Bw wq w2 := (aj.alloc aj.size _).grown aV (by simp; omega) (fun j hj => (aw.lt j hj).1)
   obtain ⟨a2, m2, x2, rfl⟩ := jab ax
   have et := ao.size
   have n2 := HD.out w2 ao
   clear aV aw aj f0 f1
   by_cases iU : c = k
   ·have qH : k = m := by omega
    have qw : k = c := iU.symm
    clear iU
    subst qw
    subst qH
    have t2 : ((L.drop k).map EntryD.cs).flatten.length = 0 * 2 := by rw [t2]; simp
    have n3 : ∀ j u, ((L.drop k).map EntryD.cs).flatten[j]? = some u -> w2.cell? (((ad g 0) : Addr).add j) = some u := fun j u hj => by have h1 := (List.getElem?_eq_some_iff.1 hj).1; rw [t2] at h1; omega
    go_wp2_with (first | (at_builtin; refine wpList_append_own _ rfl _ _ 40 rfl wq.heap.size 101 i0 (.agg #[iv 0, iv 0]) 2 16 Tryz.underlying40 hi aH aI aG rfl (by decide) _ _ _ rfl ax (ad g 0) 0 0 ((L.drop k).map EntryD.cs).flatten rfl t2 n3 jbn ?g3 ?g4 ?g5 ?_) | fail)
    case g3 => unfold maxLen; omega
    case g4 => omega
    case g5 => omega
    intro v3 w3 aJ aK _
    have ay : Bw wq w3 := ao.grown aK (by omega) (fun j hj => (ax.lt j hj).1)
    have HO : Hid (Zl w3 w.heap.size v3 (insX L x)) := by
     simp only [Hid]
     have h9 : w3.ownsRow wq.heap.size 101 2 v3 (insX L x).length ((insX L x).map EntryD.cs).flatten := by
      rw [jbd, HM.out, HE.out, lma, lma, List.flatten_append, List.flatten_append]
      have hx : k + 1 + 0 = k + 1 := by omega
      rw [hx] at aJ
      simpa [EntryD.cs] using aJ
     exact jak h9 dw.size
    obtain ⟨g3, x3, eV, eJ⟩ := HO.out.shape (by rw [jbd]; omega)
    rw [jbd, HM.out] at eV eJ
    subst eV
    have ck : Bw w w3 := qtr dw ay
    clear aK aJ ax ao ay n2 n3 t2 HD
    go_wp2
    go_ret
    exact ⟨g3, x3, rfl, eJ, HO.out, ck⟩
   ·skip
    have n3 : ∀ j u, ((L.drop k).map EntryD.cs).flatten[j]? = some u -> w2.cell? (((ad g (k * 2)) : Addr).add j) = some u := fun j u hj => by rw [addP]; exact n2 j u hj
    go_wp2_with (first | (at_builtin; refine wpList_append_own _ rfl _ _ 40 rfl wq.heap.size 101 i0 (.agg #[iv 0, iv 0]) 2 16 Tryz.underlying40 hi aH aI aG rfl (by decide) _ _ _ rfl ax (ad g (k * 2)) (m - k) (c - k) ((L.drop k).map EntryD.cs).flatten rfl t2 n3 jbn ?g3 ?g4 ?g5 ?_) | fail)
    case g3 => unfold maxLen; omega
    case g4 => omega
    case g5 => omega
    intro v3 w3 aJ aK _
    have ay : Bw wq w3 := ao.grown aK (by omega) (fun j hj => (ax.lt j hj).1)
    have HO : Hid (Zl w3 w.heap.size v3 (insX L x)) := by
     simp only [Hid]
     have h9 : w3.ownsRow wq.heap.size 101 2 v3 (insX L x).length ((insX L x).map EntryD.cs).flatten := by
      rw [jbd, HM.out, HE.out, lma, lma, List.flatten_append, List.flatten_append]
      have hx : k + 1 + (m - k) = m + 1 := by omega
      rw [hx] at aJ
      simpa [EntryD.cs] using aJ
     exact jak h9 dw.size
    obtain ⟨g3, x3, eV, eJ⟩ := HO.out.shape (by rw [jbd]; omega)
    rw [jbd, HM.out] at eV eJ
    subst eV
    have ck : Bw w w3 := qtr dw ay
    clear aK aJ ax ao ay n2 n3 t2 HD
    go_wp2
    go_ret
    exact ⟨g3, x3, rfl, eJ, HO.out, ck⟩
end
section
open Go.RowKit
theorem j0n (x y : EntryD) : decide (orI (cmpI x.at_ y.at_) (cmpI x.id y.id) < 0) = jba x y := by
 unfold orI cmpI
 by_cases h1 : x.at_ < y.at_
 ·rw [jp8 h1, if_pos h1, if_neg (by decide)]; rfl
 ·by_cases h2 : y.at_ < x.at_
  ·rw [jp7 h2, if_neg h1, if_pos h2, if_neg (by decide)]; rfl
  ·have e : x.at_ = y.at_ := by omega
   rw [if_neg h1, if_neg h2, if_pos rfl]
   by_cases h3 : x.id < y.id
   ·rw [jp6 e h3, if_pos h3]; rfl
   ·rw [jp5 e h3, if_neg h3]
    by_cases h4 : y.id < x.id
    ·rw [if_pos h4]; rfl
    ·rw [if_neg h4]; rfl
theorem lessX_iff {x y : EntryD} : jba x y = true ↔ x.at_ < y.at_ \/ (x.at_ = y.at_ /\ x.id < y.id) := by
 by_cases h1 : x.at_ < y.at_
 ·rw [jp8 h1]; exact ⟨fun _ => .inl h1, fun _ => rfl⟩
 ·by_cases h2 : y.at_ < x.at_
  ·rw [jp7 h2]; exact ⟨fun h => by (cases h), fun h => by (exfalso; omega)⟩
  ·have e : x.at_ = y.at_ := by omega
   by_cases h3 : x.id < y.id
   ·rw [jp6 e h3]; exact ⟨fun _ => .inr ⟨e, h3⟩, fun _ => rfl⟩
   ·rw [jp5 e h3]; exact ⟨fun h => by (cases h), fun h => by (exfalso; omega)⟩
theorem jis {x y : EntryD} (h1 : jba x y = false) (h2 : jba y x = false) : x = y := by
 have a : ¬ (x.at_ < y.at_ \/ (x.at_ = y.at_ /\ x.id < y.id)) := fun h => by rw [lessX_iff.mpr h] at h1; cases h1
 have b : ¬ (y.at_ < x.at_ \/ (y.at_ = x.at_ /\ y.id < x.id)) := fun h => by rw [lessX_iff.mpr h] at h2; cases h2
 cases x; cases y
 simp only at a b
 congr 1 <;> omega
end
section
open Go.RowKit
def jho (L : List EntryD) : Prop := L.Pairwise fun x y => jba x y = true
theorem jfm {x y : EntryD} (h1 : jba x y = true) (h2 : jba y x = true) : False := by
 have a := lessX_iff.mp h1
 have b := lessX_iff.mp h2
 omega
theorem jir {x y z : EntryD} (h1 : jba x y = true) (h2 : jba y z = true) : jba x z = true := by
 have a := lessX_iff.mp h1
 have b := lessX_iff.mp h2
 exact lessX_iff.mpr (by omega)
theorem insX_mem {l : List EntryD} {e x : EntryD} : x ∈ insX l e ↔ x = e \/ x ∈ l := by
 induction l with
 | nil => simp [insX]
 | cons a l ih =>
  rw [insX]
  split
  ·simp only [List.mem_cons, ih]
   constructor
   ·rintro (h | h | h)
    ·exact .inr (.inl h)
    ·exact .inl h
    ·exact .inr (.inr h)
   ·rintro (h | h | h)
    ·exact .inr (.inl h)
    ·exact .inl h
    ·exact .inr (.inr h)
  ·simp only [List.mem_cons]
theorem j2g {l : List EntryD} {e : EntryD} (h : jho l) (hn : e ∉ l) : jho (insX l e) := by
 unfold jho at *
 induction l with
 | nil => simp [insX]
 | cons a l ih =>
  have h' := List.pairwise_cons.mp h
  rw [insX]
  split
  ·rename_i ha
   refine List.pairwise_cons.mpr ⟨fun x hx => ?_, ih h'.2 fun hx => hn (lmc _ hx)⟩
   rcases insX_mem.mp hx with rfl | hx
   ·exact ha
   ·exact h'.1 x hx
  ·rename_i ha
   have sy : jba e a = true := by
    cases hb : jba e a
    ·exact absurd (jis (by simpa using ha) hb) (fun h => hn (by rw [h]; simp))
    ·rfl
   refine List.pairwise_cons.mpr ⟨fun x hx => ?_, h⟩
   rcases List.mem_cons.mp hx with rfl | hx
   ·exact sy
   ·exact jir sy (h'.1 x hx)
theorem j1r {L M : List EntryD} (hL : jho L) (hM : jho M) (h : ∀ e, e ∈ L ↔ e ∈ M) : L = M := by
 unfold jho at *
 induction L generalizing M with
 | nil =>
  cases M with
  | nil => rfl
  | cons y M => exact absurd ((h y).mpr (by simp)) (by simp)
 | cons x L ih =>
  cases M with
  | nil => exact absurd ((h x).mp (by simp)) (by simp)
  | cons y M =>
   have gX := List.pairwise_cons.mp hL
   have oi := List.pairwise_cons.mp hM
   have fu : x = y := by
    rcases List.mem_cons.mp ((h x).mp (by simp)) with e | e
    ·exact e
    ·rcases List.mem_cons.mp ((h y).mpr (by simp)) with e2 | e2
     ·exact e2.symm
     ·exact (jfm (oi.1 x e) (gX.1 y e2)).elim
   subst fu
   rw [ih gX.2 oi.2 fun e => ?_]
   constructor
   ·intro he
    rcases List.mem_cons.mp ((h e).mp (lmc _ he)) with e2 | e2
    ·subst e2; exact (jfm (gX.1 _ he) (gX.1 _ he)).elim
    ·exact e2
   ·intro he
    rcases List.mem_cons.mp ((h e).mpr (lmc _ he)) with e2 | e2
    ·subst e2; exact (jfm (oi.1 _ he) (oi.1 _ he)).elim
    ·exact e2
end
section
open Go.RowKit Go.Sort
theorem jmo {α : Type} {enc : α -> List Value} {k : Nat} (hk : ∀ x, (enc x).length = k) {P : List α} : ∀ r ∈ P.map enc, r.length = k := fun r hr => by
 obtain ⟨x, _, rfl⟩ := List.mem_map.1 hr
 exact hk x
theorem jjq {k : Nat} : ∀ {rows : List (List Value)}, (∀ r ∈ rows, r.length = k) -> rows.flatten.length = rows.length * k
 | [], _ => by simp
 | r :: rows, h => by
  rw [List.flatten_cons, lla, jjq fun x hx => h x (lmc _ hx), h r (List.mem_cons_self ..), List.length_cons, Nat.add_mul]
  omega
theorem jo2 {α : Type} [Inhabited α] {enc : α -> List Value} {k : Nat} (hk : ∀ x, (enc x).length = k) (h0 : 0 < k) (P : List α) {t : Nat} (h : t < P.length * k) : (P.map enc).flatten[t]? = some (enc P.toArray[t / k]!)[t % k]! := by
 have h1 : t / k < P.length := (Nat.div_lt_iff_lt_mul h0).mpr h
 have h2 : P[t / k]? = some P.toArray[t / k]! := by rw [lgg h1]; simp [getElem!_pos, h1]
 have h4 : t % k < (enc P.toArray[t / k]!).length := by rw [hk]; exact Nat.mod_lt _ h0
 have h3 := jbh (jmo hk (P := P)) (i := t / k) (j := t % k) (by rw [lgm, h2]; rfl) (c := (enc P.toArray[t / k]!)[t % k]!) (by rw [lgg h4, getElem!_pos (enc P.toArray[t / k]!) (t % k) h4])
 rw [show t / k * k + t % k = t by rw [Nat.mul_comm]; exact Nat.div_add_mod t k] at h3
 exact h3
theorem j1f {α : Type} [Inhabited α] {enc : α -> List Value} {k : Nat} (hk : ∀ x, (enc x).length = k) (h0 : 0 < k) {e : TypeId} {w : World} {base g n cap : Nat} {P : List α} (h : w.ownsRow base e k (so g n cap) P.length (P.map enc).flatten) : HoldsK enc k w g 0 P.toArray /\ g < w.heap.size /\ base <= g /\ n = P.length /\ n <= cap := by
 have hl : (P.map enc).flatten.length = P.length * k := by rw [jjq (jmo hk), llm]
 rcases h.2 with ⟨e0, _⟩ | ⟨g', fO, cur, e0, hb, hg, hn, hm, hs, ht⟩
 ·cases e0
 injection e0 with e1 e2 e3
 injection e1 with e1
 injection e1 with e1
 subst e1 e2 e3
 refine ⟨fun j hj => ?_, (Array.getElem?_eq_some_iff.1 hg).1, hb, rfl, hn⟩
 have qD : j < P.length * k := by simpa using hj
 refine ⟨?_, by simp [World.frozen?, hg]⟩
 rw [get_flatK _ _ _ j (by simpa using qD), Nat.zero_add]
 have hq := jo2 hk h0 P qD
 rw [<- ht, List.getElem?_take, if_pos qD, Array.getElem?_toList] at hq
 simp [World.cell?, hg, hq]
theorem putG {α : Type} [Inhabited α] {enc : α -> List Value} {k : Nat} (hk : ∀ x, (enc x).length = k) (h0 : 0 < k) {e : TypeId} {w : World} {base g n cap q : Nat} {P Q : List α} {os : Array Obj} (h : w.ownsRow base e k (so g n cap) P.length (P.map enc).flatten) (hQ : Q.length = P.length) : (sortWorldK enc k w g 0 q Q.toArray os).ownsRow base e k (so g n cap) Q.length (Q.map enc).flatten /\ w.grownBy (sortWorldK enc k w g 0 q Q.toArray os) (some g) := by
 have hl : (Q.map enc).flatten.length = Q.length * k := by rw [jjq (jmo hk), llm]
 rcases h.2 with ⟨e0, _⟩ | ⟨g', fO, cur, e0, hb, hg, hn, hm, hs, ht⟩
 ·cases e0
 injection e0 with e1 e2 e3
 injection e1 with e1
 injection e1 with e1
 subst e1 e2 e3
 have hlt : g < w.heap.size := (Array.getElem?_eq_some_iff.1 hg).1
 have bS : Q.length * k <= cap * k := Nat.mul_le_mul_right _ (by omega)
 constructor
 ·refine ⟨hl, .inr ⟨g, cap, putCells id 0 (flatK enc k Q.toArray) cur, by rw [hQ], hb, ?_, by omega, hm, by simpa [putCells] using hs, ?_⟩⟩
  ·unfold sortWorldK putRowK
   rw [heap_grow_old _ _ (by simpa using hlt)]
   simp [putRow, mapBlock, Sort.ahead, Array.getElem?_modify, hg, onCells]
  ·apply List.ext_getElem?
   intro j
   rw [List.getElem?_take, Array.getElem?_toList]
   by_cases hj : j < Q.length * k
   ·have KU : j < cur.size := by omega
    rw [if_pos hj, jo2 hk h0 Q hj]
    simp only [putCells, Array.getElem?_mapIdx, Array.getElem?_eq_getElem KU, Option.map_some]
    rw [if_pos (by simp; omega), Nat.sub_zero, get_flatK _ _ _ j (by simpa using hj)]
    rfl
   ·rw [if_neg hj, List.getElem?_eq_none (by omega)]
 ·refine ⟨rfl, rfl, rfl, by simp [sortWorldK, putRowK], fun i hi az => ?_⟩
  unfold sortWorldK putRowK
  rw [heap_grow_old _ _ (by simpa using hi)]
  have : g ≠ i := fun e => az (by rw [e])
  simp [putRow, mapBlock, Sort.ahead, Array.getElem?_modify, this]
end
section
open Go.RowKit Go.Sort
def jha (P : List EntryD) : List EntryD := P.mergeSort fun x y => !jba y x
theorem jvi {P : List EntryD} {e : EntryD} : e ∈ jha P ↔ e ∈ P := (List.mergeSort_perm P _).mem_iff
theorem jvj (P : List EntryD) : (jha P).length = P.length := List.length_mergeSort P
theorem jtq (x : EntryD) : jba x x = false := by
 cases h : jba x x
 ·rfl
 ·exact (jfm h h).elim
theorem jnv {x y z : EntryD} (h1 : jba x y = false) (h2 : jba y z = false) : jba x z = false := by
 cases h : jba x z
 ·rfl
 ·have a : ¬ (x.at_ < y.at_ \/ (x.at_ = y.at_ /\ x.id < y.id)) := fun h => by rw [lessX_iff.mpr h] at h1; cases h1
  have b : ¬ (y.at_ < z.at_ \/ (y.at_ = z.at_ /\ y.id < z.id)) := fun h => by rw [lessX_iff.mpr h] at h2; cases h2
  have c := lessX_iff.mp h
  exfalso
  omega
theorem jys {P : List EntryD} (h : P.Nodup) : jho (jha P) := by
 have hs := List.pairwise_mergeSort (le := fun (x y : EntryD) => !jba y x) (fun a b c h1 h2 => by
  simp only [Bool.not_eq_eq_eq_not, Bool.not_true] at *
  exact jnv h2 h1) (fun a b => by
  cases h1 : jba b a
  ·rfl
  ·cases h2 : jba a b
   ·rfl
   ·exact (jfm h1 h2).elim) P
 have hn : (jha P).Nodup := (List.mergeSort_perm P _).nodup_iff.mpr h
 unfold jho
 refine (List.pairwise_and_iff.mpr ⟨hs, hn⟩).imp fun {x y} fu => ?_
 obtain ⟨h1, h2⟩ := fu
 cases h3 : jba x y
 ·exact absurd (jis h3 (by simpa using h1)) h2
 ·rfl
end
end Go.Proofs.YtgiieknbckhofaaGreatDoor
