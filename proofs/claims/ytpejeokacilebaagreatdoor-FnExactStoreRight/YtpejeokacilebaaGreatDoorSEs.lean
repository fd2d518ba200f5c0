/- Packed. -/
import Derived.Test.YtpejeokacilebaaGreatDoorSAs
import Derived.Test.YtpejeokacilebaaGreatDoorZonePs
import Derived.Test.YtpejeokacilebaaGreatDoorRelPs
import Derived.BigQuiet
import Derived.Test.YtpejeokacilebaaGreatDoorSBs
import Derived.Shelf.GgSortFunc.InsertionK
import Derived.Lib.OwnBridge
set_option maxHeartbeats 20000000
set_option linter.unusedSimpArgs false
namespace Go.Proofs.YtpejeokacilebaaGreatDoor
section
open Go.RowKit
def ja8 (a b : EntryD) : Bool := decide (a.at_ < b.at_) || (decide (a.at_ = b.at_) && decide (a.id < b.id))
theorem lessX_1 {a b : EntryD} (h : a.at_ < b.at_) : ja8 a b = true := by unfold ja8; rw [decide_eq_true h]; rfl
theorem lessX_2 {a b : EntryD} (h : b.at_ < a.at_) : ja8 a b = false := by unfold ja8; rw [decide_eq_false (by omega), decide_eq_false (by omega)]; rfl
theorem lessX_3 {a b : EntryD} (h : a.at_ = b.at_) (h2 : a.id < b.id) : ja8 a b = true := by unfold ja8; rw [decide_eq_true h, decide_eq_true h2]; simp
theorem lessX_4 {a b : EntryD} (h : a.at_ = b.at_) (h2 : ¬ a.id < b.id) : ja8 a b = false := by unfold ja8; rw [decide_eq_false (by omega), decide_eq_false h2]; simp
def insX : List EntryD -> EntryD -> List EntryD
 | [], e => [e]
 | x :: l, e => if ja8 x e = true then x :: insX l e else e :: x :: l
def aheadX (l : List EntryD) (e : EntryD) : Nat := (l.takeWhile fun x => ja8 x e).length
theorem insX_at (l : List EntryD) (e : EntryD) : insX l e = l.take (aheadX l e) ++ [e] ++ l.drop (aheadX l e) := by
 induction l with
 | nil => rfl
 | cons a l ih =>
  unfold aheadX at *
  rw [insX]
  by_cases h : ja8 a e = true
  ·rw [if_pos h, ih]
   simp [h]
  ·rw [if_neg h]
   simp [h]
theorem aheadX_of {L : List EntryD} {e : EntryD} {k : Nat} (h1 : ∀ (j : Nat) x, j < k -> L[j]? = some x -> ja8 x e = true) (h2 : ∀ x, L[k]? = some x -> ja8 x e = false) (hk : k <= L.length) : aheadX L e = k := by
 induction L generalizing k with
 | nil => simp at hk; subst hk; rfl
 | cons a L ih =>
  unfold aheadX at *
  cases k with
  | zero => have := h2 a rfl; simp [this]
  | succ k =>
   have h0 := h1 0 a (by omega) rfl
   have := ih (k := k) (fun j x hj hx => h1 (j + 1) x (by omega) (by simpa using hx)) (fun x hx => h2 x (by simpa using hx)) (by simp at hk; omega)
   simp [h0, this]
theorem jbb (L : List EntryD) (e : EntryD) : (insX L e).length = L.length + 1 := by
 induction L with
 | nil => rfl
 | cons a L ih => rw [insX]; split <;> simp [ih]
theorem jaj {L : List EntryD} : ∀ r ∈ L.map EntryD.cs, r.length = 2 := fun r hr => by
 obtain ⟨x, _, rfl⟩ := List.mem_map.1 hr
 rfl
theorem jbl {L : List EntryD} : ∀ u ∈ (L.map EntryD.cs).flatten, u.oneCell' = true := fun u hu => by
 simp only [List.mem_flatten, List.mem_map] at hu
 obtain ⟨r, ⟨t, _, rfl⟩, hr⟩ := hu
 simp [EntryD.cs] at hr
 rcases hr with rfl | rfl <;> rfl
def Zg (w : World) (base : Nat) (v : Value) (L : List EntryD) : Prop := w.ownsRow base 57 2 v L.length (L.map EntryD.cs).flatten
theorem Zg.cell {w : World} {base g n cap : Nat} {L : List EntryD} (h : Zg w base (.slice (some ⟨g, 0, none⟩) n cap) L) {j : Nat} {u : Value} (hu : (L.map EntryD.cs).flatten[j]? = some u) : w.cell? ⟨g, j, none⟩ = some u := by
 have h' : w.ownsRow base 57 2 (.slice (some ⟨g, 0, none⟩) n cap) L.length (L.map EntryD.cs).flatten := h
 have hl := (List.getElem?_eq_some_iff.1 hu).1
 rcases h'.2 with ⟨hv, _⟩ | ⟨g2, c2, cur, hv, _⟩
 ·cases hv
 ·injection hv with e1 e2 e3
  subst e2
  rw [h'.cellAt j (by rw [jas jaj, List.length_map] at hl; omega)]
  exact hu
theorem Zg.shape {w : World} {base : Nat} {v : Value} {L : List EntryD} (h : Zg w base v L) (hn : 0 < L.length) : ∃ g cap, v = .slice (some ⟨g, 0, none⟩) L.length cap /\ L.length <= cap := by
 rcases h.2 with ⟨_, h0⟩ | ⟨g, cap, cur, hv, hb, hg, hc, _⟩
 ·omega
 ·exact ⟨g, cap, hv, hc⟩
set_option maxRecDepth 20000 in
theorem spec_l06Add (L : List EntryD) (x : EntryD) (g m c base : Nat) (w : World) (hO : Zg w base (.slice (some ⟨g, 0, none⟩) m c) L) (hm : L.length = m) (hmc : m <= c) (hl : m <= 1000) :
  Calls Tryz.prog 38 #[.slice (some ⟨g, 0, none⟩) m c, .agg #[.int .i64 x.at_, .int .i64 x.id]] w fun e w' => ∃ g' c', e = .returned (.slice (some ⟨g', 0, none⟩) (m + 1) c') /\ m + 1 <= c' /\ Zg w' w.heap.size (.slice (some ⟨g', 0, none⟩) (m + 1) c') (insX L x) /\ Below w.heap.size w w' := by
 obtain ⟨i0, hi, hz0, hz1, hz2⟩ := infoEntry
 have HM := hid hm
 clear hm
 have hB0 : Below w.heap.size w (w.alloc (.cells #[.int .i64 x.at_, .int .i64 x.id] 57)) := qal _ _
 obtain ⟨y0, y1⟩ : (fun z : World => z.cell? ⟨w.heap.size, 0, none⟩ = some (.int .i64 x.at_) /\ z.cell? ⟨w.heap.size, 1, none⟩ = some (.int .i64 x.id)) (w.alloc (.cells #[.int .i64 x.at_, .int .i64 x.id] 57)) := by simp [go_sem]
 have hO0 : Zg (w.alloc (.cells #[.int .i64 x.at_, .int .i64 x.id] 57)) base (.slice (some ⟨g, 0, none⟩) m c) L := jae hO hB0
 clear hO
 go_enter Tryz.func38, Tryz.ntmps38
 go_wp2
 generalize (w.alloc (.cells #[.int .i64 x.at_, .int .i64 x.id] 57)) = w0 at *
 go_loopw [5] (fun s wr => ∃ k : Nat, k <= m /\ s = .int .i64 k /\ Hid (∀ (j : Nat) y, j < k -> L[j]? = some y -> ja8 y x = true) /\ Below w0.heap.size w0 wr) (fun s _ => m + 1 - (intOf s).toNat)
 case atStart => exact ⟨0, by omega, rfl, fun j x hj => by omega, Below.refl _ _⟩
 case round =>
  obtain ⟨wb, hwb⟩ : ∃ x : World, x = wr := ⟨_, rfl⟩
  subst hwb
  obtain ⟨k, hk, rfl, HS, hBb⟩ := hrel
  have hOb : Zg wb base (.slice (some ⟨g, 0, none⟩) m c) L := jae hO0 hBb
  have d0 := jaa hBb y0
  have d1 := jaa hBb y1
  have k0 : (0 : Int) <= (k : Int) := by omega
  clear hO0 y0 y1
  by_cases hkm : k < m
  ·have k1 : (k : Int) < (m : Int) := by omega
   obtain ⟨y, hy⟩ : ∃ y, L[k]? = some y := ⟨_, List.getElem?_eq_getElem (by have := HM.out; omega)⟩
   have hyr : (L.map EntryD.cs)[k]? = some y.cs := by rw [List.getElem?_map, hy]; rfl
   have cy : wb.cell? ⟨g, k * 2, none⟩ = some (.int .i64 y.at_) := hOb.cell (jbe (q := 2) jaj (j := 0) hyr rfl)
   have cz : wb.cell? ⟨g, k * 2 + 1, none⟩ = some (.int .i64 y.id) := hOb.cell (jbe (q := 2) jaj (j := 1) hyr rfl)
   clear hyr
   by_cases h1 : y.at_ < x.at_
   ·skip
    have HS2 : Hid (∀ (j : Nat) z, j < k + 1 -> L[j]? = some z -> ja8 z x = true) := fun j z hj hz => by
     by_cases e1 : j = k
     ·subst e1; rw [hy] at hz; obtain rfl := Option.some.inj hz; exact lessX_1 h1
     ·exact HS.out j z (by omega) hz
    clear hy HS hOb
    have q1 : decide (y.at_ < x.at_) = true := decide_eq_true h1
    have q0 : decide ((k : Int) < (m : Int)) = true := decide_eq_true k1
    go_wp2_with fail
    go_quiet (fail)
    go_wp2
    go_roundw
    case rel => exact ⟨k + 1, by omega, by go_num, HS2, hBb.trans ((blN wb nq).mono hBb.size)⟩
    case measure => simp [intOf]; omega
   by_cases h2 : x.at_ < y.at_
   ·have h3 : (y.at_ == x.at_) = false := by simp; omega
    have HA : Hid (aheadX L x = k) := aheadX_of HS.out (fun z hz => by rw [hy] at hz; obtain rfl := Option.some.inj hz; exact lessX_2 h2) (by have := HM.out; omega)
    clear hy
    have q1 : decide (y.at_ < x.at_) = false := decide_eq_false h1
    have q0 : decide ((k : Int) < (m : Int)) = true := decide_eq_true k1
    go_wp2_with fail
    go_quiet (fail)
    clear cy cz
    have hOq : Zg (wb.drewN nq) base (.slice (some ⟨g, 0, none⟩) m c) L := jae hOb (blN wb nq)
    have hBq : Below w.heap.size w (wb.drewN nq) := (qtr hB0 hBb).trans ((blN wb nq).mono (qtr hB0 hBb).size)
    have e0 := jaa (blN wb nq) d0
    have e1 := jaa (blN wb nq) d1
    clear hOb hB0 hBb d0 d1 HS
    generalize wb.drewN nq = wq at *
    have lk : (L.take k).length = k := by rw [List.length_take, HM.out]; omega
    have ld : (L.drop k).length = m - k := by rw [List.length_drop, HM.out]
    have hmk : (L.map EntryD.cs).take k = (L.take k).map EntryD.cs := List.map_take.symm
    have hmd : (L.map EntryD.cs).drop k = (L.drop k).map EntryD.cs := List.map_drop.symm
    have t1 : ((L.take k).map EntryD.cs).flatten.length = k * 2 := by rw [jas jaj, List.length_map, lk]
    have t2 : ((L.drop k).map EntryD.cs).flatten.length = (m - k) * 2 := by rw [jas jaj, List.length_map, ld]
    have n1 : ∀ j u, ((L.take k).map EntryD.cs).flatten[j]? = some u -> (wq.alloc (.cells #[] 57)).cell? ((⟨g, 0, none⟩ : Addr).add j) = some u := fun j u hj => by
     rw [addP, Nat.zero_add]
     exact jaa (qal wq _) (hOq.cell (flat_fst (k := k) (by rw [hmk]; exact hj)))
    have HD : Hid (∀ w2, Below wq.heap.size wq w2 -> ∀ j u, ((L.drop k).map EntryD.cs).flatten[j]? = some u -> w2.cell? ⟨g, k * 2 + j, none⟩ = some u) := fun w2 hb j u hj => jaa hb (hOq.cell (flat_snd jaj (by rw [List.length_map, HM.out]; omega) (by rw [hmd]; exact hj)))
    have HE : Hid (insX L x = (L.take k ++ [x]) ++ L.drop k) := by simp only [Hid]; rw [insX_at, HA.out]
    have hE := ja3 wq 57 2
    have k2 : (k : Int) <= (c : Int) := by omega
    have k3 : (k : Int) <= (m : Int) := by omega
    clear hOq hmk hmd
    go_wp2_with (first | (at_builtin; refine wpList_append_own _ rfl _ _ 39 rfl wq.heap.size 57 i0 (.agg #[.int .i64 0, .int .i64 0]) 2 16 Tryz.underlying39 hi hz0 hz1 hz2 rfl (by decide) _ _ _ rfl hE ⟨g, 0, none⟩ k c ((L.take k).map EntryD.cs).flatten rfl t1 n1 jbl ?a3 ?a4 ?a5 ?_) | fail)
    case a3 => unfold maxLen; omega
    case a4 => omega
    case a5 => simp
    intro v1 w1 hown1 hgrow1 _
    have hB1 : Below wq.heap.size wq w1 := (qal wq _).grown hgrow1 (by simp) (fun j hj => (hE.lt j hj).1)
    obtain ⟨a1, m1, x1, rfl⟩ := jac hown1
    have hs1 := hB1.size
    have f0 := jaa hB1 e0
    have f1 := jaa hB1 e1
    clear hgrow1 hE n1 t1 e0 e1
    go_wp2_with (first | (at_builtin; refine wpList_append_own _ rfl _ _ 39 rfl wq.heap.size 57 i0 (.agg #[.int .i64 0, .int .i64 0]) 2 16 Tryz.underlying39 hi hz0 hz1 hz2 rfl (by decide) _ _ _ rfl (World.ownsRow.alloc hown1 _) ⟨w1.heap.size, 0, none⟩ 1 1 [.int .i64 x.at_, .int .i64 x.id] rfl rfl ?b1 ?b2 ?b3 ?b4 ?b5 ?_) | fail)
    case b1 => exact jah _ [.int .i64 x.at_, .int .i64 x.id] _
    case b2 => intro u hu; simp at hu; rcases hu with rfl | rfl <;> rfl
    case b3 => unfold maxLen; omega
    case b4 => omega
    case b5 => simp; omega
    intro v2 w2 hown2 hgrow2 _
    have hB2 : Below wq.heap.size wq w2 := (hB1.alloc hB1.size _).grown hgrow2 (by simp; omega) (fun j hj => (hown1.lt j hj).1)
    obtain ⟨a2, m2, x2, rfl⟩ := jac hown2
    have hs2 := hB2.size
    have n2 := HD.out w2 hB2
    clear hgrow2 hown1 hB1 f0 f1
    by_cases hck : c = k
    ·exfalso; omega
    ·skip
     have n3 : ∀ j u, ((L.drop k).map EntryD.cs).flatten[j]? = some u -> w2.cell? ((⟨g, k * 2, none⟩ : Addr).add j) = some u := fun j u hj => by rw [addP]; exact n2 j u hj
     go_wp2_with (first | (at_builtin; refine wpList_append_own _ rfl _ _ 39 rfl wq.heap.size 57 i0 (.agg #[.int .i64 0, .int .i64 0]) 2 16 Tryz.underlying39 hi hz0 hz1 hz2 rfl (by decide) _ _ _ rfl hown2 ⟨g, k * 2, none⟩ (m - k) (c - k) ((L.drop k).map EntryD.cs).flatten rfl t2 n3 jbl ?g3 ?g4 ?g5 ?_) | fail)
     case g3 => unfold maxLen; omega
     case g4 => omega
     case g5 => omega
     intro v3 w3 hown3 hgrow3 _
     have hB3 : Below wq.heap.size wq w3 := hB2.grown hgrow3 (by omega) (fun j hj => (hown2.lt j hj).1)
     have HO : Hid (Zg w3 w.heap.size v3 (insX L x)) := by
      simp only [Hid]
      have h9 : w3.ownsRow wq.heap.size 57 2 v3 (insX L x).length ((insX L x).map EntryD.cs).flatten := by
       rw [jbb, HM.out, HE.out, List.map_append, List.map_append, List.flatten_append, List.flatten_append]
       have hx : k + 1 + (m - k) = m + 1 := by omega
       rw [hx] at hown3
       simpa [EntryD.cs] using hown3
      exact jak h9 hBq.size
     obtain ⟨g3, x3, hv3, hx3⟩ := HO.out.shape (by rw [jbb]; omega)
     rw [jbb, HM.out] at hv3 hx3
     subst hv3
     have hBx : Below w.heap.size w w3 := qtr hBq hB3
     clear hgrow3 hown3 hown2 hB2 hB3 n2 n3 t2 HD
     go_wp2
     go_ret
     exact ⟨g3, x3, rfl, hx3, HO.out, hBx⟩
   have h3 : y.at_ = x.at_ := by omega
   have h4 : (y.at_ == x.at_) = true := by simp [h3]
   by_cases h5 : y.id < x.id
   ·skip
    have HS2 : Hid (∀ (j : Nat) z, j < k + 1 -> L[j]? = some z -> ja8 z x = true) := fun j z hj hz => by
     by_cases e1 : j = k
     ·subst e1; rw [hy] at hz; obtain rfl := Option.some.inj hz; exact lessX_3 h3 h5
     ·exact HS.out j z (by omega) hz
    clear hy HS hOb
    clear h3
    have q1 : decide (y.at_ < x.at_) = false := decide_eq_false h1
    have q2 : decide (y.id < x.id) = true := decide_eq_true h5
    have q0 : decide ((k : Int) < (m : Int)) = true := decide_eq_true k1
    go_wp2_with fail
    go_quiet (fail)
    go_wp2
    go_roundw
    case rel => exact ⟨k + 1, by omega, by go_num, HS2, hBb.trans ((blN wb nq).mono hBb.size)⟩
    case measure => simp [intOf]; omega
   ·skip
    have HA : Hid (aheadX L x = k) := aheadX_of HS.out (fun z hz => by rw [hy] at hz; obtain rfl := Option.some.inj hz; exact lessX_4 h3 h5) (by have := HM.out; omega)
    clear hy
    clear h3
    have q1 : decide (y.at_ < x.at_) = false := decide_eq_false h1
    have q2 : decide (y.id < x.id) = false := decide_eq_false h5
    have q0 : decide ((k : Int) < (m : Int)) = true := decide_eq_true k1
    go_wp2_with fail
    go_quiet (fail)
    clear cy cz
    have hOq : Zg (wb.drewN nq) base (.slice (some ⟨g, 0, none⟩) m c) L := jae hOb (blN wb nq)
    have hBq : Below w.heap.size w (wb.drewN nq) := (qtr hB0 hBb).trans ((blN wb nq).mono (qtr hB0 hBb).size)
    have e0 := jaa (blN wb nq) d0
    have e1 := jaa (blN wb nq) d1
    clear hOb hB0 hBb d0 d1 HS
    generalize wb.drewN nq = wq at *
    have lk : (L.take k).length = k := by rw [List.length_take, HM.out]; omega
    have ld : (L.drop k).length = m - k := by rw [List.length_drop, HM.out]
    have hmk : (L.map EntryD.cs).take k = (L.take k).map EntryD.cs := List.map_take.symm
    have hmd : (L.map EntryD.cs).drop k = (L.drop k).map EntryD.cs := List.map_drop.symm
    have t1 : ((L.take k).map EntryD.cs).flatten.length = k * 2 := by rw [jas jaj, List.length_map, lk]
    have t2 : ((L.drop k).map EntryD.cs).flatten.length = (m - k) * 2 := by rw [jas jaj, List.length_map, ld]
    have n1 : ∀ j u, ((L.take k).map EntryD.cs).flatten[j]? = some u -> (wq.alloc (.cells #[] 57)).cell? ((⟨g, 0, none⟩ : Addr).add j) = some u := fun j u hj => by
     rw [addP, Nat.zero_add]
     exact jaa (qal wq _) (hOq.cell (flat_fst (k := k) (by rw [hmk]; exact hj)))
    have HD : Hid (∀ w2, Below wq.heap.size wq w2 -> ∀ j u, ((L.drop k).map EntryD.cs).flatten[j]? = some u -> w2.cell? ⟨g, k * 2 + j, none⟩ = some u) := fun w2 hb j u hj => jaa hb (hOq.cell (flat_snd jaj (by rw [List.length_map, HM.out]; omega) (by rw [hmd]; exact hj)))
    have HE : Hid (insX L x = (L.take k ++ [x]) ++ L.drop k) := by simp only [Hid]; rw [insX_at, HA.out]
    have hE := ja3 wq 57 2
    have k2 : (k : Int) <= (c : Int) := by omega
    have k3 : (k : Int) <= (m : Int) := by omega
    clear hOq hmk hmd
    go_wp2_with (first | (at_builtin; refine wpList_append_own _ rfl _ _ 39 rfl wq.heap.size 57 i0 (.agg #[.int .i64 0, .int .i64 0]) 2 16 Tryz.underlying39 hi hz0 hz1 hz2 rfl (by decide) _ _ _ rfl hE ⟨g, 0, none⟩ k c ((L.take k).map EntryD.cs).flatten rfl t1 n1 jbl ?a3 ?a4 ?a5 ?_) | fail)
    case a3 => unfold maxLen; omega
    case a4 => omega
    case a5 => simp
    intro v1 w1 hown1 hgrow1 _
    have hB1 : Below wq.heap.size wq w1 := (qal wq _).grown hgrow1 (by simp) (fun j hj => (hE.lt j hj).1)
    obtain ⟨a1, m1, x1, rfl⟩ := jac hown1
    have hs1 := hB1.size
    have f0 := jaa hB1 e0
    have f1 := jaa hB1 e1
    clear hgrow1 hE n1 t1 e0 e1
    go_wp2_with (first | (at_builtin; refine wpList_append_own _ rfl _ _ 39 rfl wq.heap.size 57 i0 (.agg #[.int .i64 0, .int .i64 0]) 2 16 Tryz.underlying39 hi hz0 hz1 hz2 rfl (by decide) _ _ _ rfl (World.ownsRow.alloc hown1 _) ⟨w1.heap.size, 0, none⟩ 1 1 [.int .i64 x.at_, .int .i64 x.id] rfl rfl ?b1 ?b2 ?b3 ?b4 ?b5 ?_) | fail)
    case b1 => exact jah _ [.int .i64 x.at_, .int .i64 x.id] _
    case b2 => intro u hu; simp at hu; rcases hu with rfl | rfl <;> rfl
    case b3 => unfold maxLen; omega
    case b4 => omega
    case b5 => simp; omega
    intro v2 w2 hown2 hgrow2 _
    have hB2 : Below wq.heap.size wq w2 := (hB1.alloc hB1.size _).grown hgrow2 (by simp; omega) (fun j hj => (hown1.lt j hj).1)
    obtain ⟨a2, m2, x2, rfl⟩ := jac hown2
    have hs2 := hB2.size
    have n2 := HD.out w2 hB2
    clear hgrow2 hown1 hB1 f0 f1
    by_cases hck : c = k
    ·exfalso; omega
    ·skip
     have n3 : ∀ j u, ((L.drop k).map EntryD.cs).flatten[j]? = some u -> w2.cell? ((⟨g, k * 2, none⟩ : Addr).add j) = some u := fun j u hj => by rw [addP]; exact n2 j u hj
     go_wp2_with (first | (at_builtin; refine wpList_append_own _ rfl _ _ 39 rfl wq.heap.size 57 i0 (.agg #[.int .i64 0, .int .i64 0]) 2 16 Tryz.underlying39 hi hz0 hz1 hz2 rfl (by decide) _ _ _ rfl hown2 ⟨g, k * 2, none⟩ (m - k) (c - k) ((L.drop k).map EntryD.cs).flatten rfl t2 n3 jbl ?g3 ?g4 ?g5 ?_) | fail)
     case g3 => unfold maxLen; omega
     case g4 => omega
     case g5 => omega
     intro v3 w3 hown3 hgrow3 _
     have hB3 : Below wq.heap.size wq w3 := hB2.grown hgrow3 (by omega) (fun j hj => (hown2.lt j hj).1)
     have HO : Hid (Zg w3 w.heap.size v3 (insX L x)) := by
      simp only [Hid]
      have h9 : w3.ownsRow wq.heap.size 57 2 v3 (insX L x).length ((insX L x).map EntryD.cs).flatten := by
       rw [jbb, HM.out, HE.out, List.map_append, List.map_append, List.flatten_append, List.flatten_append]
       have hx : k + 1 + (m - k) = m + 1 := by omega
       rw [hx] at hown3
       simpa [EntryD.cs] using hown3
      exact jak h9 hBq.size
     obtain ⟨g3, x3, hv3, hx3⟩ := HO.out.shape (by rw [jbb]; omega)
     rw [jbb, HM.out] at hv3 hx3
     subst hv3
     have hBx : Below w.heap.size w w3 := qtr hBq hB3
     clear hgrow3 hown3 hown2 hB2 hB3 n2 n3 t2 HD
     go_wp2
     go_ret
     exact ⟨g3, x3, rfl, hx3, HO.out, hBx⟩
  ·have k1 : ¬ (k : Int) < (m : Int) := by omega
   have HA : Hid (aheadX L x = k) := aheadX_of HS.out (fun z hz => by have := (List.getElem?_eq_some_iff.mp hz).1; have := HM.out; omega) (by have := HM.out; omega)
   have q0 : decide ((k : Int) < (m : Int)) = false := decide_eq_false k1
   go_wp2_with fail
   go_quiet (fail)
   have hOq : Zg (wb.drewN nq) base (.slice (some ⟨g, 0, none⟩) m c) L := jae hOb (blN wb nq)
   have hBq : Below w.heap.size w (wb.drewN nq) := (qtr hB0 hBb).trans ((blN wb nq).mono (qtr hB0 hBb).size)
   have e0 := jaa (blN wb nq) d0
   have e1 := jaa (blN wb nq) d1
   clear hOb hB0 hBb d0 d1 HS
   generalize wb.drewN nq = wq at *
   have lk : (L.take k).length = k := by rw [List.length_take, HM.out]; omega
   have ld : (L.drop k).length = m - k := by rw [List.length_drop, HM.out]
   have hmk : (L.map EntryD.cs).take k = (L.take k).map EntryD.cs := List.map_take.symm
   have hmd : (L.map EntryD.cs).drop k = (L.drop k).map EntryD.cs := List.map_drop.symm
   have t1 : ((L.take k).map EntryD.cs).flatten.length = k * 2 := by rw [jas jaj, List.length_map, lk]
   have t2 : ((L.drop k).map EntryD.cs).flatten.length = (m - k) * 2 := by rw [jas jaj, List.length_map, ld]
   have n1 : ∀ j u, ((L.take k).map EntryD.cs).flatten[j]? = some u -> (wq.alloc (.cells #[] 57)).cell? ((⟨g, 0, none⟩ : Addr).add j) = some u := fun j u hj => by
    rw [addP, Nat.zero_add]
    exact jaa (qal wq _) (hOq.cell (flat_fst (k := k) (by rw [hmk]; exact hj)))
   have HD : Hid (∀ w2, Below wq.heap.size wq w2 -> ∀ j u, ((L.drop k).map EntryD.cs).flatten[j]? = some u -> w2.cell? ⟨g, k * 2 + j, none⟩ = some u) := fun w2 hb j u hj => jaa hb (hOq.cell (flat_snd jaj (by rw [List.length_map, HM.out]; omega) (by rw [hmd]; exact hj)))
   have HE : Hid (insX L x = (L.take k ++ [x]) ++ L.drop k) := by simp only [Hid]; rw [insX_at, HA.out]
   have hE := ja3 wq 57 2
   have k2 : (k : Int) <= (c : Int) := by omega
   have k3 : (k : Int) <= (m : Int) := by omega
   clear hOq hmk hmd
   go_wp2_with (first | (at_builtin; refine wpList_append_own _ rfl _ _ 39 rfl wq.heap.size 57 i0 (.agg #[.int .i64 0, .int .i64 0]) 2 16 Tryz.underlying39 hi hz0 hz1 hz2 rfl (by decide) _ _ _ rfl hE ⟨g, 0, none⟩ k c ((L.take k).map EntryD.cs).flatten rfl t1 n1 jbl ?a3 ?a4 ?a5 ?_) | fail)
   case a3 => unfold maxLen; omega
   case a4 => omega
   case a5 => simp
   intro v1 w1 hown1 hgrow1 _
   have hB1 : Below wq.heap.size wq w1 := (qal wq _).grown hgrow1 (by simp) (fun j hj => (hE.lt j hj).1)
   obtain ⟨a1, m1, x1, rfl⟩ := jac hown1
   have hs1 := hB1.size
   have f0 := jaa hB1 e0
   have f1 := jaa hB1 e1
   clear hgrow1 hE n1 t1 e0 e1
   go_wp2_with (first | (at_builtin; refine wpList_append_own _ rfl _ _ 39 rfl wq.heap.size 57 i0 (.agg #[.int .i64 0, .int .i64 0]) 2 16 Tryz.underlying39 hi hz0 hz1 hz2 rfl (by decide) _ _ _ rfl (World.ownsRow.alloc hown1 _) ⟨w1.heap.size, 0, none⟩ 1 1 [.int .i64 x.at_, .int .i64 x.id] rfl rfl ?b1 ?b2 ?b3 ?b4 ?b5 ?_) | fail)
   case b1 => exact jah _ [.int .i64 x.at_, .int .i64 x.id] _
   case b2 => intro u hu; simp at hu; rcases hu with rfl | rfl <;> rfl
   case b3 => unfold maxLen; omega
   case b4 => omega
   case b5 => simp; omega
   intro v2 w2 hown2 hgrow2 _
   have hB2 : Below wq.heap.size wq w2 := (hB1.alloc hB1.size _).grown hgrow2 (by simp; omega) (fun j hj => (hown1.lt j hj).1)
   obtain ⟨a2, m2, x2, rfl⟩ := jac hown2
   have hs2 := hB2.size
   have n2 := HD.out w2 hB2
   clear hgrow2 hown1 hB1 f0 f1
   by_cases hck : c = k
   ·have hmk2 : k = m := by omega
    have hck2 : k = c := hck.symm
    clear hck
    subst hck2
    subst hmk2
    have t2 : ((L.drop k).map EntryD.cs).flatten.length = 0 * 2 := by rw [t2]; simp
    have n3 : ∀ j u, ((L.drop k).map EntryD.cs).flatten[j]? = some u -> w2.cell? ((⟨g, 0, none⟩ : Addr).add j) = some u := fun j u hj => by have h1 := (List.getElem?_eq_some_iff.1 hj).1; rw [t2] at h1; omega
    go_wp2_with (first | (at_builtin; refine wpList_append_own _ rfl _ _ 39 rfl wq.heap.size 57 i0 (.agg #[.int .i64 0, .int .i64 0]) 2 16 Tryz.underlying39 hi hz0 hz1 hz2 rfl (by decide) _ _ _ rfl hown2 ⟨g, 0, none⟩ 0 0 ((L.drop k).map EntryD.cs).flatten rfl t2 n3 jbl ?g3 ?g4 ?g5 ?_) | fail)
    case g3 => unfold maxLen; omega
    case g4 => omega
    case g5 => omega
    intro v3 w3 hown3 hgrow3 _
    have hB3 : Below wq.heap.size wq w3 := hB2.grown hgrow3 (by omega) (fun j hj => (hown2.lt j hj).1)
    have HO : Hid (Zg w3 w.heap.size v3 (insX L x)) := by
     simp only [Hid]
     have h9 : w3.ownsRow wq.heap.size 57 2 v3 (insX L x).length ((insX L x).map EntryD.cs).flatten := by
      rw [jbb, HM.out, HE.out, List.map_append, List.map_append, List.flatten_append, List.flatten_append]
      have hx : k + 1 + 0 = k + 1 := by omega
      rw [hx] at hown3
      simpa [EntryD.cs] using hown3
     exact jak h9 hBq.size
    obtain ⟨g3, x3, hv3, hx3⟩ := HO.out.shape (by rw [jbb]; omega)
    rw [jbb, HM.out] at hv3 hx3
    subst hv3
    have hBx : Below w.heap.size w w3 := qtr hBq hB3
    clear hgrow3 hown3 hown2 hB2 hB3 n2 n3 t2 HD
    go_wp2
    go_ret
    exact ⟨g3, x3, rfl, hx3, HO.out, hBx⟩
   ·skip
    have n3 : ∀ j u, ((L.drop k).map EntryD.cs).flatten[j]? = some u -> w2.cell? ((⟨g, k * 2, none⟩ : Addr).add j) = some u := fun j u hj => by rw [addP]; exact n2 j u hj
    go_wp2_with (first | (at_builtin; refine wpList_append_own _ rfl _ _ 39 rfl wq.heap.size 57 i0 (.agg #[.int .i64 0, .int .i64 0]) 2 16 Tryz.underlying39 hi hz0 hz1 hz2 rfl (by decide) _ _ _ rfl hown2 ⟨g, k * 2, none⟩ (m - k) (c - k) ((L.drop k).map EntryD.cs).flatten rfl t2 n3 jbl ?g3 ?g4 ?g5 ?_) | fail)
    case g3 => unfold maxLen; omega
    case g4 => omega
    case g5 => omega
    intro v3 w3 hown3 hgrow3 _
    have hB3 : Below wq.heap.size wq w3 := hB2.grown hgrow3 (by omega) (fun j hj => (hown2.lt j hj).1)
    have HO : Hid (Zg w3 w.heap.size v3 (insX L x)) := by
     simp only [Hid]
     have h9 : w3.ownsRow wq.heap.size 57 2 v3 (insX L x).length ((insX L x).map EntryD.cs).flatten := by
      rw [jbb, HM.out, HE.out, List.map_append, List.map_append, List.flatten_append, List.flatten_append]
      have hx : k + 1 + (m - k) = m + 1 := by omega
      rw [hx] at hown3
      simpa [EntryD.cs] using hown3
     exact jak h9 hBq.size
    obtain ⟨g3, x3, hv3, hx3⟩ := HO.out.shape (by rw [jbb]; omega)
    rw [jbb, HM.out] at hv3 hx3
    subst hv3
    have hBx : Below w.heap.size w w3 := qtr hBq hB3
    clear hgrow3 hown3 hown2 hB2 hB3 n2 n3 t2 HD
    go_wp2
    go_ret
    exact ⟨g3, x3, rfl, hx3, HO.out, hBx⟩
end
section
open Go.RowKit
theorem cmp_less (x y : EntryD) : decide (orI (cmpI x.at_ y.at_) (cmpI x.id y.id) < 0) = ja8 x y := by
 unfold orI cmpI
 by_cases h1 : x.at_ < y.at_
 ·rw [lessX_1 h1, if_pos h1, if_neg (by decide)]; rfl
 ·by_cases h2 : y.at_ < x.at_
  ·rw [lessX_2 h2, if_neg h1, if_pos h2, if_neg (by decide)]; rfl
  ·have e : x.at_ = y.at_ := by omega
   rw [if_neg h1, if_neg h2, if_pos rfl]
   by_cases h3 : x.id < y.id
   ·rw [lessX_3 e h3, if_pos h3]; rfl
   ·rw [lessX_4 e h3, if_neg h3]
    by_cases h4 : y.id < x.id
    ·rw [if_pos h4]; rfl
    ·rw [if_neg h4]; rfl
theorem lessX_iff {x y : EntryD} : ja8 x y = true ↔ x.at_ < y.at_ \/ (x.at_ = y.at_ /\ x.id < y.id) := by
 by_cases h1 : x.at_ < y.at_
 ·rw [lessX_1 h1]; exact ⟨fun _ => .inl h1, fun _ => rfl⟩
 ·by_cases h2 : y.at_ < x.at_
  ·rw [lessX_2 h2]; exact ⟨fun h => by (cases h), fun h => by (exfalso; omega)⟩
  ·have e : x.at_ = y.at_ := by omega
   by_cases h3 : x.id < y.id
   ·rw [lessX_3 e h3]; exact ⟨fun _ => .inr ⟨e, h3⟩, fun _ => rfl⟩
   ·rw [lessX_4 e h3]; exact ⟨fun h => by (cases h), fun h => by (exfalso; omega)⟩
theorem lessX_one {x y : EntryD} (h1 : ja8 x y = false) (h2 : ja8 y x = false) : x = y := by
 have a : ¬ (x.at_ < y.at_ \/ (x.at_ = y.at_ /\ x.id < y.id)) := fun h => by rw [lessX_iff.mpr h] at h1; cases h1
 have b : ¬ (y.at_ < x.at_ \/ (y.at_ = x.at_ /\ y.id < x.id)) := fun h => by rw [lessX_iff.mpr h] at h2; cases h2
 cases x; cases y
 simp only at a b
 congr 1 <;> omega
end
section
open Go.RowKit
def Jl (L : List EntryD) : Prop := L.Pairwise fun x y => ja8 x y = true
theorem lessX_no {x y : EntryD} (h1 : ja8 x y = true) (h2 : ja8 y x = true) : False := by
 have a := lessX_iff.mp h1
 have b := lessX_iff.mp h2
 omega
theorem lessX_trans {x y z : EntryD} (h1 : ja8 x y = true) (h2 : ja8 y z = true) : ja8 x z = true := by
 have a := lessX_iff.mp h1
 have b := lessX_iff.mp h2
 exact lessX_iff.mpr (by omega)
theorem insX_mem {l : List EntryD} {e x : EntryD} : x ∈ insX l e ↔ x = e \/ x ∈ l := by
 induction l with
 | nil => simp [insX]
 | cons a l ih =>
  rw [insX]
  split
  ·simp only [List.mem_cons, ih]
   constructor
   ·rintro (h | h | h)
    ·exact .inr (.inl h)
    ·exact .inl h
    ·exact .inr (.inr h)
   ·rintro (h | h | h)
    ·exact .inr (.inl h)
    ·exact .inl h
    ·exact .inr (.inr h)
  ·simp only [List.mem_cons]
theorem insX_up {l : List EntryD} {e : EntryD} (h : Jl l) (hn : e ∉ l) : Jl (insX l e) := by
 unfold Jl at *
 induction l with
 | nil => simp [insX]
 | cons a l ih =>
  have h' := List.pairwise_cons.mp h
  rw [insX]
  split
  ·rename_i ha
   refine List.pairwise_cons.mpr ⟨fun x hx => ?_, ih h'.2 fun hx => hn (List.mem_cons_of_mem _ hx)⟩
   rcases insX_mem.mp hx with rfl | hx
   ·exact ha
   ·exact h'.1 x hx
  ·rename_i ha
   have hae : ja8 e a = true := by
    cases hb : ja8 e a
    ·exact absurd (lessX_one (by simpa using ha) hb) (fun h => hn (by rw [h]; simp))
    ·rfl
   refine List.pairwise_cons.mpr ⟨fun x hx => ?_, h⟩
   rcases List.mem_cons.mp hx with rfl | hx
   ·exact hae
   ·exact lessX_trans hae (h'.1 x hx)
theorem upX_one {L M : List EntryD} (hL : Jl L) (hM : Jl M) (h : ∀ e, e ∈ L ↔ e ∈ M) : L = M := by
 unfold Jl at *
 induction L generalizing M with
 | nil =>
  cases M with
  | nil => rfl
  | cons y M => exact absurd ((h y).mpr (by simp)) (by simp)
 | cons x L ih =>
  cases M with
  | nil => exact absurd ((h x).mp (by simp)) (by simp)
  | cons y M =>
   have hL' := List.pairwise_cons.mp hL
   have hM' := List.pairwise_cons.mp hM
   have hxy : x = y := by
    rcases List.mem_cons.mp ((h x).mp (by simp)) with e | e
    ·exact e
    ·rcases List.mem_cons.mp ((h y).mpr (by simp)) with e2 | e2
     ·exact e2.symm
     ·exact (lessX_no (hM'.1 x e) (hL'.1 y e2)).elim
   subst hxy
   rw [ih hL'.2 hM'.2 fun e => ?_]
   constructor
   ·intro he
    rcases List.mem_cons.mp ((h e).mp (List.mem_cons_of_mem _ he)) with e2 | e2
    ·subst e2; exact (lessX_no (hL'.1 _ he) (hL'.1 _ he)).elim
    ·exact e2
   ·intro he
    rcases List.mem_cons.mp ((h e).mpr (List.mem_cons_of_mem _ he)) with e2 | e2
    ·subst e2; exact (lessX_no (hM'.1 _ he) (hM'.1 _ he)).elim
    ·exact e2
end
section
open Go.RowKit Go.Sort
instance : Inhabited EntryD := ⟨⟨0, 0⟩⟩
theorem cs_at (x : EntryD) {t : Nat} (h : t < 2) : x.cs[t]? = some x.cs[t]! := by
 match t, h with
 | 0, _ => rfl
 | 1, _ => rfl
theorem flat_get (P : List EntryD) {t : Nat} (h : t < P.length * 2) : (P.map EntryD.cs).flatten[t]? = some (P.toArray[t / 2]!.cs)[t % 2]! := by
 have h1 : t / 2 < P.length := by omega
 have h2 : P[t / 2]? = some P.toArray[t / 2]! := by rw [List.getElem?_eq_getElem h1]; simp [getElem!_pos, h1]
 have h3 := jbe (jaj (L := P)) (i := t / 2) (j := t % 2) (by rw [List.getElem?_map, h2]; rfl) (cs_at _ (by omega))
 rw [show t / 2 * 2 + t % 2 = t by omega] at h3
 exact h3
theorem holds_ownsX {w : World} {base g n cap : Nat} {P : List EntryD} (h : Zg w base (.slice (some ⟨g, 0, none⟩) n cap) P) : HoldsK EntryD.cs 2 w g 0 P.toArray /\ g < w.heap.size /\ base <= g /\ n = P.length /\ n <= cap := by
 have hl : (P.map EntryD.cs).flatten.length = P.length * 2 := by rw [jas jaj, List.length_map]
 have h' : w.ownsRow base 57 2 (.slice (some ⟨g, 0, none⟩) n cap) P.length (P.map EntryD.cs).flatten := h
 rcases h'.2 with ⟨e0, _⟩ | ⟨g', cap', cur, e0, hb, hg, hn, hm, hs, ht⟩
 ·cases e0
 injection e0 with e1 e2 e3
 injection e1 with e1
 injection e1 with e1
 subst e1 e2 e3
 refine ⟨fun j hj => ?_, (Array.getElem?_eq_some_iff.1 hg).1, hb, rfl, hn⟩
 have hj2 : j < P.length * 2 := by simpa using hj
 refine ⟨?_, by simp [World.frozen?, hg]⟩
 rw [get_flatK _ _ _ j (by simpa using hj2), Nat.zero_add]
 exact h.cell (flat_get P hj2)
theorem ownsX_put {w : World} {base g n cap q : Nat} {P Q : List EntryD} {os : Array Obj} (h : Zg w base (.slice (some ⟨g, 0, none⟩) n cap) P) (hQ : Q.length = P.length) : Zg (sortWorldK EntryD.cs 2 w g 0 q Q.toArray os) base (.slice (some ⟨g, 0, none⟩) n cap) Q /\ w.grownBy (sortWorldK EntryD.cs 2 w g 0 q Q.toArray os) (some g) := by
 have h' : w.ownsRow base 57 2 (.slice (some ⟨g, 0, none⟩) n cap) P.length (P.map EntryD.cs).flatten := h
 have hl : (Q.map EntryD.cs).flatten.length = Q.length * 2 := by rw [jas jaj, List.length_map]
 rcases h'.2 with ⟨e0, _⟩ | ⟨g', cap', cur, e0, hb, hg, hn, hm, hs, ht⟩
 ·cases e0
 injection e0 with e1 e2 e3
 injection e1 with e1
 injection e1 with e1
 subst e1 e2 e3
 have hlt : g < w.heap.size := (Array.getElem?_eq_some_iff.1 hg).1
 constructor
 ·show World.ownsRow _ _ _ _ _ _ _
  refine ⟨hl, .inr ⟨g, cap, putCells id 0 (flatK EntryD.cs 2 Q.toArray) cur, by rw [hQ], hb, ?_, by omega, hm, by simpa [putCells] using hs, ?_⟩⟩
  ·unfold sortWorldK putRowK
   rw [heap_grow_old _ _ (by simpa using hlt)]
   simp [putRow, mapBlock, Sort.ahead, Array.getElem?_modify, hg, onCells]
  ·apply List.ext_getElem?
   intro j
   rw [List.getElem?_take, Array.getElem?_toList]
   by_cases hj : j < Q.length * 2
   ·have hjc : j < cur.size := by omega
    rw [if_pos hj, flat_get Q hj]
    simp only [putCells, Array.getElem?_mapIdx, Array.getElem?_eq_getElem hjc, Option.map_some]
    rw [if_pos (by simp; omega), Nat.sub_zero, get_flatK _ _ _ j (by simpa using hj)]
    rfl
   ·rw [if_neg hj, List.getElem?_eq_none (by omega)]
 ·refine ⟨rfl, rfl, rfl, by simp [sortWorldK, putRowK], fun k hk hne => ?_⟩
  unfold sortWorldK putRowK
  rw [heap_grow_old _ _ (by simpa using hk)]
  have : g ≠ k := fun e => hne (by rw [e])
  simp [putRow, mapBlock, Sort.ahead, Array.getElem?_modify, this]
def sortX (P : List EntryD) : List EntryD := P.mergeSort fun x y => !ja8 y x
theorem sortX_mem {P : List EntryD} {e : EntryD} : e ∈ sortX P ↔ e ∈ P := (List.mergeSort_perm P _).mem_iff
theorem sortX_len (P : List EntryD) : (sortX P).length = P.length := List.length_mergeSort P
theorem lessX_self (x : EntryD) : ja8 x x = false := by
 cases h : ja8 x x
 ·rfl
 ·exact (lessX_no h h).elim
theorem lessX_neg {x y z : EntryD} (h1 : ja8 x y = false) (h2 : ja8 y z = false) : ja8 x z = false := by
 cases h : ja8 x z
 ·rfl
 ·have a : ¬ (x.at_ < y.at_ \/ (x.at_ = y.at_ /\ x.id < y.id)) := fun h => by rw [lessX_iff.mpr h] at h1; cases h1
  have b : ¬ (y.at_ < z.at_ \/ (y.at_ = z.at_ /\ y.id < z.id)) := fun h => by rw [lessX_iff.mpr h] at h2; cases h2
  have c := lessX_iff.mp h
  exfalso
  omega
theorem sortX_up {P : List EntryD} (h : P.Nodup) : Jl (sortX P) := by
 have hs := List.pairwise_mergeSort (le := fun (x y : EntryD) => !ja8 y x) (fun a b c h1 h2 => by
  simp only [Bool.not_eq_eq_eq_not, Bool.not_true] at *
  exact lessX_neg h2 h1) (fun a b => by
  cases h1 : ja8 b a
  ·rfl
  ·cases h2 : ja8 a b
   ·rfl
   ·exact (lessX_no h1 h2).elim) P
 have hn : (sortX P).Nodup := (List.mergeSort_perm P _).nodup_iff.mpr h
 unfold Jl
 refine (List.pairwise_and_iff.mpr ⟨hs, hn⟩).imp fun {x y} hxy => ?_
 obtain ⟨h1, h2⟩ := hxy
 cases h3 : ja8 x y
 ·exact absurd (lessX_one h3 (by simpa using h1)) h2
 ·rfl
end
end Go.Proofs.YtpejeokacilebaaGreatDoor
