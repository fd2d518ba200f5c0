/- Packed. -/
import Derived.Test.YtgiieknbckhofaaGreatDoorAbbrPu
import Derived.Test.YtgiieknbckhofaaGreatDoorOwn1u
import Derived.Deep.RegionHeld3
set_option maxRecDepth 100000
set_option maxHeartbeats 20000000
set_option linter.unusedSimpArgs false
namespace Go.Proofs.YtgiieknbckhofaaGreatDoor
section
open Go.RowKit
def jb5 : List HapD -> ByteArray
 | [] => ⟨#[]⟩
 | h :: t => if h.save = 0 then h.letter else jb5 t
theorem jjs {l : List HapD} (h : ∀ x ∈ l, x.save ≠ 0) : jb5 l = ⟨#[]⟩ := by
 induction l with
 | nil => rfl
 | cons x l ih => rw [jb5, if_neg (h x (by simp))]; exact ih fun y hy => h y (lmc _ hy)
theorem jo3 {l : List HapD} {k : Nat} {x : HapD} (hx : l[k]? = some x) (h0 : x.save = 0) (hb : ∀ j y, j < k -> l[j]? = some y -> y.save ≠ 0) : jb5 l = x.letter := by
 induction l generalizing k with
 | nil => simp at hx
 | cons a l ih =>
  cases k with
  | zero => simp at hx; subst hx; rw [jb5, if_pos h0]
  | succ k =>
   rw [jb5, if_neg (hb 0 a (by omega) (by simp))]
   exact ih (by simpa using hx) fun j y hj hy => hb (j + 1) y (by omega) (by simpa using hy)
def jdx (H : List HapD) (t : Int) : Nat -> Nat
 | 0 => 0
 | k + 1 => match H[k]? with
  | some h => if h.at_ <= t then k + 1 else jdx H t k
  | none => jdx H t k
def hcnt (H : List HapD) (t : Int) : Nat := jdx H t H.length
theorem jt1 {H : List HapD} {t : Int} {k : Nat} {h : HapD} (hh : H[k]? = some h) (ht : t < h.at_) : jdx H t (k + 1) = jdx H t k := by rw [jdx, hh]; simp only; rw [if_neg (by omega)]
theorem jox {H : List HapD} {t : Int} {k : Nat} {h : HapD} (hh : H[k]? = some h) (ht : h.at_ <= t) : jdx H t (k + 1) = k + 1 := by rw [jdx, hh]; simp only; rw [if_pos ht]
theorem jz5 (H : List HapD) (t : Int) : ∀ k, jdx H t k <= k := by
 intro k
 induction k with
 | zero => exact nlr _
 | succ k ih =>
  rw [jdx]
  split
  ·split <;> omega
  ·omega
theorem jw0 (H : List HapD) (t : Int) : hcnt H t <= H.length := jz5 H t _
theorem jz4 {H : List HapD} {t : Int} {n : Nat} : ∀ {k : Nat}, n <= k -> (∀ i h, n <= i -> i < k -> H[i]? = some h -> t < h.at_) -> jdx H t k = jdx H t n := by
 intro k
 induction k with
 | zero => intro h _; rw [Nat.le_zero.mp h]
 | succ k ih =>
  intro hn h
  by_cases e : n = k + 1
  ·rw [e]
  ·rw [jdx]
   split
   ·rename_i x hx
    rw [if_neg (by have := h k x (by omega) (by omega) hx; omega)]
    exact ih (by omega) fun i y h1 h2 h3 => h i y h1 (by omega) h3
   ·exact ih (by omega) fun i y h1 h2 h3 => h i y h1 (by omega) h3
theorem jz3 {H : List HapD} {t : Int} {n : Nat} (h1 : n <= H.length) (h2 : ∀ i h, n <= i -> H[i]? = some h -> t < h.at_) (h3 : ∀ m h, n = m + 1 -> H[m]? = some h -> h.at_ <= t) : hcnt H t = n := by
 unfold hcnt
 rw [jz4 h1 fun i h hi _ hh => h2 i h hi hh]
 cases n with
 | zero => rfl
 | succ m =>
  obtain ⟨x, hx⟩ : ∃ x, H[m]? = some x := ⟨_, lgg (by omega)⟩
  exact jox hx (h3 m x rfl hx)
def jdh (H : List HapD) : Nat -> HapD
 | 0 => ⟨0, 0, jb5 H⟩
 | m + 1 => H[m]?.getD ⟨0, 0, ⟨#[]⟩⟩
def jas (e : EraD) (H : List HapD) (t : Int) : HapD := if e.rules.size = 0 then ⟨0, e.save, ⟨#[]⟩⟩ else jdh H (hcnt H t)
theorem jjp {e : EraD} {H : List HapD} {t : Int} (h : e.rules.size = 0) : jas e H t = ⟨0, e.save, ⟨#[]⟩⟩ := if_pos h
theorem jel {e : EraD} {H : List HapD} {t : Int} (h : ¬ e.rules.size = 0) : jas e H t = jdh H (hcnt H t) := if_neg h
def jdo (e : EraD) (F : HapD) (t : Int) : TurnD := ⟨t, e.offset + F.save, F.save, jkk e.format F.letter F.save⟩
def turnE (e : EraD) (H : List HapD) (t : Int) : TurnD := jdo e (jas e H t) t
def endU (e : EraD) (H : List HapD) : Int := if e.of.toList == [115] then e.until_ - e.offset else if e.of.toList == [119] then e.until_ - e.offset - (jas e H (e.until_ - e.offset - 1)).save else e.until_
def endE (e : EraD) (H : List HapD) (b : Int) : Int := max b (min (endU e H) 253402300799)
def jd5 (y x : TurnD) : Bool := decide (y.offset = x.offset) && (decide (y.save = x.save) && (y.abbr.toList == x.abbr.toList))
theorem jtp (x : TurnD) : jd5 x x = true := by simp [jd5]
def addT (T : List TurnD) (x : TurnD) : List TurnD := match T.getLast? with
 | some y => if jd5 y x = true then T else T ++ [x]
 | none => T ++ [x]
theorem jed {T : List TurnD} {y x : TurnD} (h : T.getLast? = some y) (hl : jd5 y x = true) : addT T x = T := by rw [addT, h]; simp only; rw [if_pos hl]
theorem jmv {T : List TurnD} {y x : TurnD} (h : T.getLast? = some y) (hl : jd5 y x = false) : addT T x = T ++ [x] := by rw [addT, h]; simp only; rw [if_neg (by rw [hl]; simp)]
theorem juh (T : List TurnD) (x : TurnD) : addT (addT T x) x = addT T x := by
 have hn : addT (T ++ [x]) x = T ++ [x] := jed (y := x) (by simp) (jtp x)
 cases h : T.getLast? with
 | none =>
  have e : addT T x = T ++ [x] := by rw [addT, h]
  rw [e, hn]
 | some y =>
  cases hl : jd5 y x
  ·rw [jmv h hl, hn]
  ·rw [jed h hl, jed h hl]
theorem j0u (T : List TurnD) (x : TurnD) : (addT T x).length <= T.length + 1 := by
 unfold addT
 split
 ·split
  ·omega
  ·simp
 ·simp
def ja7 (f : Int -> TurnD) (L : List Int) (T : List TurnD) : List TurnD := L.foldl (fun T t => addT T (f t)) T
theorem foldT_cons (f : Int -> TurnD) (t : Int) (L : List Int) (T : List TurnD) : ja7 f (t :: L) T = ja7 f L (addT T (f t)) := rfl
theorem jgg (f : Int -> TurnD) (t : Int) (L : List Int) (T : List TurnD) : ja7 f (L ++ [t]) T = addT (ja7 f L T) (f t) := by unfold ja7; rw [List.foldl_append]; rfl
theorem jea (f : Int -> TurnD) : ∀ (L : List Int) (T : List TurnD), (ja7 f L T).length <= T.length + L.length := by
 intro L
 induction L with
 | nil => intro T; simp [ja7]
 | cons t L ih =>
  intro T
  rw [foldT_cons]
  have := ih (addT T (f t))
  have := j0u T (f t)
  simp only [List.length_cons]
  omega
theorem jt6 (f : Int -> TurnD) : ∀ {L A : List Int}, L.Pairwise (· <= ·) -> A.Pairwise (· < ·) -> (∀ t, t ∈ L ↔ t ∈ A) -> ∀ T, ja7 f L T = ja7 f A T := by
 intro L
 induction L with
 | nil =>
  intro A _ _ h T
  cases A with
  | nil => rfl
  | cons y A => exact absurd ((h y).mpr (by simp)) (by simp)
 | cons x L ih =>
  intro A hL hA h T
  cases A with
  | nil => exact absurd ((h x).mp (by simp)) (by simp)
  | cons y A =>
   have gX := List.pairwise_cons.mp hL
   have AQ := List.pairwise_cons.mp hA
   have fu : x = y := by
    have e1 : x <= y := by
     rcases List.mem_cons.mp ((h y).mpr (by simp)) with e | e
     ·omega
     ·exact gX.1 y e
    have e2 : y <= x := by
     rcases List.mem_cons.mp ((h x).mp (by simp)) with e | e
     ·omega
     ·have := AQ.1 x e; omega
    omega
   subst fu
   rw [foldT_cons, foldT_cons]
   by_cases hm : x ∈ L
   ·have h2 : ∀ t, t ∈ L ↔ t ∈ x :: A := fun t => by
     rw [<- h t, List.mem_cons]
     exact ⟨.inr, fun e => e.elim (fun e => by rw [e]; exact hm) id⟩
    rw [ih gX.2 hA h2 (addT T (f x)), foldT_cons, juh]
   ·refine ih gX.2 AQ.2 (fun t => ?_) _
    have ht := h t
    rw [List.mem_cons, List.mem_cons] at ht
    constructor
    ·intro hl
     rcases ht.mp (.inr hl) with e | e
     ·rw [e] at hl; exact absurd hl hm
     ·exact e
    ·intro ha
     rcases ht.mpr (.inr ha) with e | e
     ·have := AQ.1 t ha; omega
     ·exact e
def insA : List Int -> Int -> List Int
 | [], n => [n]
 | a :: l, n => if a < n then a :: insA l n else if a = n then a :: l else n :: a :: l
theorem insA_mem {n t : Int} : ∀ {l : List Int}, t ∈ insA l n ↔ t ∈ l \/ t = n := by
 intro l
 induction l with
 | nil => simp [insA]
 | cons a l ih =>
  rw [insA]
  split
  ·rw [List.mem_cons, ih, List.mem_cons, or_assoc]
  ·split
   ·rename_i h1 h2
    rw [List.mem_cons]
    constructor
    ·exact .inl
    ·rintro (e | e)
     ·exact e
     ·left; omega
   ·rw [List.mem_cons]
    constructor
    ·rintro (e | e)
     ·exact .inr e
     ·exact .inl e
    ·rintro (e | e)
     ·exact .inr e
     ·exact .inl e
theorem j2i {n : Int} : ∀ {l : List Int}, l.Pairwise (· < ·) -> (insA l n).Pairwise (· < ·) := by
 intro l
 induction l with
 | nil => intro _; simp [insA]
 | cons a l ih =>
  intro h
  have h' := List.pairwise_cons.mp h
  rw [insA]
  split
  ·rename_i ha
   refine List.pairwise_cons.mpr ⟨fun t ht => ?_, ih h'.2⟩
   rcases insA_mem.mp ht with e | e
   ·exact h'.1 t e
   ·omega
  ·split
   ·exact h
   ·rename_i h1 h2
    refine List.pairwise_cons.mpr ⟨fun t ht => ?_, h⟩
    rcases List.mem_cons.mp ht with e | e
    ·omega
    ·have := h'.1 t e; omega
def atsF (b : Int) (X : List Int) : List Int := X.foldl insA [b]
theorem jso {X A : List Int} (h : A.Pairwise (· < ·)) : (X.foldl insA A).Pairwise (· < ·) /\ ∀ t, t ∈ X.foldl insA A ↔ t ∈ A \/ t ∈ X := by
 induction X generalizing A with
 | nil => exact ⟨h, fun t => by simp⟩
 | cons x X ih =>
  obtain ⟨h1, h2⟩ := ih (j2i (n := x) h)
  refine ⟨h1, fun t => ?_⟩
  rw [List.foldl_cons, h2 t, insA_mem, List.mem_cons, or_assoc]
theorem jzu (l : List Int) (n : Int) : (insA l n).length <= l.length + 1 := by
 induction l with
 | nil => simp [insA]
 | cons a l ih =>
  rw [insA]
  split
  ·simp only [List.length_cons]; omega
  ·split <;> simp
theorem jju (b : Int) (X : List Int) : (atsF b X).length <= X.length + 1 := by
 unfold atsF
 have : ∀ (X A : List Int), (X.foldl insA A).length <= A.length + X.length := by
  intro X
  induction X with
  | nil => intro A; simp
  | cons x X ih => intro A; rw [List.foldl_cons]; have := ih (insA A x); have := jzu A x; simp only [List.length_cons]; omega
 have := this X [b]
 simp at this
 omega
def inX (H : List HapD) (b e : Int) : List Int := (H.map HapD.at_).filter fun t => decide (b < t) && decide (t < e)
theorem jku (f : Int -> TurnD) {H : List HapD} {b e : Int} {L : List Int} (h1 : L.Pairwise (· <= ·)) (h2 : L.Perm (b :: inX H b e)) (T : List TurnD) : ja7 f L T = ja7 f (atsF b (inX H b e)) T := by
 have h := jso (X := inX H b e) (A := [b]) (by simp)
 refine jt6 f h1 h.1 (fun t => ?_) T
 rw [h2.mem_iff, List.mem_cons, h.2 t, List.mem_singleton]
end
section
open Go.RowKit Go.Sort
def sufM : List HapD -> List Int
 | [] => []
 | h :: t => min ((sufM t).headD 253402300799) h.at_ :: sufM t
theorem jcg : ∀ H : List HapD, (sufM H).length = H.length
 | [] => rfl
 | h :: t => by rw [sufM, List.length_cons, List.length_cons, jcg t]
def ja0 (E : List Int) (k : Nat) : Int := E[k]?.getD 253402300799
theorem jip {E : List Int} {k : Nat} (h : E.length <= k) : ja0 E k = 253402300799 := by unfold ja0; rw [List.getElem?_eq_none h]; rfl
theorem jdp {E : List Int} {k : Nat} {t : Int} (h : E[k]? = some t) : ja0 E k = t := by unfold ja0; rw [h]; rfl
theorem sufM_at : ∀ {H : List HapD} {k : Nat} {h : HapD}, H[k]? = some h -> (sufM H)[k]? = some (min (ja0 (sufM H) (k + 1)) h.at_)
 | [], k, h, hh => by simp at hh
 | a :: t, 0, h, hh => by
  simp at hh
  subst hh
  rw [sufM, List.getElem?_cons_zero]
  congr 2
  unfold ja0
  rw [List.getElem?_cons_succ]
  cases sufM t <;> rfl
 | a :: t, k + 1, h, hh => by
  rw [List.getElem?_cons_succ] at hh
  rw [sufM, List.getElem?_cons_succ, sufM_at hh]
  congr 2
theorem jzp {H : List HapD} {k : Nat} (hk : k < H.length) : ja0 (sufM H) k <= ja0 (sufM H) (k + 1) := by
 obtain ⟨x, hx⟩ := qgg hk
 rw [jdp (sufM_at hx)]
 omega
theorem jr0 {H : List HapD} {i : Nat} : ∀ {j : Nat}, i <= j -> j <= H.length -> ja0 (sufM H) i <= ja0 (sufM H) j := by
 intro j
 induction j with
 | zero => intro h _; rw [Nat.le_zero.mp h]; exact Int.le_refl _
 | succ j ih =>
  intro h hj
  by_cases e : i = j + 1
  ·rw [e]; exact Int.le_refl _
  ·have := ih (by omega) (by omega)
   have := jzp (H := H) (k := j) (by omega)
   omega
theorem jwd {H : List HapD} {t : Int} {m : Nat} (hH : ∀ h ∈ H, h.at_ <= 253402300799) (h1 : m <= H.length) (h2 : ∀ i, i < m -> ¬ t < ja0 (sufM H) i) (h3 : ∀ i, m <= i -> i < H.length -> t < ja0 (sufM H) i) : hcnt H t = m := by
 refine jz3 h1 (fun i h hi hh => ?_) (fun k h e hh => ?_)
 ·have im := (lgs hh).1
  have := h3 i hi im
  rw [jdp (sufM_at hh)] at this
  omega
 ·have fe := (lgs hh).1
  have h4 := h2 k (by omega)
  rw [jdp (sufM_at hh)] at h4
  have h5 := hH h (lmg hh)
  rcases Nat.lt_or_ge (k + 1) H.length with e1 | e1
  ·have := h3 (k + 1) (by omega) e1
   omega
  ·rw [jip (by rw [jcg]; exact e1)] at h4
   omega
def Jc (w : World) (g : Nat) (E : List Int) (k : Nat) : Prop := ∀ i t, k <= i -> E[i]? = some t -> w.cell? (ad g i) = some (iv t)
theorem Jc.below {w w' : World} {g : Nat} {E : List Int} {k : Nat} (h : Jc w g E k) (hb : Bw w w') : Jc w' g E k := fun i t hk hi => jaa hb (h i t hk hi)
theorem Jc.set {w : World} {g m : Nat} {E : List Int} {k : Nat} {t : Int} (h : Jc w g E (k + 1)) (hR : Zf w g m) (hk : k < m) (ht : E[k]? = some t) : Jc (w.setCell (ad g k) (iv t)) g E k := fun i u hi hu => by
 by_cases e : i = k
 ·subst e
  rw [ht] at hu
  injection hu with hu
  subst hu
  obtain ⟨⟨v, hv⟩, _⟩ := hR i hk
  exact wcs _ _ _ hv
 ·rw [wco _ _ _ _ (fun h => e (by injection h with _ h1; exact h1.symm))]
  exact h i u (by omega) hu
theorem jwn : ∃ i : TypeInfo, Tryz.prog.info? 2 = some i /\ i.zero = some (iv 0) /\ i.size = 1 /\ i.bytes = 8 := ⟨_, rfl, rfl, rfl, rfl⟩
theorem jgc (H : List HapD) (a : Option Addr) (ca : Nat) (w : World) (hA : Za w a 3 (H.map HapD.cs)) (hl : H.length <= 2000) :
  Cl 295 #[.slice a H.length ca] w fun e w' => e = .returned (.slice (some (ad w.heap.size 0)) H.length H.length) /\ Jc w' w.heap.size (sufM H) 0 /\ Bw w w' := by
 obtain ⟨i0, hi, aH, aI, aG⟩ := jwn
 obtain ⟨w1, dp, ai, du⟩ := run_make_full (P := Tryz.prog) w w.heap.size 217 2 i0 _ 1 Tryz.underlying217 hi aH aI .i64 .i64 H.length (by rw [aG]; omega) (by unfold maxLen; omega) (nlr _)
 have hR := jd3 ai
 rw [Nat.mul_one] at hR
 have hB : Bw w w1 := (brf _ _).grown du (nlr _) (fun k hk => by cases hk)
 have HE := @sufM_at H
 have lh : Hid (∀ (k : Nat) (h : HapD), H[k]? = some h -> (sufM H)[k]? = some (min (ja0 (sufM H) (k + 1)) h.at_)) := fun k h hh => HE hh
 have h0 : ja0 (sufM H) H.length = 253402300799 := jip (by rw [jcg]; exact nlr _)
 have tV : Jc w1 w.heap.size (sufM H) H.length := fun i t h1 h2 => by have := (lgs h2).1; rw [jcg] at this; omega
 clear HE
 generalize sufM H = E at *
 clear hi aH aI aG ai du
 go_enter Tryz.func295, Tryz.ntmps295
 go_wp2
 go_loopw [4, 5] (fun s4 s5 wr => ∃ m : Nat, m <= H.length /\ s4 = iv (ja0 E m) /\ s5 = iv ((m : Int) - 1) /\ Jc wr w.heap.size E m /\ Zf wr w.heap.size H.length /\ Bw w wr) (fun _ s5 _ => (intOf s5 + 1).toNat)
 case atStart => exact ⟨H.length, nlr _, by rw [h0], rfl, tV, hR, hB⟩
 case round =>
  clear hR hB dp h0 tV
  obtain ⟨m, hm, rfl, gP, hL, hR, hB⟩ := hrel
  cases m with
  | zero =>
   subst gP
   go_wp2
   go_ret
   exact ⟨rfl, hL, hB⟩
  | succ k =>
   rw [show (((k + 1 : Nat) : Int) - 1) = (k : Int) by omega] at gP
   subst gP
   obtain ⟨x, hx⟩ : ∃ x, H[k]? = some x := ⟨_, lgg (by omega)⟩
   obtain ⟨b, o, rfl, hc⟩ := (hA.below hB).at (i := k) (r := x.cs) (by rw [lgm, hx]; rfl)
   have c0 : wr.cell? (ad b (o + k * 3)) = some (iv x.at_) := hc 0 _ rfl
   have hE := lh.out k x hx
   have HL : Hid (ja0 E k = min (ja0 E (k + 1)) x.at_) := jdp hE
   have og := hL.set hR (by omega) hE
   have aN := hR.set (ad w.heap.size k) (iv (min (ja0 E (k + 1)) x.at_))
   have ao : Bw w (wr.setCell (ad w.heap.size k) (iv (min (ja0 E (k + 1)) x.at_))) := hB.setCell (nlr _) _
   obtain ⟨⟨u0, iu⟩, gn⟩ := hR k (by omega)
   have fe : (k : Int) < (H.length : Int) := by omega
   clear hc hx hE hL hR
   generalize ja0 E (k + 1) = t at *
   go_wp2
   go_roundw
   case rel => exact ⟨k, by omega, by rw [HL.out], by rfl, og, aN, ao⟩
   case measure => simp [intOf]
theorem jhl (H : List HapD) (a : Option Addr) (ca : Nat) (w : World) (hA : Za w a 3 (H.map HapD.cs)) (hl : H.length <= 2000) :
  Cl 299 #[.slice a H.length ca] w fun e w' => e = .returned (.string (jb5 H)) /\ Bw w w' := by
 have HA : Hid (∀ (k : Nat) (x : HapD), H[k]? = some x -> x.save = 0 -> (∀ j y, j < k -> H[j]? = some y -> y.save ≠ 0) -> jb5 H = x.letter) := fun k x h1 h2 h3 => jo3 h1 h2 h3
 have HN : Hid ((∀ j y, j < H.length -> H[j]? = some y -> y.save ≠ 0) -> jb5 H = ⟨#[]⟩) := fun h => jjs fun x hx => by
  obtain ⟨j, hj⟩ := lgo hx
  exact h j x (lgs hj).1 hj
 generalize jb5 H = R at *
 go_enter Tryz.func299, Tryz.ntmps299
 go_wp2
 go_loopw [7] (fun s wr => ∃ k : Nat, k <= H.length /\ s = iv k /\ Hid (∀ j y, j < k -> H[j]? = some y -> y.save ≠ 0) /\ Bw w wr) (fun s _ => H.length - (intOf s).toNat)
 case atStart => exact ⟨0, by omega, rfl, fun j y h => by omega, brf _ _⟩
 case round =>
  obtain ⟨k, hk, rfl, hN, hB⟩ := hrel
  have dB := hB.size
  by_cases hlt : k < H.length
  ·obtain ⟨x, hx⟩ := qgg hlt
   obtain ⟨b, o, rfl, hc⟩ := (hA.below hB).at (i := k) (r := x.cs) (by rw [lgm, hx]; rfl)
   have c0 : wr.cell? (ad b (o + k * 3)) = some (iv x.at_) := hc 0 _ rfl
   have c1 := hc 1 _ rfl
   have c2 := hc 2 _ rfl
   have fe : (k : Int) < (H.length : Int) := by omega
   have ao := hB.alloc dB (.cells #[iv x.at_, iv x.save, .string x.letter] 254)
   by_cases h0 : x.save = 0
   ·have HR : Hid (R = x.letter) := HA.out k x hx h0 hN.out
    rw [h0] at ao c1
    clear hc hx hN
    go_wp2
    go_ret
    exact ⟨ret_str HR.out.symm, ao⟩
   ·have HR : Hid (∀ j y, j < k + 1 -> H[j]? = some y -> y.save ≠ 0) := fun j y hj hy => by
     by_cases e : j = k
     ·subst e; rw [hx] at hy; injection hy with hy; subst hy; exact h0
     ·exact hN.out j y (by omega) hy
    clear hc hx hN
    go_wp2
    go_roundw
    case rel => exact ⟨k + 1, by omega, by go_num, HR, ao⟩
    case measure => simp [intOf]; omega
  ·have HR : Hid (R = ⟨#[]⟩) := HN.out fun j y hj hy => hN.out j y (by omega) hy
   have fe : ¬ (k : Int) < (H.length : Int) := by omega
   go_wp2
   go_ret
   exact ⟨ret_str HR.out.symm, hB⟩
end
section
open Go.RowKit Go.Sort
theorem jqr (E : List Int) (g n pe pa i : Nat) (t : Int) (w : World) (hL : Jc w g E 0) (hE : E.length = n) (hi : i < n) (he : w.cell? (ad pe 0) = some (so g n n)) (ha : w.cell? (ad pa 0) = some (iv t)) :
  Cl 298 #[iv i, .pointer (some (ad pe 0)), .pointer (some (ad pa 0))] w fun e w' => e = .returned (.bool (decide (t < ja0 E i))) /\ Bw w w' := by
 obtain ⟨x, hx⟩ : ∃ x, E[i]? = some x := ⟨_, lgg (by omega)⟩
 have c0 : w.cell? (ad g i) = some (iv x) := hL i x (by omega) hx
 rw [jdp hx]
 have hin : (i : Int) < (n : Int) := by omega
 clear hx hL hE hi
 go_enter Tryz.func298, Tryz.ntmps298
 go_wp2_with fail
 go_quiet (fail)
 go_wp2
 go_ret
 exact ⟨rfl, below_drewN (brf _ _) _⟩
theorem jng (H : List HapD) (g pe pa : Nat) (t : Int) (w : World) (hL : Jc w g (sufM H) 0) (hH : ∀ h ∈ H, h.at_ <= 253402300799) (hl : H.length <= 2000) (he : w.cell? (ad pe 0) = some (so g H.length H.length)) (ha : w.cell? (ad pa 0) = some (iv t)) :
  Cl 297 #[iv H.length, .func (.func 298) #[] #[.pointer (some (ad pe 0)), .pointer (some (ad pa 0))]] w fun e w' => e = .returned (iv (hcnt H t)) /\ Bw w w' := by
 have HC : Hid (∀ m, m <= H.length -> (∀ i, i < m -> ja0 (sufM H) i <= t) -> (∀ i, m <= i -> i < H.length -> t < ja0 (sufM H) i) -> hcnt H t = m) := fun m h1 h2 h3 => jwd hH h1 (fun i hi => by have := h2 i hi; omega) h3
 have HM : Hid (∀ a b, a <= b -> b < H.length -> t < ja0 (sufM H) a -> t < ja0 (sufM H) b) := fun a b h1 h2 h3 => by have := jr0 (H := H) h1 (by omega); omega
 have ma := jcg H
 generalize hcnt H t = c at *
 clear hH
 generalize sufM H = E at *
 go_enter Tryz.func297, Tryz.ntmps297
 go_wp2
 go_loopw [5, 6] (fun s5 s6 wr => ∃ lo hi : Nat, lo <= hi /\ hi <= H.length /\ s5 = iv lo /\ s6 = iv hi /\ Hid (∀ i, i < lo -> ja0 E i <= t) /\ Hid (∀ i, hi <= i -> i < H.length -> t < ja0 E i) /\ Bw w wr) (fun s5 s6 _ => (intOf s6).toNat - (intOf s5).toNat)
 case atStart => exact ⟨0, H.length, by omega, by omega, rfl, rfl, fun t ht => by omega, fun t h1 h2 => by omega, brf _ _⟩
 case round =>
  obtain ⟨lo, hi, PH, Gv, rfl, rfl, h1, h2, hB⟩ := hrel
  by_cases hlt : lo < hi
  ·have hS := jqr E g H.length pe pa ((lo + hi) / 2) t wr (hL.below hB) ma (by omega) (jaa hB he) (jaa hB ha)
   rw [show (((lo + hi) / 2 : Nat) : Int) = ((lo : Int) + (hi : Int)) / 2 by omega] at hS
   by_cases hp : t < ja0 E ((lo + hi) / 2)
   ·have HR : Hid (∀ i, (lo + hi) / 2 <= i -> i < H.length -> t < ja0 E i) := fun i ha hb => HM.out _ i ha hb hp
    rw [dte hp] at hS
    clear hp
    go_wp2_with fail
    refine hS.mono ?_
    rintro e w2 ⟨rfl, ac⟩
    go_wp2
    go_roundw
    case rel => exact ⟨lo, (lo + hi) / 2, by omega, by omega, rfl, by rw [show ((lo : Int) + (hi : Int)) / 2 = (((lo + hi) / 2 : Nat) : Int) by omega], h1, HR, (qtr hB ac)⟩
    case measure => simp [intOf]; omega
   ·have HR : Hid (∀ i, i < (lo + hi) / 2 + 1 -> ja0 E i <= t) := fun i yb => Int.not_lt.mp fun hc => hp (HM.out i ((lo + hi) / 2) (by omega) (by omega) hc)
    rw [dfe hp] at hS
    clear hp
    go_wp2_with fail
    refine hS.mono ?_
    rintro e w2 ⟨rfl, ac⟩
    go_wp2
    go_roundw
    case rel => exact ⟨(lo + hi) / 2 + 1, hi, by omega, Gv, by rw [show ((lo : Int) + (hi : Int)) / 2 + 1 = (((lo + hi) / 2 + 1 : Nat) : Int) by omega], rfl, HR, h2, (qtr hB ac)⟩
    case measure => simp [intOf]; omega
  ·obtain rfl : hi = lo := by omega
   have HR : Hid (c = hi) := HC.out hi Gv h1.out h2.out
   go_wp2
   go_ret
   exact ⟨ret_int (by rw [HR.out]), hB⟩
theorem jdc {w : World} {b : Nat} {x0 x1 x2 v0 v1 v2 : Value} (h0 : w.cell? (ad b 0) = some x0) (h1 : w.cell? (ad b 1) = some x1) (h2 : w.cell? (ad b 2) = some x2) :
  (((w.setCell (ad b 0) v0).setCell (ad b 1) v1).setCell (ad b 2) v2).cell? (ad b 0) = some v0 /\ (((w.setCell (ad b 0) v0).setCell (ad b 1) v1).setCell (ad b 2) v2).cell? (ad b 1) = some v1 /\ (((w.setCell (ad b 0) v0).setCell (ad b 1) v1).setCell (ad b 2) v2).cell? (ad b 2) = some v2 := by
 refine ⟨?_, ?_, ?_⟩
 ·rw [wco _ _ _ _ (by simp), wco _ _ _ _ (by simp), wcs _ _ _ h0]
 ·rw [wco _ _ _ _ (by simp)]
  refine wcs _ _ _ (u := x1) ?_
  rw [wco _ _ _ _ (by simp)]; exact h1
 ·refine wcs _ _ _ (u := x2) ?_
  rw [wco _ _ _ _ (by simp), wco _ _ _ _ (by simp)]; exact h2
theorem jqu (pz : Nat) (t s : Int) (w : World) (hz : w.cell? (ad pz 2) = some (iv s)) :
  Cl 294 #[iv t, .pointer (some (ad pz 0))] w fun e w' => e = .returned (HapD.v ⟨0, s, ⟨#[]⟩⟩) /\ Bw w w' := by
 have aI := jaa (qal w (.cells #[iv 0, iv 0, .string ⟨#[]⟩] 254)) hz
 simp only [HapD.v]
 go_enter Tryz.func294, Tryz.ntmps294
 go_wp2
 exact bpr (v := .agg #[iv 0, iv s, .string ⟨#[]⟩]) (by simp [results, Tryz.results294, go_sem]) rfl ⟨rfl, qal _ _⟩
theorem jqt (H : List HapD) (a : Option Addr) (ca g ph pe : Nat) (t : Int) (w : World) (hA : Za w a 3 (H.map HapD.cs)) (hL : Jc w g (sufM H) 0) (hH : ∀ h ∈ H, h.at_ <= 253402300799) (hl : H.length <= 2000) (hh : w.cell? (ad ph 0) = some (.slice a H.length ca)) (he : w.cell? (ad pe 0) = some (so g H.length H.length)) :
  Cl 296 #[iv t, .pointer (some (ad ph 0)), .pointer (some (ad pe 0))] w fun e w' => e = .returned (jdh H (hcnt H t)).v /\ Bw w w' := by
 have ag := (qal w (.cells #[iv t] 2)).alloc (by simp) (.cells #[iv 0, iv 0, .string ⟨#[]⟩] 254)
 have hF := fun w (h : Za w a 3 (H.map HapD.cs)) => jhl H a ca w h hl
 have hc := jw0 H t
 have h0 := jaa ag hh
 have h1 := jaa ag he
 have ha : ((w.alloc (.cells #[iv t] 2)).alloc (.cells #[iv 0, iv 0, .string ⟨#[]⟩] 254)).cell? (ad w.heap.size 0) = some (iv t) := by simp [go_sem]
 have hS := jng H g pe w.heap.size t ((w.alloc (.cells #[iv t] 2)).alloc (.cells #[iv 0, iv 0, .string ⟨#[]⟩] 254)) (hL.below ag) hH hl h1 ha
 obtain ⟨m, hm⟩ := qeb (hcnt H t)
 rw [hm] at hS hc ⊢
 clear hm hH hL
 go_enter Tryz.func296, Tryz.ntmps296
 go_wp2_with fail
 refine hS.mono ?_
 rintro e w1 ⟨rfl, hb1⟩
 obtain ⟨aY, cZ⟩ := jaf hb1
 have aj := ag.trans (hb1.mono (by simp; omega))
 have r0 : w1.cell? (ad (w.heap.size + 1) 0) = some (iv 0) := (aY _ _ (by simp)).trans (by simp [go_sem])
 have r1 : w1.cell? (ad (w.heap.size + 1) 1) = some (iv 0) := (aY _ _ (by simp)).trans (by simp [go_sem])
 have r2 : w1.cell? (ad (w.heap.size + 1) 2) = some (.string ⟨#[]⟩) := (aY _ _ (by simp)).trans (by simp [go_sem])
 have f0 : w1.frozen? (ad (w.heap.size + 1) 0) = false := (cZ _ _ (by simp)).trans (by simp [go_sem])
 have f1 : w1.frozen? (ad (w.heap.size + 1) 1) = false := (cZ _ _ (by simp)).trans (by simp [go_sem])
 have f2 : w1.frozen? (ad (w.heap.size + 1) 2) = false := (cZ _ _ (by simp)).trans (by simp [go_sem])
 have y0 := jaa aj hh
 clear aY cZ hb1 hS ha h0 h1
 cases m with
 | zero =>
  go_wp2_with fail
  refine (hF _ (hA.below aj)).mono ?_
  rintro e w2 ⟨rfl, ac⟩
  obtain ⟨cY, ep⟩ := jaf ac
  have ao := qtr aj ac
  have q0 := jaa ac r0
  have q1 := jaa ac r1
  have q2 := jaa ac r2
  have e0 := (ep _ _ (qbl r0)).trans f0
  have e1 := (ep _ _ (qbl r1)).trans f1
  have e2 := (ep _ _ (qbl r2)).trans f2
  obtain ⟨s0, s1, s2⟩ := jdc (v0 := iv 0) (v1 := iv 0) (v2 := .string (jb5 H)) q0 q1 q2
  clear cY ep ac r0 r1 r2 f0 f1 f2
  go_wp2
  exact bpr (v := .agg #[iv 0, iv 0, .string (jb5 H)]) (by simp [results, Tryz.results296, go_sem, s0, s1, s2]) rfl ⟨rfl, ((ao.setCell (show w.heap.size <= w.heap.size + 1 by omega) _).setCell (show w.heap.size <= w.heap.size + 1 by omega) _).setCell (show w.heap.size <= w.heap.size + 1 by omega) _⟩
 | succ m =>
  obtain ⟨x, hx⟩ : ∃ x, H[m]? = some x := ⟨_, lgg (by omega)⟩
  obtain ⟨b, o, rfl, fc⟩ := (hA.below aj).at (i := m) (r := x.cs) (by rw [lgm, hx]; rfl)
  have c0 : w1.cell? (ad b (o + m * 3)) = some (iv x.at_) := fc 0 _ rfl
  have c1 := fc 1 _ rfl
  have c2 := fc 2 _ rfl
  have HR : Hid (jdh H (m + 1) = x) := by simp only [Hid, jdh]; rw [hx]; rfl
  obtain ⟨s0, s1, s2⟩ := jdc (v0 := iv x.at_) (v1 := iv x.save) (v2 := .string x.letter) r0 r1 r2
  have PL : (m : Int) < (H.length : Int) := by omega
  clear fc hx
  go_wp2
  exact bpr (v := .agg #[iv x.at_, iv x.save, .string x.letter]) (by simp [results, Tryz.results296, go_sem, s0, s1, s2]) rfl ⟨by rw [HR.out]; rfl, ((aj.setCell (show w.heap.size <= w.heap.size + 1 by omega) _).setCell (show w.heap.size <= w.heap.size + 1 by omega) _).setCell (show w.heap.size <= w.heap.size + 1 by omega) _⟩
end
section
open Go.RowKit Go.Sort
def Mid (n0 n1 : Nat) (w W : World) : Prop := ∀ b, n0 <= b -> b < n1 -> W.heap[b]? = w.heap[b]?
theorem Mid.refl (n0 n1 : Nat) (w : World) : Mid n0 n1 w w := fun _ _ _ => rfl
theorem Mid.trans {n0 n1 : Nat} {w W W' : World} (h : Mid n0 n1 w W) (h' : Mid n0 n1 W W') : Mid n0 n1 w W' := fun b h1 h2 => (h' b h1 h2).trans (h b h1 h2)
theorem Mid.of_below {n0 n1 : Nat} {w W : World} (h : Bw w W) (hn : n1 <= w.heap.size) : Mid n0 n1 w W := fun b _ h2 => h.block b (by omega)
theorem Mid.cell {n0 n1 : Nat} {w W : World} (h : Mid n0 n1 w W) {b o : Nat} {v : Value} (h1 : n0 <= b) (h2 : b < n1) (hc : w.cell? (ad b o) = some v) : W.cell? (ad b o) = some v := (World.cell?_of_block (a := (ad b o)) (h b h1 h2)).trans hc
theorem Za.mid {n0 n1 : Nat} {w W : World} {a : Option Addr} {q : Nat} {rows : List (List Value)} (h : Za w a q rows) (hm : Mid n0 n1 w W) (ha : ∀ b o, a = some (ad b o) -> n0 <= b /\ b < n1) : Za W a q rows := by
 rcases h with h | ⟨b, o, rfl, h⟩
 ·exact .inl h
 ·obtain ⟨h1, h2⟩ := ha b o rfl
  exact .inr ⟨b, o, rfl, fun i j r c hi hj => hm.cell h1 h2 (h i j r c hi hj)⟩
structure Ju (w : World) (n0 n1 K : Nat) (cap : Array Value) (e : EraD) (H : List HapD) : Prop where
 go : ∀ (bT : Array Value) (W : World), (callFunc K bT).run Tryz.prog W = .ok (.enter K bT) W
 tell : ∀ (W : World) (t : Int), Mid n0 n1 w W -> Cl K (#[iv t] ++ cap) W fun r W' => r = .returned (jas e H t).v /\ Bw W W'
theorem Ju.mid {w w' : World} {n0 n1 K : Nat} {cap : Array Value} {e : EraD} {H : List HapD} (h : Ju w n0 n1 K cap e H) (hb : Mid n0 n1 w w') : Ju w' n0 n1 K cap e H := ⟨h.go, fun W t hB => h.tell W t (hb.trans hB)⟩
theorem joo (e : EraD) (H : List HapD) (a : Option Addr) (ca n0 : Nat) (w : World) (hA : Za w a 3 (H.map HapD.cs)) (ha : ∀ b o, a = some (ad b o) -> n0 <= b /\ b < w.heap.size) (hn : n0 <= w.heap.size) (hH : ∀ h ∈ H, h.at_ <= 253402300799) (hl : H.length <= 2000) :
  Cl 277 #[e.v, .slice a H.length ca] w fun r W' => ∃ K cap, r = .returned (.func (.func K) #[] cap) /\ Ju W' n0 W'.heap.size K cap e H /\ Bw w W' := by
 have hE := fun w (h : Za w a 3 (H.map HapD.cs)) => jgc H a ca w h hl
 have ag := (qal w (.cells #[iv e.offset, .string e.rules, iv e.save, .string e.format, iv e.until_, .string e.of] 178)).alloc (by simp) (.cells #[.slice a H.length ca] 249)
 obtain ⟨z0, z1⟩ : (fun z : World => z.cell? (ad w.heap.size 2) = some (iv e.save) /\ z.cell? (ad (w.heap.size + 1) 0) = some (.slice a H.length ca)) ((w.alloc (.cells #[iv e.offset, .string e.rules, iv e.save, .string e.format, iv e.until_, .string e.of] 178)).alloc (.cells #[.slice a H.length ca] 249)) := by simp [go_sem]
 by_cases h0 : e.rules.size = 0
 ·have hr : e.rules = ⟨#[]⟩ := jfx (l := []) (by rw [<- List.length_eq_zero_iff, jah]; exact h0)
  have HF : Hid (Ju ((w.alloc (.cells #[iv e.offset, .string e.rules, iv e.save, .string e.format, iv e.until_, .string e.of] 178)).alloc (.cells #[.slice a H.length ca] 249)) n0 ((w.alloc (.cells #[iv e.offset, .string e.rules, iv e.save, .string e.format, iv e.until_, .string e.of] 178)).alloc (.cells #[.slice a H.length ca] 249)).heap.size 294 #[.pointer (some (ad w.heap.size 0))] e H) := ⟨fun _ _ => by kernel_rfl, fun W t hB => by
   rw [jjp h0]
   exact jqu w.heap.size t e.save W (hB.cell hn (by simp; omega) z0)⟩
  rw [hr] at HF ag
  clear h0 z0 z1
  unfold EraD.v
  go_enter Tryz.func277, Tryz.ntmps277
  go_wp2
  go_ret
  exact ⟨_, _, rfl, HF.out, ag⟩
 ·have az : e.rules.toList.isEmpty = false := by
   cases h : e.rules.toList with
   | nil => exact absurd (by rw [toList_dataA] at h; rw [<- jah, h]; rfl) h0
   | cons x l => rfl
  have dK : ((w.alloc (.cells #[iv e.offset, .string e.rules, iv e.save, .string e.format, iv e.until_, .string e.of] 178)).alloc (.cells #[.slice a H.length ca] 249)).heap.size = w.heap.size + 1 + 1 := by simp
  have pJ := hE ((w.alloc (.cells #[iv e.offset, .string e.rules, iv e.save, .string e.format, iv e.until_, .string e.of] 178)).alloc (.cells #[.slice a H.length ca] 249)) (hA.below ag)
  rw [dK] at pJ
  unfold EraD.v
  go_enter Tryz.func277, Tryz.ntmps277
  go_wp2_with fail
  refine pJ.mono ?_
  rintro r w1 ⟨rfl, hL, hb1⟩
  have aj := ag.trans (hb1.mono (by omega))
  have y1 := jaa (by first | exact hb1 | (rw [dK]; exact hb1)) z1
  have ac := qal w1 (.cells #[.slice (some (ad (w.heap.size + 1 + 1) 0)) H.length H.length] 217)
  have ao := qtr aj ac
  have x1 := jaa ac y1
  have x2 : (w1.alloc (.cells #[.slice (some (ad (w.heap.size + 1 + 1) 0)) H.length H.length] 217)).cell? (ad w1.heap.size 0) = some (.slice (some (ad (w.heap.size + 1 + 1) 0)) H.length H.length) := by simp [go_sem]
  have cT := hA.below ao
  have og := hL.below ac
  have HF : Hid (Ju (w1.alloc (.cells #[.slice (some (ad (w.heap.size + 1 + 1) 0)) H.length H.length] 217)) n0 (w1.alloc (.cells #[.slice (some (ad (w.heap.size + 1 + 1) 0)) H.length H.length] 217)).heap.size 296 #[.pointer (some (ad (w.heap.size + 1) 0)), .pointer (some (ad w1.heap.size 0))] e H) := ⟨fun _ _ => by kernel_rfl, fun W t hB => by
   rw [jel h0]
   exact jqt H a ca (w.heap.size + 1 + 1) (w.heap.size + 1) w1.heap.size t W (cT.mid hB fun b o e => by have := ha b o e; have := ao.size; omega) (fun i u hi hu => hB.cell (by omega) (qbl (og i u hi hu)) (og i u hi hu)) hH hl (hB.cell (by omega) (qbl x1) x1) (hB.cell (by have := aj.size; omega) (qbl x2) x2)⟩
  clear pJ hE hL hb1 cT og x1 x2 ac y1 z0 z1
  go_wp2
  go_ret
  exact ⟨_, _, rfl, HF.out, ao⟩
theorem jqv (e : EraD) (H : List HapD) (n0 n1 K : Nat) (cap : Array Value) (b : Int) (w : World) (hF : Ju w n0 n1 K cap e H) (hn : n1 <= w.heap.size) (h1 : -62135596800 <= e.until_) (h2 : e.until_ <= 253402300799) (h3 : -86400 <= e.offset) (h4 : e.offset <= 86400) (h5 : ∀ t, -7200 <= (jas e H t).save /\ (jas e H t).save <= 7200) :
  Cl 278 #[e.v, iv b, .func (.func K) #[] cap] w fun r W' => r = .returned (iv (endE e H b)) /\ Bw w W' := by
 have ag := qal w (.cells #[iv e.offset, .string e.rules, iv e.save, .string e.format, iv e.until_, .string e.of] 178)
 cases hs : (e.of.toList == [115])
 ·cases hw : (e.of.toList == [119])
  ·have HR : Hid (endE e H b = max b (min e.until_ 253402300799)) := by simp only [Hid, endE, endU]; rw [hs, hw]; rfl
   unfold EraD.v
   go_enter Tryz.func278, Tryz.ntmps278
   go_wp2
   go_ret
   exact ⟨ret_int HR.out.symm, ag⟩
  ·have HR : Hid (endE e H b = max b (min (e.until_ - e.offset - (jas e H (e.until_ - e.offset - 1)).save) 253402300799)) := by simp only [Hid, endE, endU]; rw [hs, hw]; rfl
   have hC := hF.tell _ (e.until_ - e.offset - 1) (Mid.of_below ag hn)
   have iX := hF.go
   have h6 := h5 (e.until_ - e.offset - 1)
   generalize jas e H (e.until_ - e.offset - 1) = F at *
   have qB : ∀ w, (Instr.field 254 (.agg #[iv F.at_, iv F.save, .string F.letter]) 1).run Tryz.prog w = .ok (iv F.save) w := fun _ => by kernel_rfl
   unfold HapD.v at hC
   unfold EraD.v
   go_enter Tryz.func278, Tryz.ntmps278
   go_wp2_with fail
   refine hC.mono ?_
   rintro r w1 ⟨rfl, hb1⟩
   go_wp2
   go_ret
   exact ⟨ret_int HR.out.symm, ag.trans (hb1.mono (by simp))⟩
 ·have HR : Hid (endE e H b = max b (min (e.until_ - e.offset) 253402300799)) := by simp only [Hid, endE, endU]; rw [hs]; rfl
  unfold EraD.v
  go_enter Tryz.func278, Tryz.ntmps278
  go_wp2
  go_ret
  exact ⟨ret_int HR.out.symm, ag⟩
end
section
open Go.RowKit Go.Sort
theorem jfj {w : World} {b : Nat} {x0 x1 x2 x3 v0 v1 v2 v3 : Value} (h0 : w.cell? (ad b 0) = some x0) (h1 : w.cell? (ad b 1) = some x1) (h2 : w.cell? (ad b 2) = some x2) (h3 : w.cell? (ad b 3) = some x3) :
  ((((w.setCell (ad b 0) v0).setCell (ad b 1) v1).setCell (ad b 2) v2).setCell (ad b 3) v3).cell? (ad b 0) = some v0 /\ ((((w.setCell (ad b 0) v0).setCell (ad b 1) v1).setCell (ad b 2) v2).setCell (ad b 3) v3).cell? (ad b 1) = some v1 /\ ((((w.setCell (ad b 0) v0).setCell (ad b 1) v1).setCell (ad b 2) v2).setCell (ad b 3) v3).cell? (ad b 2) = some v2 /\ ((((w.setCell (ad b 0) v0).setCell (ad b 1) v1).setCell (ad b 2) v2).setCell (ad b 3) v3).cell? (ad b 3) = some v3 := by
 refine ⟨?_, ?_, ?_, ?_⟩
 ·rw [wco _ _ _ _ (by simp), wco _ _ _ _ (by simp), wco _ _ _ _ (by simp), wcs _ _ _ h0]
 ·rw [wco _ _ _ _ (by simp), wco _ _ _ _ (by simp)]
  refine wcs _ _ _ (u := x1) ?_
  rw [wco _ _ _ _ (by simp)]; exact h1
 ·rw [wco _ _ _ _ (by simp)]
  refine wcs _ _ _ (u := x2) ?_
  rw [wco _ _ _ _ (by simp), wco _ _ _ _ (by simp)]; exact h2
 ·refine wcs _ _ _ (u := x3) ?_
  rw [wco _ _ _ _ (by simp), wco _ _ _ _ (by simp), wco _ _ _ _ (by simp)]; exact h3
theorem ji3 (e : EraD) (F : HapD) (t : Int) (w : World) (hM : MxA w) (hf : e.format.size <= 1048576) (hl : F.letter.size <= 1048576) (h3 : -86400 <= e.offset) (h4 : e.offset <= 86400) (h5 : -7200 <= F.save) (h6 : F.save <= 7200) :
  Cl 281 #[e.v, iv t, F.v] w fun r W' => r = .returned (jdo e F t).v /\ Bw w W' := by
 have hA := fun w hM => jqy e.format F.letter F.save w hM hf hl
 have HR : Hid ((jdo e F t).v = .agg #[iv t, iv (e.offset + F.save), iv F.save, .string (jkk e.format F.letter F.save)]) := rfl
 generalize jkk e.format F.letter F.save = ab at *
 generalize (jdo e F t).v = RV at *
 have ag := (((qal w (.cells #[iv e.offset, .string e.rules, iv e.save, .string e.format, iv e.until_, .string e.of] 178)).alloc (by simp) (.cells #[iv F.at_, iv F.save, .string F.letter] 254)).alloc (by simp; omega) (.cells #[iv 0, iv 0, iv 0, .string ⟨#[]⟩] 220))
 obtain ⟨k0, k3, l1, l2, r0, r1, r2, r3⟩ : (fun z : World => z.cell? (ad w.heap.size 0) = some (iv e.offset) /\ z.cell? (ad w.heap.size 3) = some (.string e.format) /\ z.cell? (ad (w.heap.size + 1) 1) = some (iv F.save) /\ z.cell? (ad (w.heap.size + 1) 2) = some (.string F.letter) /\ z.cell? (ad (w.heap.size + 1 + 1) 0) = some (iv 0) /\ z.cell? (ad (w.heap.size + 1 + 1) 1) = some (iv 0) /\ z.cell? (ad (w.heap.size + 1 + 1) 2) = some (iv 0) /\ z.cell? (ad (w.heap.size + 1 + 1) 3) = some (.string ⟨#[]⟩)) (((w.alloc (.cells #[iv e.offset, .string e.rules, iv e.save, .string e.format, iv e.until_, .string e.of] 178)).alloc (.cells #[iv F.at_, iv F.save, .string F.letter] 254)).alloc (.cells #[iv 0, iv 0, iv 0, .string ⟨#[]⟩] 220)) := by simp [go_sem]
 have f0 : ∀ j, j < 4 -> (((w.alloc (.cells #[iv e.offset, .string e.rules, iv e.save, .string e.format, iv e.until_, .string e.of] 178)).alloc (.cells #[iv F.at_, iv F.save, .string F.letter] 254)).alloc (.cells #[iv 0, iv 0, iv 0, .string ⟨#[]⟩] 220)).frozen? (ad (w.heap.size + 1 + 1) j) = false := fun j hj => by simp [go_sem]
 unfold EraD.v HapD.v
 go_enter Tryz.func281, Tryz.ntmps281
 go_wp2_with fail
 generalize (((w.alloc (.cells #[iv e.offset, .string e.rules, iv e.save, .string e.format, iv e.until_, .string e.of] 178)).alloc (.cells #[iv F.at_, iv F.save, .string F.letter] 254)).alloc (.cells #[iv 0, iv 0, iv 0, .string ⟨#[]⟩] 220)) = W at *
 have ch : Bw w W.drew := ag.trans ((jac W).mono ag.size)
 have Kk := hM.of_below ch
 have gO : ¬ w.heap.size + 1 + 1 = w.heap.size := by omega
 have vq : ¬ w.heap.size = w.heap.size + 1 + 1 := by omega
 have Lw : IntKind.i64.wrap (e.offset + F.save) = e.offset + F.save := by rw [IntKind.wrap_i64]; omega
 go_region_held3 (fun w' => w'.cell? (ad w.heap.size 0) = some (iv e.offset) /\ w'.cell? (ad w.heap.size 3) = some (.string e.format) /\ w'.cell? (ad (w.heap.size + 1) 1) = some (iv F.save) /\ w'.cell? (ad (w.heap.size + 1) 2) = some (.string F.letter)) (go_keep) ((go_at_call 301; refine (hA _ Kk).mono ?_; rintro r w4 ⟨rfl, hb⟩; have q0 := jaa hb k0; have q3 := jaa hb k3; have p1 := jaa hb l1; have p2 := jaa hb l2; have s0 := jaa hb r0; have s1 := jaa hb r1; have s2 := jaa hb r2; have s3 := jaa hb r3; have z0 : w4.frozen? (ad (w.heap.size + 1 + 1) 0) = false := ((jaf hb).2 _ _ (qbl r0)).trans (f0 0 (by omega)); have z1 : w4.frozen? (ad (w.heap.size + 1 + 1) 1) = false := ((jaf hb).2 _ _ (qbl r0)).trans (f0 1 (by omega)); have z2 : w4.frozen? (ad (w.heap.size + 1 + 1) 2) = false := ((jaf hb).2 _ _ (qbl r0)).trans (f0 2 (by omega)); have z3 : w4.frozen? (ad (w.heap.size + 1 + 1) 3) = false := ((jaf hb).2 _ _ (qbl r0)).trans (f0 3 (by omega))))
 all_goals
  go_wp2
  have hB : Bw w w4 := qtr ch hb
  obtain ⟨u0, u1, u2, u3⟩ := jfj (v0 := iv t) (v1 := iv (e.offset + F.save)) (v2 := iv F.save) (v3 := .string ab) s0 s1 s2 s3
  exact bpr (v := .agg #[iv t, iv (e.offset + F.save), iv F.save, .string ab]) (by simp [results, Tryz.results281, go_sem, u0, u1, u2, u3]) rfl ⟨by rw [HR.out], (((hB.setCell (show w.heap.size <= w.heap.size + 1 + 1 by omega) _).setCell (show w.heap.size <= w.heap.size + 1 + 1 by omega) _).setCell (show w.heap.size <= w.heap.size + 1 + 1 by omega) _).setCell (show w.heap.size <= w.heap.size + 1 + 1 by omega) _⟩
end
end Go.Proofs.YtgiieknbckhofaaGreatDoor
