/- Packed: Tb1 Tb2 Tb3 Tb4 Tb5. -/
import Derived.Test.YtbbhpfobcelbfaaGreatDoorRelHapt
import Derived.Test.YtbbhpfobcelbfaaGreatDoorRelPt
import Derived.Test.YtbbhpfobcelbfaaGreatDoorAbbrPt
import Derived.Test.YtbbhpfobcelbfaaGreatDoorOwn1t
import Derived.Lib.MinMax
import Derived.Deep.RegionHeld3
import Derived.Laws.StructEq
namespace Go.Proofs.YtbbhpfobcelbfaaGreatDoor
open Go.RowKit

/-- the letter of the first that saves nothing. -/
def firstL : List HapD → ByteArray
  | [] => ⟨#[]⟩
  | h :: t => if h.save = 0 then h.letter else firstL t
theorem firstL_none {l : List HapD} (h : ∀ x ∈ l, x.save ≠ 0) : firstL l = ⟨#[]⟩ := by
  induction l with
  | nil => rfl
  | cons x l ih => rw [firstL, if_neg (h x (by simp))]; exact ih fun y hy => h y (List.mem_cons_of_mem _ hy)
theorem firstL_at {l : List HapD} {k : Nat} {x : HapD} (hx : l[k]? = some x) (h0 : x.save = 0) (hb : ∀ j y, j < k → l[j]? = some y → y.save ≠ 0) : firstL l = x.letter := by
  induction l generalizing k with
  | nil => simp at hx
  | cons a l ih =>
    cases k with
    | zero => simp at hx; subst hx; rw [firstL, if_pos h0]
    | succ k =>
      rw [firstL, if_neg (hb 0 a (by omega) (by simp))]
      exact ih (by simpa using hx) fun j y hj hy => hb (j + 1) y (by omega) (by simpa using hy)
/-- how many there are up to the last one that is no later than an instant. -/
def hcntK (H : List HapD) (t : Int) : Nat → Nat
  | 0 => 0
  | k + 1 => match H[k]? with
    | some h => if h.at_ ≤ t then k + 1 else hcntK H t k
    | none => hcntK H t k
def hcnt (H : List HapD) (t : Int) : Nat := hcntK H t H.length
theorem hcntK_step {H : List HapD} {t : Int} {k : Nat} {h : HapD} (hh : H[k]? = some h) (ht : t < h.at_) : hcntK H t (k + 1) = hcntK H t k := by rw [hcntK, hh]; simp only; rw [if_neg (by omega)]
theorem hcntK_hit {H : List HapD} {t : Int} {k : Nat} {h : HapD} (hh : H[k]? = some h) (ht : h.at_ ≤ t) : hcntK H t (k + 1) = k + 1 := by rw [hcntK, hh]; simp only; rw [if_pos ht]
theorem hcntK_le (H : List HapD) (t : Int) : ∀ k, hcntK H t k ≤ k := by
  intro k
  induction k with
  | zero => exact Nat.le_refl _
  | succ k ih =>
    rw [hcntK]
    split
    · split <;> omega
    · omega
theorem hcnt_le (H : List HapD) (t : Int) : hcnt H t ≤ H.length := hcntK_le H t _
theorem hcntK_up {H : List HapD} {t : Int} {n : Nat} : ∀ {k : Nat}, n ≤ k → (∀ i h, n ≤ i → i < k → H[i]? = some h → t < h.at_) → hcntK H t k = hcntK H t n := by
  intro k
  induction k with
  | zero => intro h _; rw [Nat.le_zero.mp h]
  | succ k ih =>
    intro hn h
    by_cases e : n = k + 1
    · rw [e]
    · rw [hcntK]
      split
      · rename_i x hx
        rw [if_neg (by have := h k x (by omega) (by omega) hx; omega)]
        exact ih (by omega) fun i y h1 h2 h3 => h i y h1 (by omega) h3
      · exact ih (by omega) fun i y h1 h2 h3 => h i y h1 (by omega) h3
theorem hcnt_one {H : List HapD} {t : Int} {n : Nat} (h1 : n ≤ H.length) (h2 : ∀ i h, n ≤ i → H[i]? = some h → t < h.at_) (h3 : ∀ m h, n = m + 1 → H[m]? = some h → h.at_ ≤ t) : hcnt H t = n := by
  unfold hcnt
  rw [hcntK_up h1 fun i h hi _ hh => h2 i h hi hh]
  cases n with
  | zero => rfl
  | succ m =>
    obtain ⟨x, hx⟩ : ∃ x, H[m]? = some x := ⟨_, List.getElem?_eq_getElem (by omega)⟩
    exact hcntK_hit hx (h3 m x rfl hx)
/-- what is in force. -/
def forceN (H : List HapD) : Nat → HapD
  | 0 => ⟨0, 0, firstL H⟩
  | m + 1 => H[m]?.getD ⟨0, 0, ⟨#[]⟩⟩
def forceE (e : EraD) (H : List HapD) (t : Int) : HapD := if e.rules.size = 0 then ⟨0, e.save, ⟨#[]⟩⟩ else forceN H (hcnt H t)
theorem forceE_no {e : EraD} {H : List HapD} {t : Int} (h : e.rules.size = 0) : forceE e H t = ⟨0, e.save, ⟨#[]⟩⟩ := if_pos h
theorem forceE_yes {e : EraD} {H : List HapD} {t : Int} (h : ¬ e.rules.size = 0) : forceE e H t = forceN H (hcnt H t) := if_neg h
/-- a turn of an era. -/
def madeE (e : EraD) (F : HapD) (t : Int) : TurnD := ⟨t, e.offset + F.save, F.save, abbrD e.format F.letter F.save⟩
def turnE (e : EraD) (H : List HapD) (t : Int) : TurnD := madeE e (forceE e H t) t
/-- where an era ends that is not the last one. -/
def endU (e : EraD) (H : List HapD) : Int := if e.of.toList == [115] then e.until_ - e.offset else if e.of.toList == [119] then e.until_ - e.offset - (forceE e H (e.until_ - e.offset - 1)).save else e.until_
def endE (e : EraD) (H : List HapD) (b : Int) : Int := max b (min (endU e H) 253402300799)
/-- like, but for the instant. -/
def likeT (y x : TurnD) : Bool := decide (y.offset = x.offset) && (decide (y.save = x.save) && (y.abbr.toList == x.abbr.toList))
theorem likeT_refl (x : TurnD) : likeT x x = true := by simp [likeT]
def addT (T : List TurnD) (x : TurnD) : List TurnD := match T.getLast? with
  | some y => if likeT y x = true then T else T ++ [x]
  | none => T ++ [x]
theorem addT_like {T : List TurnD} {y x : TurnD} (h : T.getLast? = some y) (hl : likeT y x = true) : addT T x = T := by rw [addT, h]; simp only; rw [if_pos hl]
theorem addT_new {T : List TurnD} {y x : TurnD} (h : T.getLast? = some y) (hl : likeT y x = false) : addT T x = T ++ [x] := by rw [addT, h]; simp only; rw [if_neg (by rw [hl]; simp)]
theorem addT_nil (x : TurnD) : addT [] x = [x] := rfl
theorem addT_twice (T : List TurnD) (x : TurnD) : addT (addT T x) x = addT T x := by
  have hn : addT (T ++ [x]) x = T ++ [x] := addT_like (y := x) (by simp) (likeT_refl x)
  cases h : T.getLast? with
  | none =>
    have e : addT T x = T ++ [x] := by rw [addT, h]
    rw [e, hn]
  | some y =>
    cases hl : likeT y x
    · rw [addT_new h hl, hn]
    · rw [addT_like h hl, addT_like h hl]
theorem addT_len (T : List TurnD) (x : TurnD) : (addT T x).length ≤ T.length + 1 := by
  unfold addT
  split
  · split
    · omega
    · simp
  · simp
/-- turns at instants, one behind the other. -/
def foldT (f : Int → TurnD) (L : List Int) (T : List TurnD) : List TurnD := L.foldl (fun T t => addT T (f t)) T
theorem foldT_cons (f : Int → TurnD) (t : Int) (L : List Int) (T : List TurnD) : foldT f (t :: L) T = foldT f L (addT T (f t)) := rfl
theorem foldT_snoc (f : Int → TurnD) (t : Int) (L : List Int) (T : List TurnD) : foldT f (L ++ [t]) T = addT (foldT f L T) (f t) := by unfold foldT; rw [List.foldl_append]; rfl
theorem foldT_len (f : Int → TurnD) : ∀ (L : List Int) (T : List TurnD), (foldT f L T).length ≤ T.length + L.length := by
  intro L
  induction L with
  | nil => intro T; simp [foldT]
  | cons t L ih =>
    intro T
    rw [foldT_cons]
    have := ih (addT T (f t))
    have := addT_len T (f t)
    simp only [List.length_cons]
    omega
/-- the same instants, risen, told more than once or once: the same turns. -/
theorem foldT_dups (f : Int → TurnD) : ∀ {L A : List Int}, L.Pairwise (· ≤ ·) → A.Pairwise (· < ·) → (∀ t, t ∈ L ↔ t ∈ A) → ∀ T, foldT f L T = foldT f A T := by
  intro L
  induction L with
  | nil =>
    intro A _ _ h T
    cases A with
    | nil => rfl
    | cons y A => exact absurd ((h y).mpr (by simp)) (by simp)
  | cons x L ih =>
    intro A hL hA h T
    cases A with
    | nil => exact absurd ((h x).mp (by simp)) (by simp)
    | cons y A =>
      have hL' := List.pairwise_cons.mp hL
      have hA' := List.pairwise_cons.mp hA
      have hxy : x = y := by
        have e1 : x ≤ y := by
          rcases List.mem_cons.mp ((h y).mpr (by simp)) with e | e
          · omega
          · exact hL'.1 y e
        have e2 : y ≤ x := by
          rcases List.mem_cons.mp ((h x).mp (by simp)) with e | e
          · omega
          · have := hA'.1 x e; omega
        omega
      subst hxy
      rw [foldT_cons, foldT_cons]
      by_cases hm : x ∈ L
      · have h2 : ∀ t, t ∈ L ↔ t ∈ x :: A := fun t => by
          rw [← h t, List.mem_cons]
          exact ⟨.inr, fun e => e.elim (fun e => by rw [e]; exact hm) id⟩
        rw [ih hL'.2 hA h2 (addT T (f x)), foldT_cons, addT_twice]
      · refine ih hL'.2 hA'.2 (fun t => ?_) _
        have ht := h t
        rw [List.mem_cons, List.mem_cons] at ht
        constructor
        · intro hl
          rcases ht.mp (.inr hl) with e | e
          · rw [e] at hl; exact absurd hl hm
          · exact e
        · intro ha
          rcases ht.mpr (.inr ha) with e | e
          · have := hA'.1 t ha; omega
          · exact e
/-- an instant put among risen ones, once. -/
def insA : List Int → Int → List Int
  | [], n => [n]
  | a :: l, n => if a < n then a :: insA l n else if a = n then a :: l else n :: a :: l
theorem insA_mem {n t : Int} : ∀ {l : List Int}, t ∈ insA l n ↔ t ∈ l ∨ t = n := by
  intro l
  induction l with
  | nil => simp [insA]
  | cons a l ih =>
    rw [insA]
    split
    · rw [List.mem_cons, ih, List.mem_cons, or_assoc]
    · split
      · rename_i h1 h2
        rw [List.mem_cons]
        constructor
        · exact .inl
        · rintro (e | e)
          · exact e
          · left; omega
      · rw [List.mem_cons]
        constructor
        · rintro (e | e)
          · exact .inr e
          · exact .inl e
        · rintro (e | e)
          · exact .inr e
          · exact .inl e
theorem insA_up {n : Int} : ∀ {l : List Int}, l.Pairwise (· < ·) → (insA l n).Pairwise (· < ·) := by
  intro l
  induction l with
  | nil => intro _; simp [insA]
  | cons a l ih =>
    intro h
    have h' := List.pairwise_cons.mp h
    rw [insA]
    split
    · rename_i ha
      refine List.pairwise_cons.mpr ⟨fun t ht => ?_, ih h'.2⟩
      rcases insA_mem.mp ht with e | e
      · exact h'.1 t e
      · omega
    · split
      · exact h
      · rename_i h1 h2
        refine List.pairwise_cons.mpr ⟨fun t ht => ?_, h⟩
        rcases List.mem_cons.mp ht with e | e
        · omega
        · have := h'.1 t e; omega
def atsF (b : Int) (X : List Int) : List Int := X.foldl insA [b]
theorem ats_go {X A : List Int} (h : A.Pairwise (· < ·)) : (X.foldl insA A).Pairwise (· < ·) ∧ ∀ t, t ∈ X.foldl insA A ↔ t ∈ A ∨ t ∈ X := by
  induction X generalizing A with
  | nil => exact ⟨h, fun t => by simp⟩
  | cons x X ih =>
    obtain ⟨h1, h2⟩ := ih (insA_up (n := x) h)
    refine ⟨h1, fun t => ?_⟩
    rw [List.foldl_cons, h2 t, insA_mem, List.mem_cons, or_assoc]
theorem insA_len (l : List Int) (n : Int) : (insA l n).length ≤ l.length + 1 := by
  induction l with
  | nil => simp [insA]
  | cons a l ih =>
    rw [insA]
    split
    · simp only [List.length_cons]; omega
    · split <;> simp
theorem ats_len (b : Int) (X : List Int) : (atsF b X).length ≤ X.length + 1 := by
  unfold atsF
  have : ∀ (X A : List Int), (X.foldl insA A).length ≤ A.length + X.length := by
    intro X
    induction X with
    | nil => intro A; simp
    | cons x X ih => intro A; rw [List.foldl_cons]; have := ih (insA A x); have := insA_len A x; simp only [List.length_cons]; omega
  have := this X [b]
  simp at this
  omega
/-- the instants within an era at which something happens. -/
def inX (H : List HapD) (b e : Int) : List Int := (H.map HapD.at_).filter fun t => decide (b < t) && decide (t < e)
/-- what the program makes of them. -/
theorem times_same (f : Int → TurnD) {H : List HapD} {b e : Int} {L : List Int} (h1 : L.Pairwise (· ≤ ·)) (h2 : L.Perm (b :: inX H b e)) (T : List TurnD) : foldT f L T = foldT f (atsF b (inX H b e)) T := by
  have h := ats_go (X := inX H b e) (A := [b]) (by simp)
  refine foldT_dups f h1 h.1 (fun t => ?_) T
  rw [h2.mem_iff, List.mem_cons, h.2 t, List.mem_singleton]
end Go.Proofs.YtbbhpfobcelbfaaGreatDoor
namespace Go.Proofs.YtbbhpfobcelbfaaGreatDoor
open Go.RowKit Go.Sort

/-- of each place the least instant from there on, or the last of all. -/
def sufM : List HapD → List Int
  | [] => []
  | h :: t => min ((sufM t).headD 253402300799) h.at_ :: sufM t
theorem sufM_len : ∀ H : List HapD, (sufM H).length = H.length
  | [] => rfl
  | h :: t => by rw [sufM, List.length_cons, List.length_cons, sufM_len t]
/-- the least from a place on. -/
def lowAt (E : List Int) (k : Nat) : Int := E[k]?.getD 253402300799
theorem lowAt_end {E : List Int} {k : Nat} (h : E.length ≤ k) : lowAt E k = 253402300799 := by unfold lowAt; rw [List.getElem?_eq_none h]; rfl
theorem lowAt_in {E : List Int} {k : Nat} {t : Int} (h : E[k]? = some t) : lowAt E k = t := by unfold lowAt; rw [h]; rfl
theorem sufM_at : ∀ {H : List HapD} {k : Nat} {h : HapD}, H[k]? = some h → (sufM H)[k]? = some (min (lowAt (sufM H) (k + 1)) h.at_)
  | [], k, h, hh => by simp at hh
  | a :: t, 0, h, hh => by
    simp at hh
    subst hh
    rw [sufM, List.getElem?_cons_zero]
    congr 2
    unfold lowAt
    rw [List.getElem?_cons_succ]
    cases sufM t <;> rfl
  | a :: t, k + 1, h, hh => by
    rw [List.getElem?_cons_succ] at hh
    rw [sufM, List.getElem?_cons_succ, sufM_at hh]
    congr 2
theorem low_step {H : List HapD} {k : Nat} (hk : k < H.length) : lowAt (sufM H) k ≤ lowAt (sufM H) (k + 1) := by
  obtain ⟨x, hx⟩ : ∃ x, H[k]? = some x := ⟨_, List.getElem?_eq_getElem hk⟩
  rw [lowAt_in (sufM_at hx)]
  omega
theorem low_mono {H : List HapD} {i : Nat} : ∀ {j : Nat}, i ≤ j → j ≤ H.length → lowAt (sufM H) i ≤ lowAt (sufM H) j := by
  intro j
  induction j with
  | zero => intro h _; rw [Nat.le_zero.mp h]; exact Int.le_refl _
  | succ j ih =>
    intro h hj
    by_cases e : i = j + 1
    · rw [e]; exact Int.le_refl _
    · have := ih (by omega) (by omega)
      have := low_step (H := H) (k := j) (by omega)
      omega
/-- where the least instants pass an instant is how many there are up to the last in force. -/
theorem low_cnt {H : List HapD} {t : Int} {m : Nat} (hH : ∀ h ∈ H, h.at_ ≤ 253402300799) (h1 : m ≤ H.length) (h2 : ∀ i, i < m → ¬ t < lowAt (sufM H) i) (h3 : ∀ i, m ≤ i → i < H.length → t < lowAt (sufM H) i) : hcnt H t = m := by
  refine hcnt_one h1 (fun i h hi hh => ?_) (fun k h e hh => ?_)
  · have hil := (List.getElem?_eq_some_iff.mp hh).1
    have := h3 i hi hil
    rw [lowAt_in (sufM_at hh)] at this
    omega
  · have hkl := (List.getElem?_eq_some_iff.mp hh).1
    have h4 := h2 k (by omega)
    rw [lowAt_in (sufM_at hh)] at h4
    have h5 := hH h (List.mem_of_getElem? hh)
    rcases Nat.lt_or_ge (k + 1) H.length with e1 | e1
    · have := h3 (k + 1) (by omega) e1
      omega
    · rw [lowAt_end (by rw [sufM_len]; exact e1)] at h4
      omega
/-- instants in memory. -/
def LowAt (w : World) (g : Nat) (E : List Int) (k : Nat) : Prop := ∀ i t, k ≤ i → E[i]? = some t → w.cell? ⟨g, i, none⟩ = some (.int .i64 t)
theorem LowAt.below {w w' : World} {g : Nat} {E : List Int} {k : Nat} (h : LowAt w g E k) (hb : Below w.heap.size w w') : LowAt w' g E k := fun i t hk hi => keepC hb (h i t hk hi)
theorem LowAt.set {w : World} {g m : Nat} {E : List Int} {k : Nat} {t : Int} (h : LowAt w g E (k + 1)) (hR : Room w g m) (hk : k < m) (ht : E[k]? = some t) : LowAt (w.setCell ⟨g, k, none⟩ (.int .i64 t)) g E k := fun i u hi hu => by
  by_cases e : i = k
  · subst e
    rw [ht] at hu
    injection hu with hu
    subst hu
    obtain ⟨⟨v, hv⟩, _⟩ := hR i hk
    exact World.cell?_setCell_same _ _ _ hv
  · rw [World.cell?_setCell_other _ _ _ _ (by simp)]
    exact h i u (by omega) hu
set_option maxRecDepth 100000 in
theorem infoI64 : ∃ i : TypeInfo, Tryz.prog.info? 2 = some i ∧ i.zero = some (.int .i64 0) ∧ i.size = 1 ∧ i.bytes = 8 := ⟨_, rfl, rfl, rfl, rfl⟩
set_option maxHeartbeats 2000000 in
theorem impl_earliestFrom (H : List HapD) (a : Option Addr) (ca : Nat) (w : World) (hA : SeqAt w a 3 (H.map HapD.cs)) (hl : H.length ≤ 2000) :
    Calls Tryz.prog 156 #[.slice a H.length ca] w fun e w' => e = .returned (.slice (some ⟨w.heap.size, 0, none⟩) H.length H.length) ∧ LowAt w' w.heap.size (sufM H) 0 ∧ Below w.heap.size w w' := by
  obtain ⟨i0, hi, hz0, hz1, hz2⟩ := infoI64
  obtain ⟨w1, hrun, hown, hgr⟩ := run_make_full (P := Tryz.prog) w w.heap.size 77 2 i0 _ 1 Tryz.underlying77 hi hz0 hz1 .i64 .i64 H.length (by rw [hz2]; omega) (by unfold maxLen; omega) (Nat.le_refl _)
  have hR := room_of hown
  rw [Nat.mul_one] at hR
  have hB : Below w.heap.size w w1 := (Below.refl _ _).grown hgr (Nat.le_refl _) (fun k hk => by cases hk)
  have HE := @sufM_at H
  have HE2 : Hid (∀ (k : Nat) (h : HapD), H[k]? = some h → (sufM H)[k]? = some (min (lowAt (sufM H) (k + 1)) h.at_)) := fun k h hh => HE hh
  have h0 : lowAt (sufM H) H.length = 253402300799 := lowAt_end (by rw [sufM_len]; exact Nat.le_refl _)
  have h00 : LowAt w1 w.heap.size (sufM H) H.length := fun i t h1 h2 => by have := (List.getElem?_eq_some_iff.mp h2).1; rw [sufM_len] at this; omega
  clear HE
  generalize sufM H = E at *
  clear hi hz0 hz1 hz2 hown hgr
  go_enter Tryz.func156, Tryz.ntmps156
  go_wp2
  go_loopw [4, 5] (fun s4 s5 wr => ∃ m : Nat, m ≤ H.length ∧ s4 = .int .i64 (lowAt E m) ∧ s5 = .int .i64 ((m : Int) - 1) ∧ LowAt wr w.heap.size E m ∧ Room wr w.heap.size H.length ∧ Below w.heap.size w wr) (fun _ s5 _ => (intOf s5 + 1).toNat)
  case atStart => exact ⟨H.length, Nat.le_refl _, by rw [h0], rfl, h00, hR, hB⟩
  case round =>
    clear hR hB hrun h0 h00
    obtain ⟨m, hm, rfl, hs5, hL, hR, hB⟩ := hrel
    cases m with
    | zero =>
      subst hs5
      go_wp2
      go_ret
      exact ⟨rfl, hL, hB⟩
    | succ k =>
      rw [show (((k + 1 : Nat) : Int) - 1) = (k : Int) by omega] at hs5
      subst hs5
      obtain ⟨x, hx⟩ : ∃ x, H[k]? = some x := ⟨_, List.getElem?_eq_getElem (by omega)⟩
      obtain ⟨b, o, rfl, hc⟩ := (hA.below hB).at (i := k) (r := x.cs) (by rw [List.getElem?_map, hx]; rfl)
      have c0 : wr.cell? ⟨b, o + k * 3, none⟩ = some (.int .i64 x.at_) := hc 0 _ rfl
      have hE := HE2.out k x hx
      have HL : Hid (lowAt E k = min (lowAt E (k + 1)) x.at_) := lowAt_in hE
      have hL2 := hL.set hR (by omega) hE
      have hR2 := hR.set ⟨w.heap.size, k, none⟩ (.int .i64 (min (lowAt E (k + 1)) x.at_))
      have hB2 : Below w.heap.size w (wr.setCell ⟨w.heap.size, k, none⟩ (.int .i64 (min (lowAt E (k + 1)) x.at_))) := hB.setCell (Nat.le_refl _) _
      obtain ⟨⟨u0, hu0⟩, hf0⟩ := hR k (by omega)
      have hkl : (k : Int) < (H.length : Int) := by omega
      clear hc hx hE hL hR
      generalize lowAt E (k + 1) = t at *
      go_wp2
      go_roundw
      case rel => exact ⟨k, by omega, by rw [HL.out], by rfl, hL2, hR2, hB2⟩
      case measure => simp [intOf]
set_option maxHeartbeats 2000000 in
theorem impl_firstLetter (H : List HapD) (a : Option Addr) (ca : Nat) (w : World) (hA : SeqAt w a 3 (H.map HapD.cs)) (hl : H.length ≤ 2000) :
    Calls Tryz.prog 160 #[.slice a H.length ca] w fun e w' => e = .returned (.string (firstL H)) ∧ Below w.heap.size w w' := by
  have HA : Hid (∀ (k : Nat) (x : HapD), H[k]? = some x → x.save = 0 → (∀ j y, j < k → H[j]? = some y → y.save ≠ 0) → firstL H = x.letter) := fun k x h1 h2 h3 => firstL_at h1 h2 h3
  have HN : Hid ((∀ j y, j < H.length → H[j]? = some y → y.save ≠ 0) → firstL H = ⟨#[]⟩) := fun h => firstL_none fun x hx => by
    obtain ⟨j, hj⟩ := List.getElem?_of_mem hx
    exact h j x (List.getElem?_eq_some_iff.mp hj).1 hj
  generalize firstL H = R at *
  go_enter Tryz.func160, Tryz.ntmps160
  go_wp2
  go_loopw [7] (fun s wr => ∃ k : Nat, k ≤ H.length ∧ s = .int .i64 k ∧ Hid (∀ j y, j < k → H[j]? = some y → y.save ≠ 0) ∧ Below w.heap.size w wr) (fun s _ => H.length - (intOf s).toNat)
  case atStart => exact ⟨0, by omega, rfl, fun j y h => by omega, Below.refl _ _⟩
  case round =>
    obtain ⟨k, hk, rfl, hN, hB⟩ := hrel
    have hsW := hB.size
    by_cases hlt : k < H.length
    · obtain ⟨x, hx⟩ : ∃ x, H[k]? = some x := ⟨_, List.getElem?_eq_getElem hlt⟩
      obtain ⟨b, o, rfl, hc⟩ := (hA.below hB).at (i := k) (r := x.cs) (by rw [List.getElem?_map, hx]; rfl)
      have c0 : wr.cell? ⟨b, o + k * 3, none⟩ = some (.int .i64 x.at_) := hc 0 _ rfl
      have c1 := hc 1 _ rfl
      have c2 := hc 2 _ rfl
      have hkl : (k : Int) < (H.length : Int) := by omega
      have hB2 := hB.alloc hsW (.cells #[.int .i64 x.at_, .int .i64 x.save, .string x.letter] 36)
      by_cases h0 : x.save = 0
      · have HR : Hid (R = x.letter) := HA.out k x hx h0 hN.out
        rw [h0] at hB2 c1
        clear hc hx hN
        go_wp2
        go_ret
        exact ⟨ret_str HR.out.symm, hB2⟩
      · have HR : Hid (∀ j y, j < k + 1 → H[j]? = some y → y.save ≠ 0) := fun j y hj hy => by
          by_cases e : j = k
          · subst e; rw [hx] at hy; injection hy with hy; subst hy; exact h0
          · exact hN.out j y (by omega) hy
        clear hc hx hN
        go_wp2
        go_roundw
        case rel => exact ⟨k + 1, by omega, by go_num, HR, hB2⟩
        case measure => simp [intOf]; omega
    · have HR : Hid (R = ⟨#[]⟩) := HN.out fun j y hj hy => hN.out j y (by omega) hy
      have hkl : ¬ (k : Int) < (H.length : Int) := by omega
      go_wp2
      go_ret
      exact ⟨ret_str HR.out.symm, hB⟩
end Go.Proofs.YtbbhpfobcelbfaaGreatDoor
namespace Go.Proofs.YtbbhpfobcelbfaaGreatDoor
open Go.RowKit Go.Sort

set_option maxHeartbeats 1000000 in
theorem impl_lowBeh (E : List Int) (g n pe pa i : Nat) (t : Int) (w : World) (hL : LowAt w g E 0) (hE : E.length = n) (hi : i < n) (he : w.cell? ⟨pe, 0, none⟩ = some (.slice (some ⟨g, 0, none⟩) n n)) (ha : w.cell? ⟨pa, 0, none⟩ = some (.int .i64 t)) :
    Calls Tryz.prog 159 #[.int .i64 i, .pointer (some ⟨pe, 0, none⟩), .pointer (some ⟨pa, 0, none⟩)] w fun e w' => e = .returned (.bool (decide (t < lowAt E i))) ∧ Below w.heap.size w w' := by
  obtain ⟨x, hx⟩ : ∃ x, E[i]? = some x := ⟨_, List.getElem?_eq_getElem (by omega)⟩
  have c0 : w.cell? ⟨g, i, none⟩ = some (.int .i64 x) := hL i x (by omega) hx
  rw [lowAt_in hx]
  have hin : (i : Int) < (n : Int) := by omega
  clear hx hL hE hi
  go_enter Tryz.func159, Tryz.ntmps159
  go_wp2_with fail
  go_quiet (fail)
  go_wp2
  go_ret
  exact ⟨rfl, below_drewN (Below.refl _ _) _⟩
set_option maxHeartbeats 2000000 in
theorem sort_SearchL (H : List HapD) (g pe pa : Nat) (t : Int) (w : World) (hL : LowAt w g (sufM H) 0) (hH : ∀ h ∈ H, h.at_ ≤ 253402300799) (hl : H.length ≤ 2000) (he : w.cell? ⟨pe, 0, none⟩ = some (.slice (some ⟨g, 0, none⟩) H.length H.length)) (ha : w.cell? ⟨pa, 0, none⟩ = some (.int .i64 t)) :
    Calls Tryz.prog 158 #[.int .i64 H.length, .func (.func 159) #[] #[.pointer (some ⟨pe, 0, none⟩), .pointer (some ⟨pa, 0, none⟩)]] w fun e w' => e = .returned (.int .i64 (hcnt H t)) ∧ Below w.heap.size w w' := by
  have HC : Hid (∀ m, m ≤ H.length → (∀ i, i < m → lowAt (sufM H) i ≤ t) → (∀ i, m ≤ i → i < H.length → t < lowAt (sufM H) i) → hcnt H t = m) := fun m h1 h2 h3 => low_cnt hH h1 (fun i hi => by have := h2 i hi; omega) h3
  have HM : Hid (∀ a b, a ≤ b → b < H.length → t < lowAt (sufM H) a → t < lowAt (sufM H) b) := fun a b h1 h2 h3 => by have := low_mono (H := H) h1 (by omega); omega
  have hEl := sufM_len H
  generalize hcnt H t = c at *
  clear hH
  generalize sufM H = E at *
  go_enter Tryz.func158, Tryz.ntmps158
  go_wp2
  go_loopw [5, 6] (fun s5 s6 wr => ∃ lo hi : Nat, lo ≤ hi ∧ hi ≤ H.length ∧ s5 = .int .i64 lo ∧ s6 = .int .i64 hi ∧ Hid (∀ i, i < lo → lowAt E i ≤ t) ∧ Hid (∀ i, hi ≤ i → i < H.length → t < lowAt E i) ∧ Below w.heap.size w wr) (fun s5 s6 _ => (intOf s6).toNat - (intOf s5).toNat)
  case atStart => exact ⟨0, H.length, by omega, by omega, rfl, rfl, fun t ht => by omega, fun t h1 h2 => by omega, Below.refl _ _⟩
  case round =>
    obtain ⟨lo, hi, hlh, hhl, rfl, rfl, h1, h2, hB⟩ := hrel
    by_cases hlt : lo < hi
    · have hS := impl_lowBeh E g H.length pe pa ((lo + hi) / 2) t wr (hL.below hB) hEl (by omega) (keepC hB he) (keepC hB ha)
      rw [show (((lo + hi) / 2 : Nat) : Int) = ((lo : Int) + (hi : Int)) / 2 by omega] at hS
      by_cases hp : t < lowAt E ((lo + hi) / 2)
      · have HR : Hid (∀ i, (lo + hi) / 2 ≤ i → i < H.length → t < lowAt E i) := fun i ha hb => HM.out _ i ha hb hp
        rw [decide_eq_true hp] at hS
        clear hp
        go_wp2_with fail
        refine hS.mono ?_
        rintro e w2 ⟨rfl, hb2⟩
        go_wp2
        go_roundw
        case rel => exact ⟨lo, (lo + hi) / 2, by omega, by omega, rfl, by rw [show ((lo : Int) + (hi : Int)) / 2 = (((lo + hi) / 2 : Nat) : Int) by omega], h1, HR, hB.trans (hb2.mono hB.size)⟩
        case measure => simp [intOf]; omega
      · have HR : Hid (∀ i, i < (lo + hi) / 2 + 1 → lowAt E i ≤ t) := fun i hi2 => Int.not_lt.mp fun hc => hp (HM.out i ((lo + hi) / 2) (by omega) (by omega) hc)
        rw [decide_eq_false hp] at hS
        clear hp
        go_wp2_with fail
        refine hS.mono ?_
        rintro e w2 ⟨rfl, hb2⟩
        go_wp2
        go_roundw
        case rel => exact ⟨(lo + hi) / 2 + 1, hi, by omega, hhl, by rw [show ((lo : Int) + (hi : Int)) / 2 + 1 = (((lo + hi) / 2 + 1 : Nat) : Int) by omega], rfl, HR, h2, hB.trans (hb2.mono hB.size)⟩
        case measure => simp [intOf]; omega
    · obtain rfl : hi = lo := by omega
      have HR : Hid (c = hi) := HC.out hi hhl h1.out h2.out
      go_wp2
      go_ret
      exact ⟨ret_int (by rw [HR.out]), hB⟩
theorem set_three3 {w : World} {b : Nat} {x0 x1 x2 v0 v1 v2 : Value} (h0 : w.cell? ⟨b, 0, none⟩ = some x0) (h1 : w.cell? ⟨b, 1, none⟩ = some x1) (h2 : w.cell? ⟨b, 2, none⟩ = some x2) :
    (((w.setCell ⟨b, 0, none⟩ v0).setCell ⟨b, 1, none⟩ v1).setCell ⟨b, 2, none⟩ v2).cell? ⟨b, 0, none⟩ = some v0 ∧ (((w.setCell ⟨b, 0, none⟩ v0).setCell ⟨b, 1, none⟩ v1).setCell ⟨b, 2, none⟩ v2).cell? ⟨b, 1, none⟩ = some v1 ∧ (((w.setCell ⟨b, 0, none⟩ v0).setCell ⟨b, 1, none⟩ v1).setCell ⟨b, 2, none⟩ v2).cell? ⟨b, 2, none⟩ = some v2 := by
  refine ⟨?_, ?_, ?_⟩
  · rw [World.cell?_setCell_other _ _ _ _ (by simp), World.cell?_setCell_other _ _ _ _ (by simp), World.cell?_setCell_same _ _ _ h0]
  · rw [World.cell?_setCell_other _ _ _ _ (by simp)]
    refine World.cell?_setCell_same _ _ _ (u := x1) ?_
    rw [World.cell?_setCell_other _ _ _ _ (by simp)]; exact h1
  · refine World.cell?_setCell_same _ _ _ (u := x2) ?_
    rw [World.cell?_setCell_other _ _ _ _ (by simp), World.cell?_setCell_other _ _ _ _ (by simp)]; exact h2
set_option maxHeartbeats 2000000 in
theorem impl_force1 (pz : Nat) (t s : Int) (w : World) (hz : w.cell? ⟨pz, 2, none⟩ = some (.int .i64 s)) :
    Calls Tryz.prog 155 #[.int .i64 t, .pointer (some ⟨pz, 0, none⟩)] w fun e w' => e = .returned (HapD.v ⟨0, s, ⟨#[]⟩⟩) ∧ Below w.heap.size w w' := by
  have hz1 := keepC ((Below.refl w.heap.size w).alloc (Nat.le_refl _) (.cells #[.int .i64 0, .int .i64 0, .string ⟨#[]⟩] 36)) hz
  simp only [HapD.v]
  go_enter Tryz.func155, Tryz.ntmps155
  go_wp2
  exact bodyPost_ret (v := .agg #[.int .i64 0, .int .i64 s, .string ⟨#[]⟩]) (by simp [results, Tryz.results155, go_sem]) rfl ⟨rfl, (Below.refl _ _).alloc (Nat.le_refl _) _⟩
set_option maxHeartbeats 4000000 in
theorem impl_force2 (H : List HapD) (a : Option Addr) (ca g ph pe : Nat) (t : Int) (w : World) (hA : SeqAt w a 3 (H.map HapD.cs)) (hL : LowAt w g (sufM H) 0) (hH : ∀ h ∈ H, h.at_ ≤ 253402300799) (hl : H.length ≤ 2000) (hh : w.cell? ⟨ph, 0, none⟩ = some (.slice a H.length ca)) (he : w.cell? ⟨pe, 0, none⟩ = some (.slice (some ⟨g, 0, none⟩) H.length H.length)) :
    Calls Tryz.prog 157 #[.int .i64 t, .pointer (some ⟨ph, 0, none⟩), .pointer (some ⟨pe, 0, none⟩)] w fun e w' => e = .returned (forceN H (hcnt H t)).v ∧ Below w.heap.size w w' := by
  have hB0 := ((Below.refl w.heap.size w).alloc (Nat.le_refl _) (.cells #[.int .i64 t] 2)).alloc (by simp) (.cells #[.int .i64 0, .int .i64 0, .string ⟨#[]⟩] 36)
  have hF := fun w (h : SeqAt w a 3 (H.map HapD.cs)) => impl_firstLetter H a ca w h hl
  have hc := hcnt_le H t
  have h0 := keepC hB0 hh
  have h1 := keepC hB0 he
  have ha : ((w.alloc (.cells #[.int .i64 t] 2)).alloc (.cells #[.int .i64 0, .int .i64 0, .string ⟨#[]⟩] 36)).cell? ⟨w.heap.size, 0, none⟩ = some (.int .i64 t) := by simp [go_sem]
  have hS := sort_SearchL H g pe w.heap.size t ((w.alloc (.cells #[.int .i64 t] 2)).alloc (.cells #[.int .i64 0, .int .i64 0, .string ⟨#[]⟩] 36)) (hL.below hB0) hH hl h1 ha
  obtain ⟨m, hm⟩ : ∃ m, hcnt H t = m := ⟨_, rfl⟩
  rw [hm] at hS hc ⊢
  clear hm hH hL
  go_enter Tryz.func157, Tryz.ntmps157
  go_wp2_with fail
  refine hS.mono ?_
  rintro e w1 ⟨rfl, hb1⟩
  obtain ⟨hc1, hf1⟩ := bcell hb1
  have hB1 := hB0.trans (hb1.mono (by simp; omega))
  have r0 : w1.cell? ⟨w.heap.size + 1, 0, none⟩ = some (.int .i64 0) := (hc1 _ _ (by simp)).trans (by simp [go_sem])
  have r1 : w1.cell? ⟨w.heap.size + 1, 1, none⟩ = some (.int .i64 0) := (hc1 _ _ (by simp)).trans (by simp [go_sem])
  have r2 : w1.cell? ⟨w.heap.size + 1, 2, none⟩ = some (.string ⟨#[]⟩) := (hc1 _ _ (by simp)).trans (by simp [go_sem])
  have f0 : w1.frozen? ⟨w.heap.size + 1, 0, none⟩ = false := (hf1 _ _ (by simp)).trans (by simp [go_sem])
  have f1 : w1.frozen? ⟨w.heap.size + 1, 1, none⟩ = false := (hf1 _ _ (by simp)).trans (by simp [go_sem])
  have f2 : w1.frozen? ⟨w.heap.size + 1, 2, none⟩ = false := (hf1 _ _ (by simp)).trans (by simp [go_sem])
  have y0 := keepC hB1 hh
  clear hc1 hf1 hb1 hS ha h0 h1
  cases m with
  | zero =>
    go_wp2_with fail
    refine (hF _ (hA.below hB1)).mono ?_
    rintro e w2 ⟨rfl, hb2⟩
    obtain ⟨hc2, hf2⟩ := bcell hb2
    have hB2 := hB1.trans (hb2.mono hB1.size)
    have q0 := keepC hb2 r0
    have q1 := keepC hb2 r1
    have q2 := keepC hb2 r2
    have e0 := (hf2 _ _ (World.block_lt_of_cell? _ _ r0)).trans f0
    have e1 := (hf2 _ _ (World.block_lt_of_cell? _ _ r1)).trans f1
    have e2 := (hf2 _ _ (World.block_lt_of_cell? _ _ r2)).trans f2
    obtain ⟨s0, s1, s2⟩ := set_three3 (v0 := .int .i64 0) (v1 := .int .i64 0) (v2 := .string (firstL H)) q0 q1 q2
    clear hc2 hf2 hb2 r0 r1 r2 f0 f1 f2
    go_wp2
    exact bodyPost_ret (v := .agg #[.int .i64 0, .int .i64 0, .string (firstL H)]) (by simp [results, Tryz.results157, go_sem, s0, s1, s2]) rfl ⟨rfl, ((hB2.setCell (show w.heap.size ≤ w.heap.size + 1 by omega) _).setCell (show w.heap.size ≤ w.heap.size + 1 by omega) _).setCell (show w.heap.size ≤ w.heap.size + 1 by omega) _⟩
  | succ m =>
    obtain ⟨x, hx⟩ : ∃ x, H[m]? = some x := ⟨_, List.getElem?_eq_getElem (by omega)⟩
    obtain ⟨b, o, rfl, hcc⟩ := (hA.below hB1).at (i := m) (r := x.cs) (by rw [List.getElem?_map, hx]; rfl)
    have c0 : w1.cell? ⟨b, o + m * 3, none⟩ = some (.int .i64 x.at_) := hcc 0 _ rfl
    have c1 := hcc 1 _ rfl
    have c2 := hcc 2 _ rfl
    have HR : Hid (forceN H (m + 1) = x) := by simp only [Hid, forceN]; rw [hx]; rfl
    obtain ⟨s0, s1, s2⟩ := set_three3 (v0 := .int .i64 x.at_) (v1 := .int .i64 x.save) (v2 := .string x.letter) r0 r1 r2
    have hml : (m : Int) < (H.length : Int) := by omega
    clear hcc hx
    go_wp2
    exact bodyPost_ret (v := .agg #[.int .i64 x.at_, .int .i64 x.save, .string x.letter]) (by simp [results, Tryz.results157, go_sem, s0, s1, s2]) rfl ⟨by rw [HR.out]; rfl, ((hB1.setCell (show w.heap.size ≤ w.heap.size + 1 by omega) _).setCell (show w.heap.size ≤ w.heap.size + 1 by omega) _).setCell (show w.heap.size ≤ w.heap.size + 1 by omega) _⟩
end Go.Proofs.YtbbhpfobcelbfaaGreatDoor
namespace Go.Proofs.YtbbhpfobcelbfaaGreatDoor
open Go.RowKit Go.Sort

/-- the blocks from one number up to another are as they were. -/
def Mid (n0 n1 : Nat) (w W : World) : Prop := ∀ b, n0 ≤ b → b < n1 → W.heap[b]? = w.heap[b]?
theorem Mid.refl (n0 n1 : Nat) (w : World) : Mid n0 n1 w w := fun _ _ _ => rfl
theorem Mid.trans {n0 n1 : Nat} {w W W' : World} (h : Mid n0 n1 w W) (h' : Mid n0 n1 W W') : Mid n0 n1 w W' := fun b h1 h2 => (h' b h1 h2).trans (h b h1 h2)
theorem Mid.of_below {n0 n1 : Nat} {w W : World} (h : Below w.heap.size w W) (hn : n1 ≤ w.heap.size) : Mid n0 n1 w W := fun b _ h2 => h.block b (by omega)
theorem Mid.of_grown {n0 n1 : Nat} {w W : World} {row : Option Nat} (h : w.grownBy W row) (hn : n1 ≤ w.heap.size) (hr : ∀ g, row = some g → g < n0 ∨ n1 ≤ g) : Mid n0 n1 w W := fun b h1 h2 => h.block b (by omega) fun e => by have := hr b e.symm; omega
theorem Mid.cell {n0 n1 : Nat} {w W : World} (h : Mid n0 n1 w W) {b o : Nat} {v : Value} (h1 : n0 ≤ b) (h2 : b < n1) (hc : w.cell? ⟨b, o, none⟩ = some v) : W.cell? ⟨b, o, none⟩ = some v := (World.cell?_of_block (a := ⟨b, o, none⟩) (h b h1 h2)).trans hc
theorem SeqAt.mid {n0 n1 : Nat} {w W : World} {a : Option Addr} {q : Nat} {rows : List (List Value)} (h : SeqAt w a q rows) (hm : Mid n0 n1 w W) (ha : ∀ b o, a = some ⟨b, o, none⟩ → n0 ≤ b ∧ b < n1) : SeqAt W a q rows := by
  rcases h with h | ⟨b, o, rfl, h⟩
  · exact .inl h
  · obtain ⟨h1, h2⟩ := ha b o rfl
    exact .inr ⟨b, o, rfl, fun i j r c hi hj => hm.cell h1 h2 (h i j r c hi hj)⟩
/-- a function value that tells what is in force. -/
structure ForceV (w : World) (n0 n1 K : Nat) (cap : Array Value) (e : EraD) (H : List HapD) : Prop where
  go : ∀ (args : Array Value) (W : World), (callFunc K args).run Tryz.prog W = .ok (.enter K args) W
  tell : ∀ (W : World) (t : Int), Mid n0 n1 w W → Calls Tryz.prog K (#[.int .i64 t] ++ cap) W fun r W' => r = .returned (forceE e H t).v ∧ Below W.heap.size W W'
theorem ForceV.mid {w w' : World} {n0 n1 K : Nat} {cap : Array Value} {e : EraD} {H : List HapD} (h : ForceV w n0 n1 K cap e H) (hb : Mid n0 n1 w w') : ForceV w' n0 n1 K cap e H := ⟨h.go, fun W t hB => h.tell W t (hb.trans hB)⟩
set_option maxHeartbeats 4000000 in
theorem impl_inForce (e : EraD) (H : List HapD) (a : Option Addr) (ca n0 : Nat) (w : World) (hA : SeqAt w a 3 (H.map HapD.cs)) (ha : ∀ b o, a = some ⟨b, o, none⟩ → n0 ≤ b ∧ b < w.heap.size) (hn : n0 ≤ w.heap.size) (hH : ∀ h ∈ H, h.at_ ≤ 253402300799) (hl : H.length ≤ 2000) :
    Calls Tryz.prog 96 #[e.v, .slice a H.length ca] w fun r W' => ∃ K cap, r = .returned (.func (.func K) #[] cap) ∧ ForceV W' n0 W'.heap.size K cap e H ∧ Below w.heap.size w W' := by
  have hE := fun w (h : SeqAt w a 3 (H.map HapD.cs)) => impl_earliestFrom H a ca w h hl
  have hB0 := ((Below.refl w.heap.size w).alloc (Nat.le_refl _) (.cells #[.int .i64 e.offset, .string e.rules, .int .i64 e.save, .string e.format, .int .i64 e.until_, .string e.of] 55)).alloc (by simp) (.cells #[.slice a H.length ca] 30)
  have z0 : ((w.alloc (.cells #[.int .i64 e.offset, .string e.rules, .int .i64 e.save, .string e.format, .int .i64 e.until_, .string e.of] 55)).alloc (.cells #[.slice a H.length ca] 30)).cell? ⟨w.heap.size, 2, none⟩ = some (.int .i64 e.save) := by simp [go_sem]
  have z1 : ((w.alloc (.cells #[.int .i64 e.offset, .string e.rules, .int .i64 e.save, .string e.format, .int .i64 e.until_, .string e.of] 55)).alloc (.cells #[.slice a H.length ca] 30)).cell? ⟨w.heap.size + 1, 0, none⟩ = some (.slice a H.length ca) := by simp [go_sem]
  by_cases h0 : e.rules.size = 0
  · have hr : e.rules = ⟨#[]⟩ := bytes_of (l := []) (by rw [← List.length_eq_zero_iff, size_data]; exact h0)
    have HF : Hid (ForceV ((w.alloc (.cells #[.int .i64 e.offset, .string e.rules, .int .i64 e.save, .string e.format, .int .i64 e.until_, .string e.of] 55)).alloc (.cells #[.slice a H.length ca] 30)) n0 ((w.alloc (.cells #[.int .i64 e.offset, .string e.rules, .int .i64 e.save, .string e.format, .int .i64 e.until_, .string e.of] 55)).alloc (.cells #[.slice a H.length ca] 30)).heap.size 155 #[.pointer (some ⟨w.heap.size, 0, none⟩)] e H) := ⟨fun _ _ => by kernel_rfl, fun W t hB => by
      rw [forceE_no h0]
      exact impl_force1 w.heap.size t e.save W (hB.cell hn (by simp; omega) z0)⟩
    rw [hr] at HF hB0
    clear h0 z0 z1
    unfold EraD.v
    go_enter Tryz.func96, Tryz.ntmps96
    go_wp2
    go_ret
    exact ⟨_, _, rfl, HF.out, hB0⟩
  · have hne : e.rules.toList.isEmpty = false := by
      cases h : e.rules.toList with
      | nil => exact absurd (by rw [toList_dataA] at h; rw [← size_data, h]; rfl) h0
      | cons x l => rfl
    have hs0 : ((w.alloc (.cells #[.int .i64 e.offset, .string e.rules, .int .i64 e.save, .string e.format, .int .i64 e.until_, .string e.of] 55)).alloc (.cells #[.slice a H.length ca] 30)).heap.size = w.heap.size + 1 + 1 := by simp
    have hE2 := hE ((w.alloc (.cells #[.int .i64 e.offset, .string e.rules, .int .i64 e.save, .string e.format, .int .i64 e.until_, .string e.of] 55)).alloc (.cells #[.slice a H.length ca] 30)) (hA.below hB0)
    rw [hs0] at hE2
    unfold EraD.v
    go_enter Tryz.func96, Tryz.ntmps96
    go_wp2_with fail
    refine hE2.mono ?_
    rintro r w1 ⟨rfl, hL, hb1⟩
    have hB1 := hB0.trans (hb1.mono (by omega))
    have y1 := keepC (by rw [hs0]; exact hb1) z1
    have hb2 := (Below.refl w1.heap.size w1).alloc (Nat.le_refl _) (.cells #[.slice (some ⟨w.heap.size + 1 + 1, 0, none⟩) H.length H.length] 77)
    have hB2 := hB1.trans (hb2.mono hB1.size)
    have x1 := keepC hb2 y1
    have x2 : (w1.alloc (.cells #[.slice (some ⟨w.heap.size + 1 + 1, 0, none⟩) H.length H.length] 77)).cell? ⟨w1.heap.size, 0, none⟩ = some (.slice (some ⟨w.heap.size + 1 + 1, 0, none⟩) H.length H.length) := by simp [go_sem]
    have hA2 := hA.below hB2
    have hL2 := hL.below hb2
    have HF : Hid (ForceV (w1.alloc (.cells #[.slice (some ⟨w.heap.size + 1 + 1, 0, none⟩) H.length H.length] 77)) n0 (w1.alloc (.cells #[.slice (some ⟨w.heap.size + 1 + 1, 0, none⟩) H.length H.length] 77)).heap.size 157 #[.pointer (some ⟨w.heap.size + 1, 0, none⟩), .pointer (some ⟨w1.heap.size, 0, none⟩)] e H) := ⟨fun _ _ => by kernel_rfl, fun W t hB => by
      rw [forceE_yes h0]
      exact impl_force2 H a ca (w.heap.size + 1 + 1) (w.heap.size + 1) w1.heap.size t W (hA2.mid hB fun b o e => by have := ha b o e; have := hB2.size; omega) (fun i u hi hu => hB.cell (by omega) (World.block_lt_of_cell? _ _ (hL2 i u hi hu)) (hL2 i u hi hu)) hH hl (hB.cell (by omega) (World.block_lt_of_cell? _ _ x1) x1) (hB.cell (by have := hB1.size; omega) (World.block_lt_of_cell? _ _ x2) x2)⟩
    clear hE2 hE hL hb1 hA2 hL2 x1 x2 hb2 y1 z0 z1
    go_wp2
    go_ret
    exact ⟨_, _, rfl, HF.out, hB2⟩
set_option maxRecDepth 20000 in
set_option maxHeartbeats 4000000 in
theorem impl_eraEnd (e : EraD) (H : List HapD) (n0 n1 K : Nat) (cap : Array Value) (b : Int) (w : World) (hF : ForceV w n0 n1 K cap e H) (hn : n1 ≤ w.heap.size) (h1 : -62135596800 ≤ e.until_) (h2 : e.until_ ≤ 253402300799) (h3 : -86400 ≤ e.offset) (h4 : e.offset ≤ 86400) (h5 : ∀ t, -7200 ≤ (forceE e H t).save ∧ (forceE e H t).save ≤ 7200) :
    Calls Tryz.prog 97 #[e.v, .int .i64 b, .func (.func K) #[] cap] w fun r W' => r = .returned (.int .i64 (endE e H b)) ∧ Below w.heap.size w W' := by
  have hB0 := (Below.refl w.heap.size w).alloc (Nat.le_refl _) (.cells #[.int .i64 e.offset, .string e.rules, .int .i64 e.save, .string e.format, .int .i64 e.until_, .string e.of] 55)
  cases hs : (e.of.toList == [115])
  · cases hw : (e.of.toList == [119])
    · have HR : Hid (endE e H b = max b (min e.until_ 253402300799)) := by simp only [Hid, endE, endU]; rw [hs, hw]; rfl
      unfold EraD.v
      go_enter Tryz.func97, Tryz.ntmps97
      go_wp2
      go_ret
      exact ⟨ret_int HR.out.symm, hB0⟩
    · have HR : Hid (endE e H b = max b (min (e.until_ - e.offset - (forceE e H (e.until_ - e.offset - 1)).save) 253402300799)) := by simp only [Hid, endE, endU]; rw [hs, hw]; rfl
      have hC := hF.tell _ (e.until_ - e.offset - 1) (Mid.of_below hB0 hn)
      have hgo := hF.go
      have h6 := h5 (e.until_ - e.offset - 1)
      generalize forceE e H (e.until_ - e.offset - 1) = F at *
      have hfd : ∀ w, (Instr.field 36 (.agg #[.int .i64 F.at_, .int .i64 F.save, .string F.letter]) 1).run Tryz.prog w = .ok (.int .i64 F.save) w := fun _ => by kernel_rfl
      unfold HapD.v at hC
      unfold EraD.v
      go_enter Tryz.func97, Tryz.ntmps97
      go_wp2_with fail
      refine hC.mono ?_
      rintro r w1 ⟨rfl, hb1⟩
      go_wp2
      go_ret
      exact ⟨ret_int HR.out.symm, hB0.trans (hb1.mono (by simp))⟩
  · have HR : Hid (endE e H b = max b (min (e.until_ - e.offset) 253402300799)) := by simp only [Hid, endE, endU]; rw [hs]; rfl
    unfold EraD.v
    go_enter Tryz.func97, Tryz.ntmps97
    go_wp2
    go_ret
    exact ⟨ret_int HR.out.symm, hB0⟩
end Go.Proofs.YtbbhpfobcelbfaaGreatDoor
namespace Go.Proofs.YtbbhpfobcelbfaaGreatDoor
open Go.RowKit Go.Sort

theorem set_fourB {w : World} {b : Nat} {x0 x1 x2 x3 v0 v1 v2 v3 : Value} (h0 : w.cell? ⟨b, 0, none⟩ = some x0) (h1 : w.cell? ⟨b, 1, none⟩ = some x1) (h2 : w.cell? ⟨b, 2, none⟩ = some x2) (h3 : w.cell? ⟨b, 3, none⟩ = some x3) :
    ((((w.setCell ⟨b, 0, none⟩ v0).setCell ⟨b, 1, none⟩ v1).setCell ⟨b, 2, none⟩ v2).setCell ⟨b, 3, none⟩ v3).cell? ⟨b, 0, none⟩ = some v0 ∧ ((((w.setCell ⟨b, 0, none⟩ v0).setCell ⟨b, 1, none⟩ v1).setCell ⟨b, 2, none⟩ v2).setCell ⟨b, 3, none⟩ v3).cell? ⟨b, 1, none⟩ = some v1 ∧ ((((w.setCell ⟨b, 0, none⟩ v0).setCell ⟨b, 1, none⟩ v1).setCell ⟨b, 2, none⟩ v2).setCell ⟨b, 3, none⟩ v3).cell? ⟨b, 2, none⟩ = some v2 ∧ ((((w.setCell ⟨b, 0, none⟩ v0).setCell ⟨b, 1, none⟩ v1).setCell ⟨b, 2, none⟩ v2).setCell ⟨b, 3, none⟩ v3).cell? ⟨b, 3, none⟩ = some v3 := by
  refine ⟨?_, ?_, ?_, ?_⟩
  · rw [World.cell?_setCell_other _ _ _ _ (by simp), World.cell?_setCell_other _ _ _ _ (by simp), World.cell?_setCell_other _ _ _ _ (by simp), World.cell?_setCell_same _ _ _ h0]
  · rw [World.cell?_setCell_other _ _ _ _ (by simp), World.cell?_setCell_other _ _ _ _ (by simp)]
    refine World.cell?_setCell_same _ _ _ (u := x1) ?_
    rw [World.cell?_setCell_other _ _ _ _ (by simp)]; exact h1
  · rw [World.cell?_setCell_other _ _ _ _ (by simp)]
    refine World.cell?_setCell_same _ _ _ (u := x2) ?_
    rw [World.cell?_setCell_other _ _ _ _ (by simp), World.cell?_setCell_other _ _ _ _ (by simp)]; exact h2
  · refine World.cell?_setCell_same _ _ _ (u := x3) ?_
    rw [World.cell?_setCell_other _ _ _ _ (by simp), World.cell?_setCell_other _ _ _ _ (by simp), World.cell?_setCell_other _ _ _ _ (by simp)]; exact h3
set_option maxRecDepth 20000 in
set_option maxHeartbeats 4000000 in
theorem impl_turnOf (e : EraD) (F : HapD) (t : Int) (w : World) (hM : MxA w) (hf : e.format.size ≤ 1048576) (hl : F.letter.size ≤ 1048576) (h3 : -86400 ≤ e.offset) (h4 : e.offset ≤ 86400) (h5 : -7200 ≤ F.save) (h6 : F.save ≤ 7200) :
    Calls Tryz.prog 100 #[e.v, .int .i64 t, F.v] w fun r W' => r = .returned (madeE e F t).v ∧ Below w.heap.size w W' := by
  have hA := fun w hM => impl_AbbrOf e.format F.letter F.save w hM hf hl
  have HR : Hid ((madeE e F t).v = .agg #[.int .i64 t, .int .i64 (e.offset + F.save), .int .i64 F.save, .string (abbrD e.format F.letter F.save)]) := rfl
  generalize abbrD e.format F.letter F.save = ab at *
  generalize (madeE e F t).v = RV at *
  have hB0 := ((((Below.refl w.heap.size w).alloc (Nat.le_refl _) (.cells #[.int .i64 e.offset, .string e.rules, .int .i64 e.save, .string e.format, .int .i64 e.until_, .string e.of] 55)).alloc (by simp) (.cells #[.int .i64 F.at_, .int .i64 F.save, .string F.letter] 36)).alloc (by simp; omega) (.cells #[.int .i64 0, .int .i64 0, .int .i64 0, .string ⟨#[]⟩] 53))
  have k0 : (((w.alloc (.cells #[.int .i64 e.offset, .string e.rules, .int .i64 e.save, .string e.format, .int .i64 e.until_, .string e.of] 55)).alloc (.cells #[.int .i64 F.at_, .int .i64 F.save, .string F.letter] 36)).alloc (.cells #[.int .i64 0, .int .i64 0, .int .i64 0, .string ⟨#[]⟩] 53)).cell? ⟨w.heap.size, 0, none⟩ = some (.int .i64 e.offset) := by simp [go_sem]
  have k3 : (((w.alloc (.cells #[.int .i64 e.offset, .string e.rules, .int .i64 e.save, .string e.format, .int .i64 e.until_, .string e.of] 55)).alloc (.cells #[.int .i64 F.at_, .int .i64 F.save, .string F.letter] 36)).alloc (.cells #[.int .i64 0, .int .i64 0, .int .i64 0, .string ⟨#[]⟩] 53)).cell? ⟨w.heap.size, 3, none⟩ = some (.string e.format) := by simp [go_sem]
  have l1 : (((w.alloc (.cells #[.int .i64 e.offset, .string e.rules, .int .i64 e.save, .string e.format, .int .i64 e.until_, .string e.of] 55)).alloc (.cells #[.int .i64 F.at_, .int .i64 F.save, .string F.letter] 36)).alloc (.cells #[.int .i64 0, .int .i64 0, .int .i64 0, .string ⟨#[]⟩] 53)).cell? ⟨w.heap.size + 1, 1, none⟩ = some (.int .i64 F.save) := by simp [go_sem]
  have l2 : (((w.alloc (.cells #[.int .i64 e.offset, .string e.rules, .int .i64 e.save, .string e.format, .int .i64 e.until_, .string e.of] 55)).alloc (.cells #[.int .i64 F.at_, .int .i64 F.save, .string F.letter] 36)).alloc (.cells #[.int .i64 0, .int .i64 0, .int .i64 0, .string ⟨#[]⟩] 53)).cell? ⟨w.heap.size + 1, 2, none⟩ = some (.string F.letter) := by simp [go_sem]
  have r0 : (((w.alloc (.cells #[.int .i64 e.offset, .string e.rules, .int .i64 e.save, .string e.format, .int .i64 e.until_, .string e.of] 55)).alloc (.cells #[.int .i64 F.at_, .int .i64 F.save, .string F.letter] 36)).alloc (.cells #[.int .i64 0, .int .i64 0, .int .i64 0, .string ⟨#[]⟩] 53)).cell? ⟨w.heap.size + 1 + 1, 0, none⟩ = some (.int .i64 0) := by simp [go_sem]
  have r1 : (((w.alloc (.cells #[.int .i64 e.offset, .string e.rules, .int .i64 e.save, .string e.format, .int .i64 e.until_, .string e.of] 55)).alloc (.cells #[.int .i64 F.at_, .int .i64 F.save, .string F.letter] 36)).alloc (.cells #[.int .i64 0, .int .i64 0, .int .i64 0, .string ⟨#[]⟩] 53)).cell? ⟨w.heap.size + 1 + 1, 1, none⟩ = some (.int .i64 0) := by simp [go_sem]
  have r2 : (((w.alloc (.cells #[.int .i64 e.offset, .string e.rules, .int .i64 e.save, .string e.format, .int .i64 e.until_, .string e.of] 55)).alloc (.cells #[.int .i64 F.at_, .int .i64 F.save, .string F.letter] 36)).alloc (.cells #[.int .i64 0, .int .i64 0, .int .i64 0, .string ⟨#[]⟩] 53)).cell? ⟨w.heap.size + 1 + 1, 2, none⟩ = some (.int .i64 0) := by simp [go_sem]
  have r3 : (((w.alloc (.cells #[.int .i64 e.offset, .string e.rules, .int .i64 e.save, .string e.format, .int .i64 e.until_, .string e.of] 55)).alloc (.cells #[.int .i64 F.at_, .int .i64 F.save, .string F.letter] 36)).alloc (.cells #[.int .i64 0, .int .i64 0, .int .i64 0, .string ⟨#[]⟩] 53)).cell? ⟨w.heap.size + 1 + 1, 3, none⟩ = some (.string ⟨#[]⟩) := by simp [go_sem]
  have f0 : ∀ j, j < 4 → (((w.alloc (.cells #[.int .i64 e.offset, .string e.rules, .int .i64 e.save, .string e.format, .int .i64 e.until_, .string e.of] 55)).alloc (.cells #[.int .i64 F.at_, .int .i64 F.save, .string F.letter] 36)).alloc (.cells #[.int .i64 0, .int .i64 0, .int .i64 0, .string ⟨#[]⟩] 53)).frozen? ⟨w.heap.size + 1 + 1, j, none⟩ = false := fun j hj => by simp [go_sem]
  unfold EraD.v HapD.v
  go_enter Tryz.func100, Tryz.ntmps100
  go_wp2_with fail
  generalize (((w.alloc (.cells #[.int .i64 e.offset, .string e.rules, .int .i64 e.save, .string e.format, .int .i64 e.until_, .string e.of] 55)).alloc (.cells #[.int .i64 F.at_, .int .i64 F.save, .string F.letter] 36)).alloc (.cells #[.int .i64 0, .int .i64 0, .int .i64 0, .string ⟨#[]⟩] 53)) = W at *
  have hBD : Below w.heap.size w W.drew := hB0.trans ((below_drew W).mono hB0.size)
  have hMD := hM.of_below hBD
  have hn2 : ¬ w.heap.size + 1 + 1 = w.heap.size := by omega
  have hn3 : ¬ w.heap.size = w.heap.size + 1 + 1 := by omega
  have hwr : IntKind.i64.wrap (e.offset + F.save) = e.offset + F.save := by rw [IntKind.wrap_i64]; omega
  go_region_held3 (fun w' => w'.cell? ⟨w.heap.size, 0, none⟩ = some (.int .i64 e.offset) ∧ w'.cell? ⟨w.heap.size, 3, none⟩ = some (.string e.format) ∧ w'.cell? ⟨w.heap.size + 1, 1, none⟩ = some (.int .i64 F.save) ∧ w'.cell? ⟨w.heap.size + 1, 2, none⟩ = some (.string F.letter)) (go_keep) ((go_at_call 11; refine (hA _ hMD).mono ?_; rintro r w4 ⟨rfl, hb⟩; have q0 := keepC hb k0; have q3 := keepC hb k3; have p1 := keepC hb l1; have p2 := keepC hb l2; have s0 := keepC hb r0; have s1 := keepC hb r1; have s2 := keepC hb r2; have s3 := keepC hb r3; have z0 : w4.frozen? ⟨w.heap.size + 1 + 1, 0, none⟩ = false := ((bcell hb).2 _ _ (World.block_lt_of_cell? _ _ r0)).trans (f0 0 (by omega)); have z1 : w4.frozen? ⟨w.heap.size + 1 + 1, 1, none⟩ = false := ((bcell hb).2 _ _ (World.block_lt_of_cell? _ _ r0)).trans (f0 1 (by omega)); have z2 : w4.frozen? ⟨w.heap.size + 1 + 1, 2, none⟩ = false := ((bcell hb).2 _ _ (World.block_lt_of_cell? _ _ r0)).trans (f0 2 (by omega)); have z3 : w4.frozen? ⟨w.heap.size + 1 + 1, 3, none⟩ = false := ((bcell hb).2 _ _ (World.block_lt_of_cell? _ _ r0)).trans (f0 3 (by omega))))
  all_goals
    go_wp2
    have hB : Below w.heap.size w w4 := hBD.trans (hb.mono hBD.size)
    obtain ⟨u0, u1, u2, u3⟩ := set_fourB (v0 := .int .i64 t) (v1 := .int .i64 (e.offset + F.save)) (v2 := .int .i64 F.save) (v3 := .string ab) s0 s1 s2 s3
    exact bodyPost_ret (v := .agg #[.int .i64 t, .int .i64 (e.offset + F.save), .int .i64 F.save, .string ab]) (by simp [results, Tryz.results100, go_sem, u0, u1, u2, u3]) rfl ⟨by rw [HR.out], (((hB.setCell (show w.heap.size ≤ w.heap.size + 1 + 1 by omega) _).setCell (show w.heap.size ≤ w.heap.size + 1 + 1 by omega) _).setCell (show w.heap.size ≤ w.heap.size + 1 + 1 by omega) _).setCell (show w.heap.size ≤ w.heap.size + 1 + 1 by omega) _⟩
end Go.Proofs.YtbbhpfobcelbfaaGreatDoor
