/- Packed: Hp7 Hp8 Hp9 Hp10 Hp11 Hp12. -/
import Derived.Test.YtbbhpfobcelbfaaGreatDoorHpSt
import Derived.BigRegion
import Derived.Deep.RegionHeld3
import Derived.Lib.QuietBelow
import Derived.Deep.RegionLaw
namespace Go.Proofs.YtbbhpfobcelbfaaGreatDoor
open Go.RowKit

/-- not behind. -/
def LeW (a b : WallD) : Prop := a.wall < b.wall ∨ (a.wall = b.wall ∧ a.place ≤ b.place)
def ltW (a b : WallD) : Bool := if a.wall = b.wall then decide (a.place < b.place) else decide (a.wall < b.wall)
theorem lt_le {a b : WallD} (h : ltW a b = true) : LeW a b := by
  unfold ltW at h
  unfold LeW
  split at h
  · have := of_decide_eq_true h; omega
  · have := of_decide_eq_true h; omega
theorem nlt_le {a b : WallD} (h : ltW a b = false) : LeW b a := by
  unfold ltW at h
  unfold LeW
  split at h
  · have := of_decide_eq_false h; omega
  · have := of_decide_eq_false h; omega
theorem le_trans {a b c : WallD} (h : LeW a b) (h2 : LeW b c) : LeW a c := by unfold LeW at *; omega
theorem le_refl (a : WallD) : LeW a a := by unfold LeW; omega
/-- two places changed for each other. -/
def swapW (X : List WallD) (i j : Nat) (a b : WallD) : List WallD := (X.set i b).set j a
theorem swap_len (X : List WallD) (i j : Nat) (a b : WallD) : (swapW X i j a b).length = X.length := by unfold swapW; simp
theorem swap_i {X : List WallD} {i j : Nat} {a b : WallD} (hij : i ≠ j) (hi : i < X.length) : (swapW X i j a b)[i]? = some b := by
  unfold swapW
  rw [List.getElem?_set_ne (by omega), List.getElem?_set_self hi]
theorem swap_j {X : List WallD} {i j : Nat} {a b : WallD} (hj : j < X.length) : (swapW X i j a b)[j]? = some a := by
  unfold swapW
  rw [List.getElem?_set_self (by simpa using hj)]
theorem swap_k {X : List WallD} {i j k : Nat} {a b : WallD} (h1 : k ≠ i) (h2 : k ≠ j) : (swapW X i j a b)[k]? = X[k]? := by
  unfold swapW
  rw [List.getElem?_set_ne (by omega), List.getElem?_set_ne (by omega)]
theorem swap_perm {X : List WallD} {i j : Nat} {a b : WallD} (ha : X[i]? = some a) (hb : X[j]? = some b) : (swapW X i j a b).Perm X := by
  obtain ⟨h1, rfl⟩ := List.getElem?_eq_some_iff.mp ha
  obtain ⟨h2, rfl⟩ := List.getElem?_eq_some_iff.mp hb
  exact List.set_set_perm h1 h2
/-- a heap. -/
def HeapX (X : List WallD) : Prop := ∀ i p c, 0 < i → X[(i - 1) / 2]? = some p → X[i]? = some c → LeW p c
theorem heap_min {X : List WallD} (h : HeapX X) {x0 : WallD} (h0 : X[0]? = some x0) : ∀ (n i : Nat) (y : WallD), i ≤ n → X[i]? = some y → LeW x0 y := by
  intro n
  induction n with
  | zero => intro i y hi hy; obtain rfl : i = 0 := (by omega); rw [h0] at hy; obtain rfl := Option.some.inj hy; exact le_refl _
  | succ n ih =>
    intro i y hi hy
    by_cases e : i = 0
    · subst e; rw [h0] at hy; obtain rfl := Option.some.inj hy; exact le_refl _
    · have hil := (List.getElem?_eq_some_iff.mp hy).1
      obtain ⟨p, hp⟩ : ∃ p, X[(i - 1) / 2]? = some p := ⟨_, List.getElem?_eq_getElem (by omega)⟩
      exact le_trans (ih _ p (by omega) hp) (h i p y (by omega) hp hy)
/-- a heap but at a place, which may be ahead of the one above. -/
structure UpX (X : List WallD) (k : Nat) : Prop where
  one : ∀ i p c, 0 < i → i ≠ k → X[(i - 1) / 2]? = some p → X[i]? = some c → LeW p c
  two : ∀ i p c, 0 < i → 0 < k → (i - 1) / 2 = k → X[(k - 1) / 2]? = some p → X[i]? = some c → LeW p c
theorem up_begin {X : List WallD} {x : WallD} (h : HeapX X) : UpX (X ++ [x]) X.length := by
  have low : ∀ {i : Nat} {c : WallD}, i ≠ X.length → (X ++ [x])[i]? = some c → i < X.length ∧ X[i]? = some c := fun {i c} hi hc => by
    have hl := (List.getElem?_eq_some_iff.mp hc).1
    rw [List.length_append] at hl
    simp at hl
    rw [List.getElem?_append_left (by omega)] at hc
    exact ⟨by omega, hc⟩
  refine ⟨fun i p c h0 hk hp hc => ?_, fun i p c h0 hk he hp hc => ?_⟩
  · obtain ⟨hl, hc'⟩ := low hk hc
    obtain ⟨_, hp'⟩ := low (by omega) hp
    exact h i p c h0 hp' hc'
  · have hl := (List.getElem?_eq_some_iff.mp hc).1
    rw [List.length_append] at hl
    simp at hl
    omega
theorem up_root {X : List WallD} (h : UpX X 0) : HeapX X := fun i p c h0 hp hc => h.one i p c h0 (by omega) hp hc
theorem up_stop {X : List WallD} {k : Nat} {p c : WallD} (h : UpX X k) (hp : X[(k - 1) / 2]? = some p) (hc : X[k]? = some c) (hle : LeW p c) : HeapX X := fun i p' c' h0 hp' hc' => by
  by_cases e : i = k
  · subst e
    rw [hp] at hp'
    rw [hc] at hc'
    obtain rfl := Option.some.inj hp'
    obtain rfl := Option.some.inj hc'
    exact hle
  · exact h.one i p' c' h0 e hp' hc'
theorem up_step {X : List WallD} {k : Nat} {p c : WallD} (h : UpX X k) (hk : 0 < k) (hp : X[(k - 1) / 2]? = some p) (hc : X[k]? = some c) (hle : LeW c p) : UpX (swapW X k ((k - 1) / 2) c p) ((k - 1) / 2) := by
  have hkl := (List.getElem?_eq_some_iff.mp hc).1
  have hpk : (k - 1) / 2 < k := by omega
  obtain ⟨q, hq⟩ : ∃ q, (k - 1) / 2 = q := ⟨_, rfl⟩
  rw [hq] at hp hpk ⊢
  have ek : (swapW X k q c p)[k]? = some p := swap_i (by omega) hkl
  have eq : (swapW X k q c p)[q]? = some c := swap_j (by omega)
  have eo : ∀ {i : Nat}, i ≠ k → i ≠ q → (swapW X k q c p)[i]? = X[i]? := fun h1 h2 => swap_k h1 h2
  refine ⟨fun i a b h0 hi ha hb => ?_, fun i a b h0 hq0 hi ha hb => ?_⟩
  · by_cases e1 : i = k
    · subst e1
      rw [ek] at hb
      rw [hq, eq] at ha
      obtain rfl := Option.some.inj ha
      obtain rfl := Option.some.inj hb
      exact hle
    · rw [eo e1 hi] at hb
      by_cases e2 : (i - 1) / 2 = k
      · rw [e2, ek] at ha
        obtain rfl := Option.some.inj ha
        exact h.two i p b h0 hk e2 (by rw [hq]; exact hp) hb
      · by_cases e3 : (i - 1) / 2 = q
        · rw [e3, eq] at ha
          obtain rfl := Option.some.inj ha
          exact le_trans hle (h.one i p b h0 e1 (by rw [e3]; exact hp) hb)
        · rw [eo e2 e3] at ha
          exact h.one i a b h0 e1 ha hb
  · have hg : (q - 1) / 2 < q := by omega
    rw [eo (by omega) (by omega)] at ha
    have hgp := h.one q a p hq0 (by omega) ha hp
    by_cases e1 : i = k
    · subst e1
      rw [ek] at hb
      obtain rfl := Option.some.inj hb
      exact hgp
    · rw [eo e1 (by omega)] at hb
      exact le_trans hgp (h.one i p b h0 e1 (by rw [hi]; exact hp) hb)
/-- a heap but at a place, which may be behind those below. -/
structure DnX (X : List WallD) (k : Nat) : Prop where
  one : ∀ i p c, 0 < i → (i - 1) / 2 ≠ k → X[(i - 1) / 2]? = some p → X[i]? = some c → LeW p c
  two : ∀ i p c, 0 < i → 0 < k → (i - 1) / 2 = k → X[(k - 1) / 2]? = some p → X[i]? = some c → LeW p c
theorem dn_stop {X : List WallD} {k : Nat} (h : DnX X k) (hc : ∀ i p c, 0 < i → (i - 1) / 2 = k → X[k]? = some p → X[i]? = some c → LeW p c) : HeapX X := fun i p c h0 hp hcc => by
  by_cases e : (i - 1) / 2 = k
  · exact hc i p c h0 e (by rw [← e]; exact hp) hcc
  · exact h.one i p c h0 e hp hcc
theorem dn_step {X : List WallD} {k f : Nat} {p c : WallD} (h : DnX X k) (hf0 : 0 < f) (hfk : (f - 1) / 2 = k) (hp : X[k]? = some p) (hc : X[f]? = some c) (hle : LeW c p) (hmin : ∀ i y, 0 < i → (i - 1) / 2 = k → X[i]? = some y → LeW c y) : DnX (swapW X k f p c) f := by
  have hfl := (List.getElem?_eq_some_iff.mp hc).1
  have hkf : k < f := by omega
  have ek : (swapW X k f p c)[k]? = some c := swap_i (by omega) (by omega)
  have ef : (swapW X k f p c)[f]? = some p := swap_j hfl
  have eo : ∀ {i : Nat}, i ≠ k → i ≠ f → (swapW X k f p c)[i]? = X[i]? := fun h1 h2 => swap_k h1 h2
  refine ⟨fun i a b h0 hi ha hb => ?_, fun i a b h0 _ hi ha hb => ?_⟩
  · by_cases e1 : (i - 1) / 2 = k
    · rw [e1, ek] at ha
      obtain rfl := Option.some.inj ha
      by_cases e2 : i = f
      · subst e2
        rw [ef] at hb
        obtain rfl := Option.some.inj hb
        exact hle
      · rw [eo (by omega) e2] at hb
        exact hmin i b h0 e1 hb
    · have hif : i ≠ f := fun e => e1 (by rw [e]; exact hfk)
      rw [eo e1 hi] at ha
      by_cases e2 : i = k
      · subst e2
        rw [ek] at hb
        obtain rfl := Option.some.inj hb
        exact h.two f a c hf0 h0 hfk ha hc
      · rw [eo e2 hif] at hb
        exact h.one i a b h0 e1 ha hb
  · rw [hfk, ek] at ha
    obtain rfl := Option.some.inj ha
    rw [eo (by omega) (by omega)] at hb
    exact h.one i c b h0 (by omega) (by rw [hi]; exact hc) hb
/-- what is left when the first and the last have changed places, and the last is taken off. -/
theorem dn_begin {X : List WallD} {n : Nat} {x z : WallD} (h : HeapX X) : DnX ((swapW X 0 n x z).take n) 0 := by
  refine ⟨fun i p c h0 hi hp hc => ?_, fun i p c h0 hk => by omega⟩
  have low : ∀ {i : Nat} {c : WallD}, i ≠ 0 → ((swapW X 0 n x z).take n)[i]? = some c → X[i]? = some c := fun {i c} hi hc => by
    have hl := (List.getElem?_eq_some_iff.mp hc).1
    rw [List.length_take] at hl
    rw [List.getElem?_take_of_lt (by omega), swap_k hi (by omega)] at hc
    exact hc
  exact h i p c h0 (low hi hp) (low (by omega) hc)
theorem pop_perm {X : List WallD} {n : Nat} {x z : WallD} (hn : X.length = n + 1) (hx : X[0]? = some x) (hz : X[n]? = some z) : X.Perm (x :: (swapW X 0 n x z).take n) := by
  have h1 := (swap_perm hx hz).symm
  have hl : (swapW X 0 n x z).length = n + 1 := by rw [swap_len, hn]
  have hlast : (swapW X 0 n x z)[n]? = some x := swap_j (by omega)
  have h2 : swapW X 0 n x z = (swapW X 0 n x z).take n ++ [x] := by
    have := List.take_append_drop n (swapW X 0 n x z)
    have hd : (swapW X 0 n x z).drop n = [x] := by
      rw [List.drop_eq_getElem_cons (by omega)]
      obtain ⟨_, e⟩ := List.getElem?_eq_some_iff.mp hlast
      rw [e, List.drop_eq_nil_of_le (by omega)]
    rw [hd] at this
    exact this.symm
  have h3 : ((swapW X 0 n x z).take n ++ [x]).Perm (x :: (swapW X 0 n x z).take n) := List.perm_append_singleton x _
  rw [← h2] at h3
  exact h1.trans h3
end Go.Proofs.YtbbhpfobcelbfaaGreatDoor
namespace Go.Proofs.YtbbhpfobcelbfaaGreatDoor
open Go.RowKit

def WallD.v (x : WallD) : Value := .agg #[.int .i64 x.wall, .int .i64 x.place]
set_option maxHeartbeats 1000000 in
theorem impl_aheadOf (x y : WallD) (w : World) :
    Calls Tryz.prog 286 #[x.v, y.v] w fun e w' => e = .returned (.bool (ltW x y)) ∧ Below w.heap.size w w' := by
  obtain ⟨xw, xp⟩ := x
  obtain ⟨yw, yp⟩ := y
  simp only [WallD.v]
  by_cases h : xw = yw
  · have HR : Hid (ltW ⟨xw, xp⟩ ⟨yw, yp⟩ = decide (xp < yp)) := by simp only [Hid, ltW]; rw [if_pos h]
    generalize ltW ⟨xw, xp⟩ ⟨yw, yp⟩ = z at *
    subst h
    go_enter Tryz.func286, Tryz.ntmps286
    go_wp2
    go_ret
    exact ⟨ret_bool (by rw [HR.out]), ((Below.refl _ _).alloc (Nat.le_refl _) _).alloc (by simp) _⟩
  · have HR : Hid (ltW ⟨xw, xp⟩ ⟨yw, yp⟩ = decide (xw < yw)) := by simp only [Hid, ltW]; rw [if_neg h]
    have g : (xw != yw) = true := by simpa using h
    generalize ltW ⟨xw, xp⟩ ⟨yw, yp⟩ = z at *
    go_enter Tryz.func286, Tryz.ntmps286
    go_wp2
    go_ret
    exact ⟨ret_bool HR.out.symm, ((Below.refl _ _).alloc (Nat.le_refl _) _).alloc (by simp) _⟩
def OwnsG (w : World) (base : Nat) (v : Value) (P : List WallD) : Prop := w.ownsRow base 134 2 v P.length (P.map WallD.cs).flatten
theorem flat_set {q : Nat} : ∀ {rows : List (List Value)}, (∀ r ∈ rows, r.length = q) → ∀ {i j : Nat} {r : List Value} (c : Value), rows[i]? = some r → j < q → (rows.set i (r.set j c)).flatten = rows.flatten.set (i * q + j) c := by
  intro rows
  induction rows with
  | nil => intro _ i j r c h; simp at h
  | cons x rows ih =>
    intro hq i j r c hi hj
    have hx := hq x (by simp)
    cases i with
    | zero =>
      simp at hi
      subst hi
      rw [List.set_cons_zero, List.flatten_cons, List.flatten_cons, Nat.zero_mul, Nat.zero_add, List.set_append_left _ _ (by omega)]
    | succ i =>
      rw [List.set_cons_succ, List.flatten_cons, List.flatten_cons, List.set_append_right _ _ (by rw [hx, Nat.add_mul]; omega), hx]
      rw [show (i + 1) * q + j - q = i * q + j by rw [Nat.add_mul]; omega]
      rw [ih (fun y hy => hq y (List.mem_cons_of_mem _ hy)) c (by simpa using hi) hj]
theorem flat_put2 {rows : List (List Value)} (hq : ∀ r ∈ rows, r.length = 2) {i : Nat} {r : List Value} (hr : rows[i]? = some r) (c0 c1 : Value) : (rows.set i [c0, c1]).flatten = (rows.flatten.set (i * 2) c0).set (i * 2 + 1) c1 := by
  have hl := hq r (List.mem_of_getElem? hr)
  have hil := (List.getElem?_eq_some_iff.mp hr).1
  have e1 := flat_set hq (i := i) (j := 0) c0 hr (by omega)
  have hq2 : ∀ r' ∈ rows.set i (r.set 0 c0), r'.length = 2 := fun r' h => by
    rcases List.mem_or_eq_of_mem_set h with h | h
    · exact hq r' h
    · rw [h, List.length_set, hl]
  have e2 := flat_set hq2 (i := i) (j := 1) (r := r.set 0 c0) c1 (by rw [List.getElem?_set_self hil]) (by omega)
  rw [e1] at e2
  rw [Nat.add_zero] at e2
  rw [← e2, List.set_set]
  congr 2
  match r, hl with
  | [x, y], _ => rfl
theorem swap_flat {X : List WallD} {i j : Nat} {a b : WallD} (ha : X[i]? = some a) (hb : X[j]? = some b) : ((swapW X i j a b).map WallD.cs).flatten = (((((X.map WallD.cs).flatten.set (i * 2) (.int .i64 b.wall)).set (i * 2 + 1) (.int .i64 b.place)).set (j * 2) (.int .i64 a.wall)).set (j * 2 + 1) (.int .i64 a.place)) := by
  have hil := (List.getElem?_eq_some_iff.mp ha).1
  have hjl := (List.getElem?_eq_some_iff.mp hb).1
  have e1 := flat_put2 (rows := X.map WallD.cs) wall_len (i := i) (r := a.cs) (by rw [List.getElem?_map, ha]; rfl) (.int .i64 b.wall) (.int .i64 b.place)
  have e0 : (X.map WallD.cs).set i [.int .i64 b.wall, .int .i64 b.place] = (X.set i b).map WallD.cs := by rw [List.map_set]; rfl
  rw [e0] at e1
  obtain ⟨c, hc⟩ : ∃ c, (X.set i b)[j]? = some c := ⟨_, List.getElem?_eq_getElem (by simpa using hjl)⟩
  have e2 := flat_put2 (rows := (X.set i b).map WallD.cs) wall_len (i := j) (r := c.cs) (by rw [List.getElem?_map, hc]; rfl) (.int .i64 a.wall) (.int .i64 a.place)
  rw [e1] at e2
  rw [← e2]
  unfold swapW
  rw [List.map_set]
  rfl
theorem grown_trans {w w1 w2 : World} {row : Option Nat} (h : w.grownBy w1 row) (h2 : w1.grownBy w2 row) : w.grownBy w2 row :=
  ⟨h2.os.trans h.os, h2.tape.trans h.tape, h2.output.trans h.output, Nat.le_trans h.size h2.size, fun k hk hr => (h2.block k (Nat.lt_of_lt_of_le hk h.size) hr).trans (h.block k hk hr)⟩
theorem grown_drew (w : World) (row : Option Nat) : w.grownBy w.drew row := ⟨rfl, rfl, rfl, Nat.le_refl _, fun _ _ _ => rfl⟩
theorem swap_owns {X : List WallD} {g cap i j base : Nat} {a b : WallD} {w : World} (hown : OwnsG w base (.slice (some ⟨g, 0, none⟩) X.length cap) X) (ha : X[i]? = some a) (hb : X[j]? = some b) :
    OwnsG ((((w.setCell ⟨g, i * 2, none⟩ (.int .i64 b.wall)).setCell ⟨g, i * 2 + 1, none⟩ (.int .i64 b.place)).setCell ⟨g, j * 2, none⟩ (.int .i64 a.wall)).setCell ⟨g, j * 2 + 1, none⟩ (.int .i64 a.place)).drew base (.slice (some ⟨g, 0, none⟩) X.length cap) (swapW X i j a b) ∧
    w.grownBy ((((w.setCell ⟨g, i * 2, none⟩ (.int .i64 b.wall)).setCell ⟨g, i * 2 + 1, none⟩ (.int .i64 b.place)).setCell ⟨g, j * 2, none⟩ (.int .i64 a.wall)).setCell ⟨g, j * 2 + 1, none⟩ (.int .i64 a.place)).drew (some g) := by
  obtain ⟨h1, g1⟩ := World.ownsRow.stored hown (i * 2) (.int .i64 b.wall)
  obtain ⟨h2, g2⟩ := h1.stored (i * 2 + 1) (.int .i64 b.place)
  obtain ⟨h3, g3⟩ := h2.stored (j * 2) (.int .i64 a.wall)
  obtain ⟨h4, g4⟩ := h3.stored (j * 2 + 1) (.int .i64 a.place)
  refine ⟨?_, grown_trans g1 (grown_trans g2 (grown_trans g3 (grown_trans g4 (grown_drew _ _))))⟩
  unfold OwnsG
  rw [swap_len, swap_flat ha hb]
  exact h4.drew
/-- of what was there only the blocks of S may have turned. -/
structure Fr (S : Nat → Prop) (w w' : World) : Prop where
  os : w'.os = w.os
  tape : w'.tape = w.tape
  output : w'.output = w.output
  size : w.heap.size ≤ w'.heap.size
  block : ∀ b, b < w.heap.size → ¬ S b → w'.heap[b]? = w.heap[b]?
theorem Fr.refl (S : Nat → Prop) (w : World) : Fr S w w := ⟨rfl, rfl, rfl, Nat.le_refl _, fun _ _ _ => rfl⟩
theorem Fr.trans {S : Nat → Prop} {w w1 w2 : World} (h : Fr S w w1) (h2 : Fr S w1 w2) : Fr S w w2 :=
  ⟨h2.os.trans h.os, h2.tape.trans h.tape, h2.output.trans h.output, Nat.le_trans h.size h2.size, fun b hb hs => (h2.block b (Nat.lt_of_lt_of_le hb h.size) hs).trans (h.block b hb hs)⟩
theorem Fr.mono {S S2 : Nat → Prop} {w w' : World} (h : Fr S w w') (hs : ∀ b, b < w.heap.size → S b → S2 b) : Fr S2 w w' := ⟨h.os, h.tape, h.output, h.size, fun b hb hn => h.block b hb fun hx => hn (hs b hb hx)⟩
theorem Fr.of_below {S : Nat → Prop} {w w' : World} (h : Below w.heap.size w w') : Fr S w w' := ⟨h.os, h.tape, h.output, h.size, fun b hb _ => h.block b hb⟩
theorem Fr.of_grown {w w' : World} {row : Option Nat} (h : w.grownBy w' row) : Fr (fun b => row = some b) w w' := ⟨h.os, h.tape, h.output, h.size, fun b hb hn => h.block b hb fun e => hn e.symm⟩
theorem Fr.cell {S : Nat → Prop} {w w' : World} (h : Fr S w w') {b o : Nat} {v : Value} (hs : ¬ S b) (hc : w.cell? ⟨b, o, none⟩ = some v) : w'.cell? ⟨b, o, none⟩ = some v := by
  rw [World.cell?_of_block (h.block b (World.block_lt_of_cell? _ _ hc) hs)]; exact hc
theorem Fr.frozen {S : Nat → Prop} {w w' : World} (h : Fr S w w') {b o : Nat} (hb : b < w.heap.size) (hs : ¬ S b) : w'.frozen? ⟨b, o, none⟩ = w.frozen? ⟨b, o, none⟩ := World.frozen?_of_block (h.block b hb hs)
theorem Fr.below {S : Nat → Prop} {w w' : World} {B : Nat} (h : Fr S w w') (hS : ∀ b, S b → B ≤ b) (hB : B ≤ w.heap.size) : Below B w w' := ⟨h.os, h.tape, h.output, h.size, fun k hk => h.block k (by omega) fun hs => by have := hS k hs; omega⟩
set_option maxRecDepth 20000 in
set_option maxHeartbeats 2000000 in
theorem impl_swap (X : List WallD) (hp g cap i j base : Nat) (a b : WallD) (w : World) (hcell : w.cell? ⟨hp, 0, none⟩ = some (.slice (some ⟨g, 0, none⟩) X.length cap)) (hown : OwnsG w base (.slice (some ⟨g, 0, none⟩) X.length cap) X) (ha : X[i]? = some a) (hb : X[j]? = some b) (hij : i ≠ j) (hne : hp ≠ g) :
    Calls Tryz.prog 136 #[.pointer (some ⟨hp, 0, none⟩), .int .i64 i, .int .i64 j] w fun e w' => e = .returned (.tuple #[]) ∧ OwnsG w' base (.slice (some ⟨g, 0, none⟩) X.length cap) (swapW X i j a b) ∧ w.grownBy w' (some g) := by
  have hil := (List.getElem?_eq_some_iff.mp ha).1
  have hjl := (List.getElem?_eq_some_iff.mp hb).1
  have fa : ∀ n c, a.cs[n]? = some c → w.cell? ⟨g, i * 2 + n, none⟩ = some c := fun n c h => by
    rw [hown.cellAt _ (by have := (List.getElem?_eq_some_iff.mp h).1; simp [WallD.cs] at this; omega)]
    exact flat_at wall_len (by rw [List.getElem?_map, ha]; rfl) h
  have fb : ∀ n c, b.cs[n]? = some c → w.cell? ⟨g, j * 2 + n, none⟩ = some c := fun n c h => by
    rw [hown.cellAt _ (by have := (List.getElem?_eq_some_iff.mp h).1; simp [WallD.cs] at this; omega)]
    exact flat_at wall_len (by rw [List.getElem?_map, hb]; rfl) h
  have a0 : w.cell? ⟨g, i * 2, none⟩ = some (.int .i64 a.wall) := fa 0 _ rfl
  have a1 : w.cell? ⟨g, i * 2 + 1, none⟩ = some (.int .i64 a.place) := fa 1 _ rfl
  have b0 : w.cell? ⟨g, j * 2, none⟩ = some (.int .i64 b.wall) := fb 0 _ rfl
  have b1 : w.cell? ⟨g, j * 2 + 1, none⟩ = some (.int .i64 b.place) := fb 1 _ rfl
  have z0 := hown.frozenAt (i * 2)
  have z1 := hown.frozenAt (i * 2 + 1)
  have z2 := hown.frozenAt (j * 2)
  have z3 := hown.frozenAt (j * 2 + 1)
  have bi : (0 : Int) ≤ (i : Int) := by omega
  have bi2 : (i : Int) < (X.length : Int) := by omega
  have bj : (0 : Int) ≤ (j : Int) := by omega
  have bj2 : (j : Int) < (X.length : Int) := by omega
  clear fa fb
  go_enter Tryz.func136, Tryz.ntmps136
  go_wp2_with fail
  have HO := swap_owns hown ha hb
  go_region
  exact bodyPost_end (results_none Tryz.results136 _ _ _) rfl ⟨rfl, HO⟩
end Go.Proofs.YtbbhpfobcelbfaaGreatDoor
namespace Go.Proofs.YtbbhpfobcelbfaaGreatDoor
open Go.RowKit Go.Sort

theorem infoHpn : (Tryz.prog.info? 134).map (fun i => (i.zero, i.size, i.bytes)) = some (some (.agg #[.int .i64 0, .int .i64 0]), 2, 16) := by kernel_rfl
theorem OwnsG.add {w : World} {base : Nat} {v : Value} {P : List WallD} {p : WallD} (h : w.ownsRow base 134 2 v (P.length + 1) ((P.map WallD.cs).flatten ++ p.cs)) : OwnsG w base v (P ++ [p]) := by
  unfold OwnsG
  rw [List.length_append, List.map_append, List.flatten_append]
  simpa using h
/-- a heap in memory: behind a pointer a list of one's own, in the block rb, if it has one. -/
def HeapB (w : World) (hp : Nat) (rb : Option Nat) (X : List WallD) : Prop := ∃ a c, w.cell? ⟨hp, 0, none⟩ = some (.slice a X.length c) ∧ w.frozen? ⟨hp, 0, none⟩ = false ∧ OwnsG w hp (.slice a X.length c) X ∧ some hp ≠ (Value.slice a X.length c).ownBlock ∧ (Value.slice a X.length c).ownBlock = rb
theorem HeapB.below {w w' : World} {hp : Nat} {rb : Option Nat} {X : List WallD} (h : HeapB w hp rb X) (hb : Below w.heap.size w w') : HeapB w' hp rb X := by
  obtain ⟨a, c, h1, h2, h3, h4⟩ := h
  have hlt := World.block_lt_of_cell? _ _ h1
  exact ⟨a, c, keepC hb h1, ((bcell hb).2 _ _ hlt).trans h2, owns_below h3 hb, h4⟩
theorem OwnsG.cells {w : World} {base g cap : Nat} {X : List WallD} (h : OwnsG w base (.slice (some ⟨g, 0, none⟩) X.length cap) X) {i : Nat} {x : WallD} (hx : X[i]? = some x) : w.cell? ⟨g, i * 2, none⟩ = some (.int .i64 x.wall) ∧ w.cell? ⟨g, i * 2 + 1, none⟩ = some (.int .i64 x.place) := by
  have hl := (List.getElem?_eq_some_iff.mp hx).1
  have f : ∀ n c, x.cs[n]? = some c → w.cell? ⟨g, i * 2 + n, none⟩ = some c := fun n c hc => by
    rw [World.ownsRow.cellAt h _ (by have := (List.getElem?_eq_some_iff.mp hc).1; simp [WallD.cs] at this; omega)]
    exact flat_at wall_len (by rw [List.getElem?_map, hx]; rfl) hc
  exact ⟨f 0 _ rfl, f 1 _ rfl⟩
/-- what is called through the interface. -/
theorem ahead_method (n : Nat) (a b : Int) (w : World) : (method (n + 1) 134 (.agg #[.int .i64 a, .int .i64 b]) "loop.example/g00364/impl.aheadOf").run Tryz.prog w = .ok (286, .agg #[.int .i64 a, .int .i64 b]) w := by kernel_rfl
theorem ahead_method' (a b : Int) (w : World) : (method (Tryz.prog.types.size + Made.depth) 134 (.agg #[.int .i64 a, .int .i64 b]) "loop.example/g00364/impl.aheadOf").run Tryz.prog w = .ok (286, .agg #[.int .i64 a, .int .i64 b]) w := by kernel_rfl
theorem grown_set (w : World) (b o : Nat) (v : Value) : w.grownBy (w.setCell ⟨b, o, none⟩ v) (some b) :=
  ⟨rfl, rfl, rfl, by simp, fun k _ hk => heap_setCell_other w ⟨b, o, none⟩ k v (fun e => hk (by simp [e]))⟩
/-- the list laid behind the pointer. -/
theorem push_laid {w1 : World} {hp g1 n cap1 : Nat} {u : Value} {Y : List WallD} (r1 : w1.cell? ⟨hp, 0, none⟩ = some u) (r2 : w1.frozen? ⟨hp, 0, none⟩ = false) (hown : OwnsG w1 hp (.slice (some ⟨g1, 0, none⟩) n cap1) Y) (hne : hp ≠ g1) :
    (w1.setCell ⟨hp, 0, none⟩ (.slice (some ⟨g1, 0, none⟩) n cap1)).cell? ⟨hp, 0, none⟩ = some (.slice (some ⟨g1, 0, none⟩) n cap1) ∧ (w1.setCell ⟨hp, 0, none⟩ (.slice (some ⟨g1, 0, none⟩) n cap1)).frozen? ⟨hp, 0, none⟩ = false ∧ OwnsG (w1.setCell ⟨hp, 0, none⟩ (.slice (some ⟨g1, 0, none⟩) n cap1)) hp (.slice (some ⟨g1, 0, none⟩) n cap1) Y := by
  refine ⟨World.cell?_setCell_same _ _ _ r1, by rw [World.frozen?_setCell]; exact r2, World.ownsRow.kept hown (grown_set w1 hp 0 _) (.inr fun e => hne ?_)⟩
  simpa [Value.ownBlock] using e.symm
theorem heapB_of {w : World} {hp g cap : Nat} {Y : List WallD} (h1 : w.cell? ⟨hp, 0, none⟩ = some (.slice (some ⟨g, 0, none⟩) Y.length cap)) (h2 : w.frozen? ⟨hp, 0, none⟩ = false) (h3 : OwnsG w hp (.slice (some ⟨g, 0, none⟩) Y.length cap) Y) (hne : hp ≠ g) : HeapB w hp (some g) Y :=
  ⟨_, _, h1, h2, h3, fun e => hne (by simpa [Value.ownBlock] using e), rfl⟩
set_option maxRecDepth 20000 in
set_option maxHeartbeats 4000000 in
theorem impl_push (X : List WallD) (x : WallD) (hp : Nat) (rb : Option Nat) (w : World) (hM : HeapB w hp rb X) (hX : HeapX X) (hl : X.length ≤ 4000) :
    Calls Tryz.prog 135 #[.pointer (some ⟨hp, 0, none⟩), x.v] w fun e w' => e = .returned (.tuple #[]) ∧ (∃ Y rb', HeapB w' hp rb' Y ∧ HeapX Y ∧ Y.Perm (X ++ [x]) ∧ (rb' = rb ∨ ∃ k, w.heap.size ≤ k ∧ rb' = some k)) ∧ Fr (fun b => b = hp ∨ rb = some b) w w' := by
  obtain ⟨i0, hi, hz0, hz1, hz2⟩ := info_parts infoHpn
  obtain ⟨a, c, h1, h2, h3, h4, h5⟩ := hM
  have hlt := World.block_lt_of_cell? _ _ h1
  have HU : Hid (UpX (X ++ [x]) X.length) := up_begin hX
  obtain ⟨xw, xp⟩ := x
  simp only [WallD.v]
  have k1 : (w.alloc (.cells #[.int .i64 xw, .int .i64 xp] 134)).cell? ⟨hp, 0, none⟩ = some (.slice a X.length c) := keepC ((Below.refl _ w).alloc (Nat.le_refl _) _) h1
  have k2 : (w.alloc (.cells #[.int .i64 xw, .int .i64 xp] 134)).cell? ⟨w.heap.size, 0, none⟩ = some (.int .i64 xw) := by simp [go_sem]
  have k3 : (w.alloc (.cells #[.int .i64 xw, .int .i64 xp] 134)).cell? ⟨w.heap.size, 1, none⟩ = some (.int .i64 xp) := by simp [go_sem]
  have k4 : (w.alloc (.cells #[.int .i64 xw, .int .i64 xp] 134)).frozen? ⟨hp, 0, none⟩ = false := ((bcell ((Below.refl _ w).alloc (Nat.le_refl _) _)).2 _ _ hlt).trans h2
  have own1 : OwnsG (w.alloc (.cells #[.int .i64 xw, .int .i64 xp] 134)) hp (.slice a X.length c) X := World.ownsRow.alloc h3 _
  go_enter Tryz.func135, Tryz.ntmps135
  go_wp2_with fail
  obtain ⟨wA, hwA⟩ : ∃ wA, (w.alloc (.cells #[.int .i64 xw, .int .i64 xp] 134)) = wA := ⟨_, rfl⟩
  have hBA : Below w.heap.size w wA := by rw [← hwA]; exact (Below.refl _ w).alloc (Nat.le_refl _) _
  rw [hwA] at k1 k2 k3 k4 own1 ⊢
  clear hwA
  have hsA := hBA.size
  have k1b : (wA.alloc (.cells #[.int .i64 xw, .int .i64 xp] 134)).cell? ⟨hp, 0, none⟩ = some (.slice a X.length c) := keepC ((Below.refl _ wA).alloc (Nat.le_refl _) _) k1
  go_region_law (refine step_append_lies _ (by rfl) (.tmp 10) (.tmp 12) 130 (by rfl) hp 134 i0 (.agg #[.int .i64 0, .int .i64 0]) 2 16 Tryz.underlying130 hi hz0 hz1 hz2 rfl (by omega) (.slice a X.length c) X.length (X.map WallD.cs).flatten (by rfl) (World.ownsRow.alloc (w := wA.drew) own1 _) ⟨wA.heap.size, 0, none⟩ 1 1 [.int .i64 xw, .int .i64 xp] (by rfl) rfl (cells_new _ _ _) (by intro u hu; simp at hu; rcases hu with rfl | rfl <;> rfl) (by omega) (by unfold maxLen; omega) (by omega) (by simp; omega) _ rfl ?_; intro g1 cap1 w1 hown1 hgrow hat hlt1; have r1 := hgrow.cell (a := ⟨hp, 0, none⟩) (keepC ((Below.refl _ wA.drew).alloc (Nat.le_refl _) _) k1) h4; have r2 := (hgrow.frozen_far ⟨hp, 0, none⟩ (by simp; omega) h4).trans (((bcell ((Below.refl _ wA.drew).alloc (Nat.le_refl _) _)).2 _ _ (by simp; omega)).trans k4))
  all_goals
    have hne : hp ≠ g1 := fun e => by
      rcases hat with hh | hh
      · exact h4 (by rw [e]; exact hh.symm)
      · simp at hh; omega
    have own2 : OwnsG w1 hp (.slice (some ⟨g1, 0, none⟩) (X.length + 1) cap1) (X ++ [⟨xw, xp⟩]) := OwnsG.add (p := ⟨xw, xp⟩) hown1
    obtain ⟨s1, s2, s3⟩ := push_laid r1 r2 own2 hne
    have hB1 : Fr (fun b => b = hp ∨ rb = some b ∨ b = g1) w w1 := ((Fr.of_below hBA).trans ((Fr.of_below ((Below.refl _ wA).alloc (Nat.le_refl _) _)).trans (Fr.of_below (below_drew _)))).trans ((Fr.of_grown hgrow).mono fun b _ hb => .inr (.inl (h5.symm.trans hb)))
    have hB2 : Fr (fun b => b = hp ∨ rb = some b ∨ b = g1) w (w1.setCell ⟨hp, 0, none⟩ (.slice (some ⟨g1, 0, none⟩) (X.length + 1) cap1)) := hB1.trans ((Fr.of_grown (grown_set w1 hp 0 _)).mono fun b _ hb => .inl (by injection hb with hb; exact hb.symm))
    have HG : Hid (some g1 = rb ∨ ∃ k, w.heap.size ≤ k ∧ some g1 = some k) := by
      rcases hat with hh | hh
      · exact .inl (hh.symm.trans h5)
      · exact .inr ⟨g1, by simp at hh; omega, rfl⟩
    have HFr : Hid (∀ w', Fr (fun b => b = hp ∨ rb = some b ∨ b = g1) w w' → Fr (fun b => b = hp ∨ rb = some b) w w') := fun w' hf => hf.mono fun b hb hs => by
      rcases hs with e | e | e
      · exact .inl e
      · exact .inr e
      · rcases HG.out with e2 | ⟨k, hk, e2⟩
        · exact .inr (by rw [e]; exact e2.symm)
        · injection e2 with e2; omega
    clear hgrow hat hlt1 r1 r2 own2 hown1 hB1 own1 k1 k1b k2 k3 k4 h1 h2 h3 h4 h5 hBA hsA
    generalize w1.setCell ⟨hp, 0, none⟩ (.slice (some ⟨g1, 0, none⟩) (X.length + 1) cap1) = w2 at *
    have hYl : (X ++ [(⟨xw, xp⟩ : WallD)]).length = X.length + 1 := by simp
    have HP : Hid ((X ++ [(⟨xw, xp⟩ : WallD)]).Perm (X ++ [⟨xw, xp⟩])) := List.Perm.refl _
    have HY : Hid ((X ++ [(⟨xw, xp⟩ : WallD)]).length = X.length + 1) := hYl
    go_wp2
    go_loopw [4] (fun s4 wr => ∃ (k : Nat) (Y : List WallD), s4 = .int .i64 k ∧ k < X.length + 1 ∧ Hid (Y.length = X.length + 1) ∧ wr.cell? ⟨hp, 0, none⟩ = some (.slice (some ⟨g1, 0, none⟩) (X.length + 1) cap1) ∧ wr.frozen? ⟨hp, 0, none⟩ = false ∧ OwnsG wr hp (.slice (some ⟨g1, 0, none⟩) (X.length + 1) cap1) Y ∧ Hid (UpX Y k) ∧ Hid (Y.Perm (X ++ [⟨xw, xp⟩])) ∧ Fr (fun b => b = hp ∨ rb = some b ∨ b = g1) w wr) (fun s4 _ => (intOf s4).toNat)
    case atStart => exact ⟨X.length, _, rfl, by omega, HY, s1, s2, s3, HU, HP, hB2⟩
    case round =>
      clear s1 s2 s3 hB2 HU HP HY hYl
      obtain ⟨k, Y, rfl, hkl, HY, s1, s2, s3, HU, HP, hBr⟩ := hrel
      have own4 : OwnsG wr hp (.slice (some ⟨g1, 0, none⟩) Y.length cap1) Y := by rw [HY.out]; exact s3
      have s1' : wr.cell? ⟨hp, 0, none⟩ = some (.slice (some ⟨g1, 0, none⟩) Y.length cap1) := by rw [HY.out]; exact s1
      by_cases hk : 0 < k
      · obtain ⟨k', rfl⟩ : ∃ k', k = k' + 1 := ⟨k - 1, by omega⟩
        obtain ⟨c1, hc1⟩ : ∃ x, Y[k' + 1]? = some x := ⟨_, List.getElem?_eq_getElem (by rw [HY.out]; omega)⟩
        obtain ⟨p1, hp1⟩ : ∃ x, Y[k' / 2]? = some x := ⟨_, List.getElem?_eq_getElem (by rw [HY.out]; omega)⟩
        obtain ⟨e1, e2⟩ := own4.cells hc1
        obtain ⟨e3, e4⟩ := own4.cells hp1
        have hp1' : Y[(k' + 1 - 1) / 2]? = some p1 := hp1
        have hA := fun w => impl_aheadOf c1 p1 w
        have tk : ((k' : Int) + 1).toNat = k' + 1 := by omega
        have bk : (0 : Int) ≤ (k' : Int) + 1 := by omega
        have bk2 : (k' : Int) + 1 < ((X.length : Int) + 1) := by omega
        have tp : ((k' : Int) / 2).toNat = k' / 2 := by omega
        have bp : (0 : Int) ≤ (k' : Int) / 2 := by omega
        have bp2 : (k' : Int) / 2 < ((X.length : Int) + 1) := by omega
        have hmt := ahead_method' c1.wall (c1.place : Int)
        have hmt2 := fun n => ahead_method n c1.wall (c1.place : Int)
        have q0 := cell_regrown s1
        have q1 := cell_regrown e1
        have q2 := cell_regrown e2
        have q3 := cell_regrown e3
        have q4 := cell_regrown e4
        cases hlt : ltW c1 p1
        · have HR : Hid (HeapX Y) := up_stop HU.out hp1' hc1 (nlt_le hlt)
          rw [hlt] at hA
          simp only [WallD.v] at hA
          have cE : ∀ dd os, Calls Tryz.prog _ _ (grow (redrawn wr dd) os) fun e w'' => e = .returned (.bool false) ∧ ∃ p : Regrown, w'' = grow (redrawn wr p.d) p.os := fun _ _ => Calls.regrown_of (hA _)
          have HM : Hid (HeapB wr hp (some g1) Y) := heapB_of s1' s2 own4 hne
          clear hlt hc1 hp1 hp1' HU
          go_wp2_with fail
          refine wp_region_quiet_below (by kernel_rfl) (by kernel_rfl) ?_
          repeat (quiet_step ((go_at_call 286; exact cE _ _)))
          refine wpQuiet_nil ?_
          intro w3 hw3
          obtain ⟨⟨dq, osq⟩, hw3'⟩ := hw3
          have hb3 : Below wr.heap.size wr w3 := hw3' ▸ below_regrown wr dq osq
          have hB3 : Fr (fun b => b = hp ∨ rb = some b ∨ b = g1) w w3 := hBr.trans (Fr.of_below hb3)
          have HM3 : Hid (HeapB w3 hp (some g1) Y) := HM.out.below hb3
          clear hw3' hb3
          go_wp2
          exact bodyPost_ret (results_none Tryz.results135 _ _ _) rfl ⟨rfl, ⟨Y, some g1, HM3.out, HR.out, HP.out, HG.out⟩, HFr.out _ hB3⟩
        · have HU2 : Hid (UpX (swapW Y (k' + 1) (k' / 2) c1 p1) (k' / 2)) := up_step HU.out (by omega) hp1' hc1 (lt_le hlt)
          have HP2 : Hid ((swapW Y (k' + 1) (k' / 2) c1 p1).Perm (X ++ [⟨xw, xp⟩])) := (swap_perm hc1 hp1).trans HP.out
          have HY2 : Hid ((swapW Y (k' + 1) (k' / 2) c1 p1).length = X.length + 1) := by simp only [Hid]; rw [swap_len]; exact HY.out
          have hSw := fun w h1 h2 => impl_swap Y hp g1 cap1 (k' + 1) (k' / 2) hp c1 p1 w h1 h2 hc1 hp1 (by omega) hne
          rw [hlt] at hA
          simp only [WallD.v] at hA
          rw [HY.out] at hSw
          have cE : ∀ dd os, Calls Tryz.prog _ _ (grow (redrawn wr dd) os) fun e w'' => e = .returned (.bool true) ∧ ∃ p : Regrown, w'' = grow (redrawn wr p.d) p.os := fun _ _ => Calls.regrown_of (hA _)
          have hcast : (((k' / 2 : Nat) : Nat) : Int) = (k' : Int) / 2 := by omega
          have hcast2 : (((k' + 1 : Nat) : Nat) : Int) = (k' : Int) + 1 := by omega
          rw [hcast, hcast2] at hSw
          clear hlt hc1 hp1 hp1' HU HP
          generalize swapW Y (k' + 1) (k' / 2) c1 p1 = Z at *
          go_wp2_with fail
          refine wp_region_quiet_below (by kernel_rfl) (by kernel_rfl) ?_
          repeat (quiet_step ((go_at_call 286; exact cE _ _)))
          refine wpQuiet_nil ?_
          intro w3 hw3
          obtain ⟨⟨dq, osq⟩, hw3'⟩ := hw3
          have hb3 : Below wr.heap.size wr w3 := hw3' ▸ below_regrown wr dq osq
          have hB3 : Fr (fun b => b = hp ∨ rb = some b ∨ b = g1) w w3 := hBr.trans (Fr.of_below hb3)
          have t1 := keepC hb3 s1
          have t2 := ((bcell hb3).2 _ _ (World.block_lt_of_cell? _ _ s1)).trans s2
          have t3 : OwnsG w3 hp (.slice (some ⟨g1, 0, none⟩) (X.length + 1) cap1) Y := owns_below s3 hb3
          clear hw3' hb3 q0 q1 q2 q3 q4 cE
          go_wp2_with fail
          refine (hSw _ t1 t3).mono ?_
          rintro e w4 ⟨rfl, hO4, hg4⟩
          have u1 := hg4.cell (a := ⟨hp, 0, none⟩) t1 (fun e => hne (by simpa using e))
          have u2 := (hg4.frozen_far ⟨hp, 0, none⟩ (World.block_lt_of_cell? _ _ t1) (fun e => hne (by simpa using e))).trans t2
          have hB4 : Fr (fun b => b = hp ∨ rb = some b ∨ b = g1) w w4 := hB3.trans ((Fr.of_grown hg4).mono fun b _ hb => .inr (.inr (by injection hb with hb; exact hb.symm)))
          clear hg4 t1 t2 t3
          go_wp2
          go_roundw
          case rel => exact ⟨k' / 2, Z, by rw [hcast], by omega, HY2, u1, u2, hO4, HU2, HP2, hB4⟩
          case measure => simp [intOf]; omega
      · obtain rfl : k = 0 := by omega
        have HR : Hid (HeapX Y) := up_root HU.out
        have HM : Hid (HeapB wr hp (some g1) Y) := heapB_of s1' s2 own4 hne
        go_wp2
        exact bodyPost_end (results_none Tryz.results135 _ _ _) rfl ⟨rfl, ⟨Y, some g1, HM.out, HR.out, HP.out, HG.out⟩, HFr.out _ hBr⟩
end Go.Proofs.YtbbhpfobcelbfaaGreatDoor
namespace Go.Proofs.YtbbhpfobcelbfaaGreatDoor
open Go.RowKit Go.Sort

/-- the first among a place and the first t below it. -/
structure Cand (Y : List WallD) (p t f : Nat) : Prop where
  place : f = p ∨ ∃ j, j < t ∧ f = 2 * p + 1 + j ∧ f < Y.length
  top : ∀ x y, Y[f]? = some x → Y[p]? = some y → LeW x y
  low : ∀ j x y, j < t → Y[f]? = some x → Y[2 * p + 1 + j]? = some y → LeW x y
theorem cand_begin (Y : List WallD) (p : Nat) : Cand Y p 0 p := ⟨.inl rfl, fun x y h1 h2 => by rw [h1] at h2; obtain rfl := Option.some.inj h2; exact le_refl _, fun j x y h => by omega⟩
theorem cand_out {Y : List WallD} {p t f : Nat} (h : Cand Y p t f) (hc : Y.length ≤ 2 * p + 1 + t) : Cand Y p (t + 1) f := by
  refine ⟨?_, h.top, fun j x y hj hx hy => ?_⟩
  · rcases h.place with e | ⟨j, hj, e, hl⟩
    · exact .inl e
    · exact .inr ⟨j, by omega, e, hl⟩
  · by_cases e : j = t
    · subst e; rw [List.getElem?_eq_none hc] at hy; cases hy
    · exact h.low j x y (by omega) hx hy
theorem cand_no {Y : List WallD} {p t f : Nat} {c y : WallD} (h : Cand Y p t f) (hc : Y[2 * p + 1 + t]? = some c) (hf : Y[f]? = some y) (hle : LeW y c) : Cand Y p (t + 1) f := by
  refine ⟨?_, h.top, fun j x z hj hx hz => ?_⟩
  · rcases h.place with e | ⟨j, hj, e, hl⟩
    · exact .inl e
    · exact .inr ⟨j, by omega, e, hl⟩
  · by_cases e : j = t
    · subst e
      rw [hc] at hz
      rw [hf] at hx
      obtain rfl := Option.some.inj hz
      obtain rfl := Option.some.inj hx
      exact hle
    · exact h.low j x z (by omega) hx hz
theorem cand_yes {Y : List WallD} {p t f : Nat} {c y : WallD} (h : Cand Y p t f) (hc : Y[2 * p + 1 + t]? = some c) (hf : Y[f]? = some y) (hle : LeW c y) : Cand Y p (t + 1) (2 * p + 1 + t) := by
  refine ⟨.inr ⟨t, by omega, rfl, (List.getElem?_eq_some_iff.mp hc).1⟩, fun x z hx hz => ?_, fun j x z hj hx hz => ?_⟩
  · rw [hc] at hx
    obtain rfl := Option.some.inj hx
    exact le_trans hle (h.top y z hf hz)
  · rw [hc] at hx
    obtain rfl := Option.some.inj hx
    by_cases e : j = t
    · subst e; rw [hc] at hz; obtain rfl := Option.some.inj hz; exact le_refl _
    · exact le_trans hle (h.low j y z (by omega) hf hz)
theorem idx0 (a b : Int) (w : World) : (Instr.index 230 (.agg #[.int .i64 a, .int .i64 b]) (.int .i64 0)).run Tryz.prog w = .ok (.int .i64 a) w := by kernel_rfl
theorem idx1 (a b : Int) (w : World) : (Instr.index 230 (.agg #[.int .i64 a, .int .i64 b]) (.int .i64 1)).run Tryz.prog w = .ok (.int .i64 b) w := by kernel_rfl
theorem kids {i p : Nat} (h0 : 0 < i) (h : (i - 1) / 2 = p) : i = 2 * p + 1 + 0 ∨ i = 2 * p + 1 + 1 := by omega
theorem cand_heap {Y : List WallD} {p : Nat} (hD : DnX Y p) (h : Cand Y p 2 p) : HeapX Y := dn_stop hD fun i x y h0 hi hx hy => by
  rcases kids h0 hi with e | e
  · exact h.low 0 x y (by omega) hx (by rw [← e]; exact hy)
  · exact h.low 1 x y (by omega) hx (by rw [← e]; exact hy)
theorem cand_step {Y : List WallD} {p f : Nat} {x c : WallD} (hD : DnX Y p) (h : Cand Y p 2 f) (hfp : f ≠ p) (hx : Y[p]? = some x) (hc : Y[f]? = some c) : DnX (swapW Y p f x c) f := by
  rcases h.place with e | ⟨j, hj, e, hl⟩
  · exact absurd e hfp
  · refine dn_step hD (by omega) (by omega) hx hc (h.top c x hc hx) fun i y h0 hi hy => ?_
    rcases kids h0 hi with e2 | e2
    · exact h.low 0 c y (by omega) hc (by rw [← e2]; exact hy)
    · exact h.low 1 c y (by omega) hc (by rw [← e2]; exact hy)
set_option maxRecDepth 20000 in
set_option maxHeartbeats 4000000 in
theorem impl_sink (X : List WallD) (hp g cap n : Nat) (w : World) (h1 : w.cell? ⟨hp, 0, none⟩ = some (.slice (some ⟨g, 0, none⟩) n cap)) (h2 : w.frozen? ⟨hp, 0, none⟩ = false) (h3 : OwnsG w hp (.slice (some ⟨g, 0, none⟩) n cap) X) (hn : X.length = n) (hne : hp ≠ g) (hD : DnX X 0) (hl : n ≤ 4000) :
    Calls Tryz.prog 137 #[.pointer (some ⟨hp, 0, none⟩), .int .i64 0] w fun e w' => e = .returned (.tuple #[]) ∧ (∃ Y, HeapX Y ∧ Y.Perm X ∧ Y.length = n ∧ w'.cell? ⟨hp, 0, none⟩ = some (.slice (some ⟨g, 0, none⟩) n cap) ∧ w'.frozen? ⟨hp, 0, none⟩ = false ∧ OwnsG w' hp (.slice (some ⟨g, 0, none⟩) n cap) Y) ∧ Fr (fun b => b = g) w w' := by
  have HD0 : Hid (DnX X 0) := hD
  have HN0 : Hid (X.length = n) := hn
  have HP0 : Hid (X.Perm X) := List.Perm.refl _
  clear hD hn
  go_enter Tryz.func137, Tryz.ntmps137
  go_wp2
  go_loopw [1] (fun s1 wr => ∃ (p : Nat) (Y : List WallD), s1 = .int .i64 p ∧ (p < n ∨ p = 0) ∧ Hid (Y.length = n) ∧ wr.cell? ⟨hp, 0, none⟩ = some (.slice (some ⟨g, 0, none⟩) n cap) ∧ wr.frozen? ⟨hp, 0, none⟩ = false ∧ OwnsG wr hp (.slice (some ⟨g, 0, none⟩) n cap) Y ∧ Hid (DnX Y p) ∧ Hid (Y.Perm X) ∧ Fr (fun b => b = g) w wr) (fun s1 _ => n - (intOf s1).toNat)
  case atStart => exact ⟨0, X, rfl, .inr rfl, HN0, h1, h2, h3, HD0, HP0, Fr.refl _ _⟩
  case round =>
    clear h1 h2 h3 HN0 HD0 HP0
    obtain ⟨p, Y, rfl, hpn, HN, h1, h2, h3, HD, HP, hB⟩ := hrel
    have HC0 : Hid (Cand Y p 0 p) := cand_begin Y p
    have hp4 : p ≤ 4000 := by omega
    go_wp2
    go_loopw [4, 15] (fun s4 s15 wr => ∃ (f t : Nat), s4 = .int .i64 f ∧ s15 = .int .i64 t ∧ t ≤ 2 ∧ f ≤ 10000 ∧ Hid (Cand Y p t f) ∧ wr.cell? ⟨hp, 0, none⟩ = some (.slice (some ⟨g, 0, none⟩) n cap) ∧ wr.frozen? ⟨hp, 0, none⟩ = false ∧ OwnsG wr hp (.slice (some ⟨g, 0, none⟩) n cap) Y ∧ Fr (fun b => b = g) w wr) (fun _ s15 _ => 2 - (intOf s15).toNat)
    case atStart => exact ⟨p, 0, rfl, rfl, by omega, by omega, HC0, h1, h2, h3, hB⟩
    case round =>
      clear h1 h2 h3 hB HC0
      obtain ⟨f, t, rfl, rfl, ht2, hf4, HC, h1, h2, h3, hB⟩ := hrel
      have i0 := idx0 (2 * (p : Int) + 1) (2 * (p : Int) + 2)
      have i1 := idx1 (2 * (p : Int) + 1) (2 * (p : Int) + 2)
      have h3' : OwnsG wr hp (.slice (some ⟨g, 0, none⟩) Y.length cap) Y := by rw [HN.out]; exact h3
      rcases (show t = 0 ∨ t = 1 ∨ t = 2 by omega) with rfl | rfl | rfl
      · by_cases hcl : 2 * p + 1 + 0 < n
        · obtain ⟨c, hc⟩ : ∃ c, Y[2 * p + 1 + 0]? = some c := ⟨_, List.getElem?_eq_getElem (by rw [HN.out]; exact hcl)⟩
          have hfn : f < n := by
            rcases HC.out.place with e | ⟨j, hj, e, hl2⟩
            · omega
            · rw [HN.out] at hl2; exact hl2
          obtain ⟨y, hy⟩ : ∃ y, Y[f]? = some y := ⟨_, List.getElem?_eq_getElem (by rw [HN.out]; exact hfn)⟩
          obtain ⟨e1, e2⟩ := h3'.cells hc
          obtain ⟨e3, e4⟩ := h3'.cells hy
          rw [show (2 * p + 1 + 0) * 2 = (2 * p + 1) * 2 by omega] at e1 e2
          have hA := fun w => impl_aheadOf c y w
          have hmt := ahead_method' c.wall (c.place : Int)
          have hmt2 := fun n => ahead_method n c.wall (c.place : Int)
          have q0 := cell_regrown h1
          have q1 := cell_regrown e1
          have q2 := cell_regrown e2
          have q3 := cell_regrown e3
          have q4 := cell_regrown e4
          have dc : decide (2 * (p : Int) + 1 < (n : Int)) = true := by simp; omega
          have tc : (2 * (p : Int) + 1).toNat = 2 * p + 1 := by omega
          have bc : (0 : Int) ≤ 2 * (p : Int) + 1 := by omega
          have bc2 : 2 * (p : Int) + 1 < (n : Int) := by omega
          have bf : (0 : Int) ≤ (f : Int) := by omega
          have bf2 : (f : Int) < (n : Int) := by omega
          cases hlt : ltW c y
          · have HC2 : Hid (Cand Y p (0 + 1) f) := cand_no HC.out hc hy (nlt_le hlt)
            rw [hlt] at hA
            simp only [WallD.v] at hA
            have cE : ∀ dd os, Calls Tryz.prog _ _ (grow (redrawn wr dd) os) fun e w'' => e = .returned (.bool false) ∧ ∃ p : Regrown, w'' = grow (redrawn wr p.d) p.os := fun _ _ => Calls.regrown_of (hA _)
            clear hlt hc hy HC
            go_wp2_with fail
            refine wp_region_quiet_below (by kernel_rfl) (by kernel_rfl) ?_
            repeat (quiet_step ((go_at_call 286; exact cE _ _)))
            refine wpQuiet_nil ?_
            intro w3 hw3
            obtain ⟨⟨dq, osq⟩, hw3'⟩ := hw3
            have hb3 : Below wr.heap.size wr w3 := hw3' ▸ below_regrown wr dq osq
            have hsz := World.block_lt_of_cell? _ _ h1
            have hB3 : Fr (fun b => b = g) w w3 := hB.trans (Fr.of_below hb3)
            have t1 := keepC hb3 h1
            have t2 := ((bcell hb3).2 _ _ hsz).trans h2
            have t3 : OwnsG w3 hp (.slice (some ⟨g, 0, none⟩) n cap) Y := owns_below h3 hb3
            clear hw3' hb3 q0 q1 q2 q3 q4 cE
            go_wp2
            go_roundw
            case rel => exact ⟨f, 0 + 1, rfl, rfl, by omega, by omega, HC2, t1, t2, t3, hB3⟩
            case measure => simp [intOf]
          · have HC2 : Hid (Cand Y p (0 + 1) (2 * p + 1 + 0)) := cand_yes HC.out hc hy (lt_le hlt)
            rw [hlt] at hA
            simp only [WallD.v] at hA
            have cE : ∀ dd os, Calls Tryz.prog _ _ (grow (redrawn wr dd) os) fun e w'' => e = .returned (.bool true) ∧ ∃ p : Regrown, w'' = grow (redrawn wr p.d) p.os := fun _ _ => Calls.regrown_of (hA _)
            clear hlt hc hy HC
            go_wp2_with fail
            refine wp_region_quiet_below (by kernel_rfl) (by kernel_rfl) ?_
            repeat (quiet_step ((go_at_call 286; exact cE _ _)))
            refine wpQuiet_nil ?_
            intro w3 hw3
            obtain ⟨⟨dq, osq⟩, hw3'⟩ := hw3
            have hb3 : Below wr.heap.size wr w3 := hw3' ▸ below_regrown wr dq osq
            have hsz := World.block_lt_of_cell? _ _ h1
            have hB3 : Fr (fun b => b = g) w w3 := hB.trans (Fr.of_below hb3)
            have t1 := keepC hb3 h1
            have t2 := ((bcell hb3).2 _ _ hsz).trans h2
            have t3 : OwnsG w3 hp (.slice (some ⟨g, 0, none⟩) n cap) Y := owns_below h3 hb3
            clear hw3' hb3 q0 q1 q2 q3 q4 cE
            go_wp2
            go_roundw
            case rel => exact ⟨2 * p + 1 + 0, 0 + 1, by congr 1, rfl, by omega, by omega, HC2, t1, t2, t3, hB3⟩
            case measure => simp [intOf]
        · have HC2 : Hid (Cand Y p (0 + 1) f) := cand_out HC.out (by rw [HN.out]; omega)
          have dc : decide (2 * (p : Int) + 1 < (n : Int)) = false := by simp; omega
          clear HC
          go_wp2_with fail
          go_quiet (fail)
          go_wp2
          go_roundw
          case rel => exact ⟨f, 0 + 1, rfl, rfl, by omega, hf4, HC2, h1, h2, owns_below h3 (below_drewN (Below.refl _ _) _), hB.trans (Fr.of_below (below_drewN (Below.refl _ _) _))⟩
          case measure => simp [intOf]
      · by_cases hcl : 2 * p + 1 + 1 < n
        · obtain ⟨c, hc⟩ : ∃ c, Y[2 * p + 1 + 1]? = some c := ⟨_, List.getElem?_eq_getElem (by rw [HN.out]; exact hcl)⟩
          have hfn : f < n := by
            rcases HC.out.place with e | ⟨j, hj, e, hl2⟩
            · omega
            · rw [HN.out] at hl2; exact hl2
          obtain ⟨y, hy⟩ : ∃ y, Y[f]? = some y := ⟨_, List.getElem?_eq_getElem (by rw [HN.out]; exact hfn)⟩
          obtain ⟨e1, e2⟩ := h3'.cells hc
          obtain ⟨e3, e4⟩ := h3'.cells hy
          rw [show (2 * p + 1 + 1) * 2 = (2 * p + 2) * 2 by omega] at e1 e2
          have hA := fun w => impl_aheadOf c y w
          have hmt := ahead_method' c.wall (c.place : Int)
          have hmt2 := fun n => ahead_method n c.wall (c.place : Int)
          have q0 := cell_regrown h1
          have q1 := cell_regrown e1
          have q2 := cell_regrown e2
          have q3 := cell_regrown e3
          have q4 := cell_regrown e4
          have dc : decide (2 * (p : Int) + 2 < (n : Int)) = true := by simp; omega
          have tc : (2 * (p : Int) + 2).toNat = 2 * p + 2 := by omega
          have bc : (0 : Int) ≤ 2 * (p : Int) + 2 := by omega
          have bc2 : 2 * (p : Int) + 2 < (n : Int) := by omega
          have bf : (0 : Int) ≤ (f : Int) := by omega
          have bf2 : (f : Int) < (n : Int) := by omega
          cases hlt : ltW c y
          · have HC2 : Hid (Cand Y p (1 + 1) f) := cand_no HC.out hc hy (nlt_le hlt)
            rw [hlt] at hA
            simp only [WallD.v] at hA
            have cE : ∀ dd os, Calls Tryz.prog _ _ (grow (redrawn wr dd) os) fun e w'' => e = .returned (.bool false) ∧ ∃ p : Regrown, w'' = grow (redrawn wr p.d) p.os := fun _ _ => Calls.regrown_of (hA _)
            clear hlt hc hy HC
            go_wp2_with fail
            refine wp_region_quiet_below (by kernel_rfl) (by kernel_rfl) ?_
            repeat (quiet_step ((go_at_call 286; exact cE _ _)))
            refine wpQuiet_nil ?_
            intro w3 hw3
            obtain ⟨⟨dq, osq⟩, hw3'⟩ := hw3
            have hb3 : Below wr.heap.size wr w3 := hw3' ▸ below_regrown wr dq osq
            have hsz := World.block_lt_of_cell? _ _ h1
            have hB3 : Fr (fun b => b = g) w w3 := hB.trans (Fr.of_below hb3)
            have t1 := keepC hb3 h1
            have t2 := ((bcell hb3).2 _ _ hsz).trans h2
            have t3 : OwnsG w3 hp (.slice (some ⟨g, 0, none⟩) n cap) Y := owns_below h3 hb3
            clear hw3' hb3 q0 q1 q2 q3 q4 cE
            go_wp2
            go_roundw
            case rel => exact ⟨f, 1 + 1, rfl, rfl, by omega, by omega, HC2, t1, t2, t3, hB3⟩
            case measure => simp [intOf]
          · have HC2 : Hid (Cand Y p (1 + 1) (2 * p + 1 + 1)) := cand_yes HC.out hc hy (lt_le hlt)
            rw [hlt] at hA
            simp only [WallD.v] at hA
            have cE : ∀ dd os, Calls Tryz.prog _ _ (grow (redrawn wr dd) os) fun e w'' => e = .returned (.bool true) ∧ ∃ p : Regrown, w'' = grow (redrawn wr p.d) p.os := fun _ _ => Calls.regrown_of (hA _)
            clear hlt hc hy HC
            go_wp2_with fail
            refine wp_region_quiet_below (by kernel_rfl) (by kernel_rfl) ?_
            repeat (quiet_step ((go_at_call 286; exact cE _ _)))
            refine wpQuiet_nil ?_
            intro w3 hw3
            obtain ⟨⟨dq, osq⟩, hw3'⟩ := hw3
            have hb3 : Below wr.heap.size wr w3 := hw3' ▸ below_regrown wr dq osq
            have hsz := World.block_lt_of_cell? _ _ h1
            have hB3 : Fr (fun b => b = g) w w3 := hB.trans (Fr.of_below hb3)
            have t1 := keepC hb3 h1
            have t2 := ((bcell hb3).2 _ _ hsz).trans h2
            have t3 : OwnsG w3 hp (.slice (some ⟨g, 0, none⟩) n cap) Y := owns_below h3 hb3
            clear hw3' hb3 q0 q1 q2 q3 q4 cE
            go_wp2
            go_roundw
            case rel => exact ⟨2 * p + 1 + 1, 1 + 1, by congr 1, rfl, by omega, by omega, HC2, t1, t2, t3, hB3⟩
            case measure => simp [intOf]
        · have HC2 : Hid (Cand Y p (1 + 1) f) := cand_out HC.out (by rw [HN.out]; omega)
          have dc : decide (2 * (p : Int) + 2 < (n : Int)) = false := by simp; omega
          clear HC
          go_wp2_with fail
          go_quiet (fail)
          go_wp2
          go_roundw
          case rel => exact ⟨f, 1 + 1, rfl, rfl, by omega, hf4, HC2, h1, h2, owns_below h3 (below_drewN (Below.refl _ _) _), hB.trans (Fr.of_below (below_drewN (Below.refl _ _) _))⟩
          case measure => simp [intOf]
      · by_cases hfp : f = p
        · subst hfp
          have HR : Hid (HeapX Y) := cand_heap HD.out HC.out
          have ge : ((f : Int) == (f : Int)) = true := by simp
          go_wp2
          exact bodyPost_ret (results_none Tryz.results137 _ _ _) rfl ⟨rfl, ⟨Y, HR.out, HP.out, HN.out, h1, h2, h3⟩, hB⟩
        · have hfl : p < f ∧ f < n := by
            rcases HC.out.place with e | ⟨j, hj, e, hl2⟩
            · exact absurd e hfp
            · rw [HN.out] at hl2; omega
          obtain ⟨x, hx⟩ : ∃ x, Y[p]? = some x := ⟨_, List.getElem?_eq_getElem (by rw [HN.out]; omega)⟩
          obtain ⟨c, hc⟩ : ∃ c, Y[f]? = some c := ⟨_, List.getElem?_eq_getElem (by rw [HN.out]; omega)⟩
          have HD2 : Hid (DnX (swapW Y p f x c) f) := cand_step HD.out HC.out hfp hx hc
          have HP2 : Hid ((swapW Y p f x c).Perm X) := (swap_perm hx hc).trans HP.out
          have HN2 : Hid ((swapW Y p f x c).length = n) := by simp only [Hid]; rw [swap_len]; exact HN.out
          have hSw := fun w h1 h2 => impl_swap Y hp g cap p f hp x c w h1 h2 hx hc (by omega) hne
          rw [HN.out] at hSw
          have ge : ((f : Int) == (p : Int)) = false := by simp; omega
          clear hx hc HD HP HC
          generalize swapW Y p f x c = Z at *
          go_wp2_with fail
          refine (hSw _ h1 h3).mono ?_
          rintro e w4 ⟨rfl, hO4, hg4⟩
          have u1 := hg4.cell (a := ⟨hp, 0, none⟩) h1 (fun e => hne (by simpa using e))
          have u2 := (hg4.frozen_far ⟨hp, 0, none⟩ (World.block_lt_of_cell? _ _ h1) (fun e => hne (by simpa using e))).trans h2
          have hB4 : Fr (fun b => b = g) w w4 := hB.trans ((Fr.of_grown hg4).mono fun b _ hb => by injection hb with hb; exact hb.symm)
          clear hg4
          go_wp2
          go_roundw
          case rel => exact ⟨f, Z, rfl, .inl (by omega), HN2, u1, u2, hO4, HD2, HP2, hB4⟩
          case measure => simp [intOf]; omega
end Go.Proofs.YtbbhpfobcelbfaaGreatDoor
namespace Go.Proofs.YtbbhpfobcelbfaaGreatDoor
open Go.RowKit Go.Sort

theorem owns_cut {w : World} {base g cap n : Nat} {Y : List WallD} (h : OwnsG w base (.slice (some ⟨g, 0, none⟩) (n + 1) cap) Y) (hn : Y.length = n + 1) : OwnsG w base (.slice (some ⟨g, 0, none⟩) n cap) (Y.take n) := by
  unfold OwnsG at h ⊢
  rw [hn] at h
  have hl : (Y.take n).length = n := by rw [List.length_take]; omega
  rw [hl]
  have hfl : ((Y.take n).map WallD.cs).flatten = (Y.map WallD.cs).flatten.take (n * 2) := by
    have e : Y = Y.take n ++ Y.drop n := (List.take_append_drop n Y).symm
    have e2 : (Y.map WallD.cs).flatten = ((Y.take n).map WallD.cs).flatten ++ ((Y.drop n).map WallD.cs).flatten := by
      conv => lhs; rw [e, List.map_append, List.flatten_append]
    rw [e2, List.take_append_of_le_length (by rw [flat_len wall_len, List.length_map, hl]; exact Nat.le_refl _)]
    exact (List.take_of_length_le (by rw [flat_len wall_len, List.length_map, hl]; exact Nat.le_refl _)).symm
  rw [hfl]
  rcases h.2 with ⟨h', _⟩ | ⟨g', cap', cur, h', hb, hg, hnc, hcm, hcs, ht⟩
  · cases h'
  · simp only [Value.slice.injEq, Option.some.injEq, Addr.mk.injEq, and_true, true_and] at h'
    obtain ⟨rfl, rfl⟩ := h'
    refine ⟨?_, .inr ⟨g, cap, cur, rfl, hb, hg, by omega, hcm, hcs, ?_⟩⟩
    · rw [List.length_take, h.1]; omega
    · rw [← ht, List.take_take, Nat.min_eq_left (by omega)]
set_option maxRecDepth 20000 in
set_option maxHeartbeats 2000000 in
/-- a place changed for itself. -/
theorem impl_swap0 (hp g cap base : Nat) (a : WallD) (w : World) (hcell : w.cell? ⟨hp, 0, none⟩ = some (.slice (some ⟨g, 0, none⟩) 1 cap)) (hown : OwnsG w base (.slice (some ⟨g, 0, none⟩) 1 cap) [a]) :
    Calls Tryz.prog 136 #[.pointer (some ⟨hp, 0, none⟩), .int .i64 0, .int .i64 0] w fun e w' => e = .returned (.tuple #[]) ∧ OwnsG w' base (.slice (some ⟨g, 0, none⟩) 1 cap) [a] ∧ w.grownBy w' (some g) := by
  obtain ⟨a0, a1⟩ := OwnsG.cells (X := [a]) (i := 0) hown rfl
  have z0 := World.ownsRow.frozenAt hown 0
  have z1 := World.ownsRow.frozenAt hown 1
  have a0' : w.cell? ⟨g, 0, none⟩ = some (.int .i64 a.wall) := by simpa using a0
  have a1' : w.cell? ⟨g, 1, none⟩ = some (.int .i64 a.place) := by simpa using a1
  obtain ⟨h1, g1⟩ := World.ownsRow.stored hown 0 (.int .i64 a.wall)
  obtain ⟨h2, g2⟩ := h1.stored 1 (.int .i64 a.place)
  obtain ⟨h3, g3⟩ := h2.stored 0 (.int .i64 a.wall)
  obtain ⟨h4, g4⟩ := h3.stored 1 (.int .i64 a.place)
  have HO : OwnsG ((((w.setCell ⟨g, 0, none⟩ (.int .i64 a.wall)).setCell ⟨g, 1, none⟩ (.int .i64 a.place)).setCell ⟨g, 0, none⟩ (.int .i64 a.wall)).setCell ⟨g, 1, none⟩ (.int .i64 a.place)).drew base (.slice (some ⟨g, 0, none⟩) 1 cap) [a] := h4.drew
  have HG := grown_trans g1 (grown_trans g2 (grown_trans g3 (grown_trans g4 (grown_drew _ _))))
  clear h1 h2 h3 h4 g1 g2 g3 g4 a0 a1
  go_enter Tryz.func136, Tryz.ntmps136
  go_wp2_with fail
  go_region
  exact bodyPost_end (results_none Tryz.results136 _ _ _) rfl ⟨rfl, HO, HG⟩
/-- the first and the last changed for each other. -/
theorem swap_ends (X : List WallD) (n hp g cap base : Nat) (x z : WallD) (w : World) (hn : X.length = n + 1) (hcell : w.cell? ⟨hp, 0, none⟩ = some (.slice (some ⟨g, 0, none⟩) (n + 1) cap)) (hown : OwnsG w base (.slice (some ⟨g, 0, none⟩) (n + 1) cap) X) (hx : X[0]? = some x) (hz : X[n]? = some z) (hne : hp ≠ g) :
    Calls Tryz.prog 136 #[.pointer (some ⟨hp, 0, none⟩), .int .i64 0, .int .i64 n] w fun e w' => e = .returned (.tuple #[]) ∧ OwnsG w' base (.slice (some ⟨g, 0, none⟩) (n + 1) cap) (swapW X 0 n x z) ∧ w.grownBy w' (some g) := by
  by_cases h0 : n = 0
  · subst h0
    match X, hn with
    | [a], _ =>
      simp at hx hz
      subst hx
      subst hz
      exact impl_swap0 hp g cap base a w hcell hown
  · have := impl_swap X hp g cap 0 n base x z w (by rw [hn]; exact hcell) (by rw [hn]; exact hown) hx hz (by omega) hne
    rw [hn] at this
    exact this
end Go.Proofs.YtbbhpfobcelbfaaGreatDoor
namespace Go.Proofs.YtbbhpfobcelbfaaGreatDoor
open Go.RowKit Go.Sort

theorem sink_all {X : List WallD} (h : HeapX X) {x : WallD} (hx : X[0]? = some x) : ∀ y ∈ X, LeW x y := fun y hy => by
  obtain ⟨i, hi⟩ := List.getElem?_of_mem hy
  exact heap_min h hx i i y (Nat.le_refl _) hi
set_option maxRecDepth 20000 in
set_option maxHeartbeats 2000000 in
theorem impl_pop (X : List WallD) (n hp g cap : Nat) (w : World) (h1 : w.cell? ⟨hp, 0, none⟩ = some (.slice (some ⟨g, 0, none⟩) (n + 1) cap)) (h2 : w.frozen? ⟨hp, 0, none⟩ = false) (h3 : OwnsG w hp (.slice (some ⟨g, 0, none⟩) (n + 1) cap) X) (hn : X.length = n + 1) (hne : hp ≠ g) (hX : HeapX X) (hl : n + 1 ≤ 4000) (hcap : n + 1 ≤ cap) :
    Calls Tryz.prog 81 #[.pointer (some ⟨hp, 0, none⟩)] w fun e w' => ∃ x Y, e = .returned x.v ∧ HeapX Y ∧ X.Perm (x :: Y) ∧ (∀ y ∈ Y, LeW x y) ∧ Y.length = n ∧ w'.cell? ⟨hp, 0, none⟩ = some (.slice (some ⟨g, 0, none⟩) n cap) ∧ w'.frozen? ⟨hp, 0, none⟩ = false ∧ OwnsG w' hp (.slice (some ⟨g, 0, none⟩) n cap) Y ∧ Fr (fun b => b = hp ∨ b = g) w w' := by
  obtain ⟨x, hx⟩ : ∃ x, X[0]? = some x := ⟨_, List.getElem?_eq_getElem (by omega)⟩
  obtain ⟨z, hz⟩ : ∃ z, X[n]? = some z := ⟨_, List.getElem?_eq_getElem (by omega)⟩
  have hsz := World.block_lt_of_cell? _ _ h1
  have hgl := (h3.lt g rfl).2
  have hSw := fun w h1 h2 => swap_ends X n hp g cap hp x z w hn h1 h2 hx hz hne
  have HPm : Hid (X.Perm (x :: (swapW X 0 n x z).take n)) := pop_perm hn hx hz
  have HDn : Hid (DnX ((swapW X 0 n x z).take n) 0) := dn_begin hX
  have HSl : Hid ((swapW X 0 n x z).length = n + 1) := by simp only [Hid]; rw [swap_len, hn]
  have HTl : Hid (((swapW X 0 n x z).take n).length = n) := by simp only [Hid]; rw [List.length_take, swap_len]; omega
  have HLa : Hid ((swapW X 0 n x z)[n]? = some x) := swap_j (by omega)
  have HAll : Hid (∀ y ∈ X, LeW x y) := sink_all hX hx
  clear hx hz hX hn
  generalize swapW X 0 n x z = Z at *
  have k1 : (w.alloc (.cells #[.int .i64 0, .int .i64 0] 134)).cell? ⟨hp, 0, none⟩ = some (.slice (some ⟨g, 0, none⟩) (n + 1) cap) := keepC ((Below.refl _ w).alloc (Nat.le_refl _) _) h1
  have k2 : (w.alloc (.cells #[.int .i64 0, .int .i64 0] 134)).frozen? ⟨hp, 0, none⟩ = false := ((bcell ((Below.refl _ w).alloc (Nat.le_refl _) _)).2 _ _ hsz).trans h2
  have k3 : OwnsG (w.alloc (.cells #[.int .i64 0, .int .i64 0] 134)) hp (.slice (some ⟨g, 0, none⟩) (n + 1) cap) X := World.ownsRow.alloc h3 _
  have kr0 : (w.alloc (.cells #[.int .i64 0, .int .i64 0] 134)).cell? ⟨w.heap.size, 0, none⟩ = some (.int .i64 0) := by simp [go_sem]
  have kr1 : (w.alloc (.cells #[.int .i64 0, .int .i64 0] 134)).cell? ⟨w.heap.size, 1, none⟩ = some (.int .i64 0) := by simp [go_sem]
  have kf : ∀ i, (w.alloc (.cells #[.int .i64 0, .int .i64 0] 134)).frozen? ⟨w.heap.size, i, none⟩ = false := fun i => by simp [go_sem]
  have ksz : (w.alloc (.cells #[.int .i64 0, .int .i64 0] 134)).heap.size = w.heap.size + 1 := by simp
  have fA : Fr (fun b => b = hp ∨ b = g) w (w.alloc (.cells #[.int .i64 0, .int .i64 0] 134)) := Fr.of_below ((Below.refl _ w).alloc (Nat.le_refl _) _)
  have bn : IntKind.i64.wrap ((n : Int) + 1 - 1) = n := by rw [show (n : Int) + 1 - 1 = n by omega]; exact wrap_small _ (by omega) (by omega)
  have b1 : (0 : Int) ≤ (n : Int) := by omega
  have b2 : (n : Int) < (n : Int) + 1 := by omega
  have b3 : (n : Int) ≤ (cap : Int) := by omega
  go_enter Tryz.func81, Tryz.ntmps81
  go_wp2_with fail
  obtain ⟨wA, hwA⟩ : ∃ wA, (w.alloc (.cells #[.int .i64 0, .int .i64 0] 134)) = wA := ⟨_, rfl⟩
  rw [hwA] at k1 k2 k3 kr0 kr1 kf ksz fA ⊢
  clear hwA h1 h2 h3
  refine (hSw _ k1 k3).mono ?_
  rintro e w1 ⟨rfl, hO1, hg1⟩
  have ng : w.heap.size ≠ g := by omega
  have f1 := (Fr.of_grown hg1).mono (S2 := fun b => b = hp ∨ b = g) fun b _ hb => .inr (by injection hb with hb; exact hb.symm)
  have l1 := hg1.cell (a := ⟨hp, 0, none⟩) k1 (fun e => hne (by simpa using e))
  have l2 := (hg1.frozen_far ⟨hp, 0, none⟩ (by show hp < _; omega) (fun e => hne (by simpa using e))).trans k2
  have lr0 := hg1.cell (a := ⟨w.heap.size, 0, none⟩) kr0 (fun e => ng (by simpa using e))
  have lr1 := hg1.cell (a := ⟨w.heap.size, 1, none⟩) kr1 (fun e => ng (by simpa using e))
  have lf : ∀ i, w1.frozen? ⟨w.heap.size, i, none⟩ = false := fun i => (hg1.frozen_far ⟨w.heap.size, i, none⟩ (by show w.heap.size < _; omega) (fun e => ng (by simpa using e))).trans (kf i)
  have fB := fA.trans f1
  have hs1 := hg1.size
  obtain ⟨c0, c1⟩ := OwnsG.cells (X := Z) (cap := cap) (by rw [HSl.out]; exact hO1) HLa.out
  have hcut := owns_cut hO1 HSl.out
  clear hg1 f1 fA k1 k2 k3 kr0 kr1 kf hSw hO1
  have hbB := (Below.refl w1.heap.size w1).alloc (Nat.le_refl _) (.cells #[.int .i64 x.wall, .int .i64 x.place] 134)
  have m1 := keepC hbB l1
  have m2 := ((bcell hbB).2 _ _ (World.block_lt_of_cell? _ _ l1)).trans l2
  have mr0 := keepC hbB lr0
  have mr1 := keepC hbB lr1
  have mf : ∀ i, (w1.alloc (.cells #[.int .i64 x.wall, .int .i64 x.place] 134)).frozen? ⟨w.heap.size, i, none⟩ = false := fun i => ((bcell hbB).2 _ _ (World.block_lt_of_cell? _ _ lr0)).trans (lf i)
  have mx0 : (w1.alloc (.cells #[.int .i64 x.wall, .int .i64 x.place] 134)).cell? ⟨w1.heap.size, 0, none⟩ = some (.int .i64 x.wall) := by simp [go_sem]
  have mx1 : (w1.alloc (.cells #[.int .i64 x.wall, .int .i64 x.place] 134)).cell? ⟨w1.heap.size, 1, none⟩ = some (.int .i64 x.place) := by simp [go_sem]
  have mc : OwnsG (w1.alloc (.cells #[.int .i64 x.wall, .int .i64 x.place] 134)) hp (.slice (some ⟨g, 0, none⟩) n cap) (Z.take n) := World.ownsRow.alloc hcut _
  have fC := fB.trans (Fr.of_below hbB)
  obtain ⟨p1, p2, p3⟩ := push_laid m1 m2 mc hne
  have gs := grown_set (w1.alloc (.cells #[.int .i64 x.wall, .int .i64 x.place] 134)) hp 0 (.slice (some ⟨g, 0, none⟩) n cap)
  have nb : w.heap.size ≠ hp := by omega
  have nb1 : w1.heap.size ≠ hp := by omega
  have nb2 : w1.heap.size ≠ g := by omega
  have pr0 := gs.cell (a := ⟨w.heap.size, 0, none⟩) mr0 (fun e => nb (by simpa using e))
  have pr1 := gs.cell (a := ⟨w.heap.size, 1, none⟩) mr1 (fun e => nb (by simpa using e))
  have px0 := gs.cell (a := ⟨w1.heap.size, 0, none⟩) mx0 (fun e => nb1 (by simpa using e))
  have px1 := gs.cell (a := ⟨w1.heap.size, 1, none⟩) mx1 (fun e => nb1 (by simpa using e))
  have pf : ∀ i, ((w1.alloc (.cells #[.int .i64 x.wall, .int .i64 x.place] 134)).setCell ⟨hp, 0, none⟩ (.slice (some ⟨g, 0, none⟩) n cap)).frozen? ⟨w.heap.size, i, none⟩ = false := fun i => by rw [World.frozen?_setCell]; exact mf i
  have fD := fC.trans ((Fr.of_grown gs).mono (S2 := fun b => b = hp ∨ b = g) fun b _ hb => .inl (by injection hb with hb; exact hb.symm))
  have hSk := impl_sink (Z.take n) hp g cap n _ p1 p2 p3 HTl.out hne HDn.out (by omega)
  clear gs mc mr0 mr1 mf hbB l2 lr0 lr1 lf fB fC hcut
  go_wp2_with fail
  refine hSk.mono ?_
  rintro e w4 ⟨rfl, ⟨Y, hY, hYp, hYl, s1, s2, s3⟩, fr4⟩
  have HR : Hid (HeapX Y ∧ X.Perm (x :: Y) ∧ (∀ y ∈ Y, LeW x y) ∧ Y.length = n) := by
    have hp2 : X.Perm (x :: Y) := HPm.out.trans (List.Perm.cons x hYp.symm)
    exact ⟨hY, hp2, fun y hy => HAll.out y (hp2.mem_iff.mpr (List.mem_cons_of_mem _ hy)), hYl⟩
  have fE := fD.trans (fr4.mono (S2 := fun b => b = hp ∨ b = g) fun b _ hb => .inr hb)
  have t0 := fr4.cell (b := w.heap.size) (o := 0) ng pr0
  have t1 := fr4.cell (b := w.heap.size) (o := 1) ng pr1
  have t2 := fr4.cell (b := w1.heap.size) (o := 0) nb2 px0
  have t3 := fr4.cell (b := w1.heap.size) (o := 1) nb2 px1
  have tf : ∀ i, w4.frozen? ⟨w.heap.size, i, none⟩ = false := fun i => (fr4.frozen (World.block_lt_of_cell? _ _ pr0) ng).trans (pf i)
  have tf0 := tf 0
  have tf1 := tf 1
  have h4s := World.block_lt_of_cell? _ _ t0
  have gA := grown_set w4 w.heap.size 0 (.int .i64 x.wall)
  have gB := grown_set (w4.setCell ⟨w.heap.size, 0, none⟩ (.int .i64 x.wall)) w.heap.size 1 (.int .i64 x.place)
  have gAB := grown_trans gA gB
  have r0 : ((w4.setCell ⟨w.heap.size, 0, none⟩ (.int .i64 x.wall)).setCell ⟨w.heap.size, 1, none⟩ (.int .i64 x.place)).cell? ⟨w.heap.size, 0, none⟩ = some (.int .i64 x.wall) := by
    rw [World.cell?_setCell_other _ _ _ _ (by intro e; injection e with _ e2; omega)]
    exact World.cell?_setCell_same _ _ _ t0
  have t1' : (w4.setCell ⟨w.heap.size, 0, none⟩ (.int .i64 x.wall)).cell? ⟨w.heap.size, 1, none⟩ = some (.int .i64 0) := by
    rw [World.cell?_setCell_other _ _ _ _ (by intro e; injection e with _ e2; omega)]
    exact t1
  have r1 := World.cell?_setCell_same (w4.setCell ⟨w.heap.size, 0, none⟩ (.int .i64 x.wall)) _ (.int .i64 x.place) t1'
  have v1 := gAB.cell (a := ⟨hp, 0, none⟩) s1 (fun e => nb (by simpa using e.symm))
  have v2 := (gAB.frozen_far ⟨hp, 0, none⟩ (World.block_lt_of_cell? _ _ s1) (fun e => nb (by simpa using e.symm))).trans s2
  have v3 : OwnsG ((w4.setCell ⟨w.heap.size, 0, none⟩ (.int .i64 x.wall)).setCell ⟨w.heap.size, 1, none⟩ (.int .i64 x.place)) hp (.slice (some ⟨g, 0, none⟩) n cap) Y := World.ownsRow.kept s3 gAB (.inr fun e => ng (by simpa [Value.ownBlock] using e.symm))
  have fF : Fr (fun b => b = hp ∨ b = g) w ((w4.setCell ⟨w.heap.size, 0, none⟩ (.int .i64 x.wall)).setCell ⟨w.heap.size, 1, none⟩ (.int .i64 x.place)) := by
    refine ⟨gAB.os.trans fE.os, gAB.tape.trans fE.tape, gAB.output.trans fE.output, Nat.le_trans fE.size gAB.size, fun b hb hs => (gAB.block b (Nat.lt_of_lt_of_le hb fE.size) fun e => ?_).trans (fE.block b hb hs)⟩
    have : b = w.heap.size := by simpa using e
    omega
  clear gA gB gAB fE fr4 hSk s1 s2 s3 hY hYp hYl
  go_wp2
  exact bodyPost_ret (v := .agg #[.int .i64 x.wall, .int .i64 x.place]) (by simp [results, Tryz.results81, go_sem, r0, r1]) rfl ⟨x, Y, rfl, HR.out.1, HR.out.2.1, HR.out.2.2.1, HR.out.2.2.2, v1, v2, v3, fF⟩
end Go.Proofs.YtbbhpfobcelbfaaGreatDoor
