/- Where two tables differ: pieces of time, and the spans made of them. -/
import Derived.Test.YtjfonbnmdcpepaaDfMath
namespace Go.Proofs.Ytjfonbnmdcpepaa
open Go.RowKit

/-- a piece of time. -/
structure PieceD where
  lo : Int
  hi : Int
  un : Bool
def PieceD.cs (p : PieceD) : List Value := [.int .i64 p.lo, .int .i64 p.hi, .bool p.un]
/-- spans, and whether the last one may grow. -/
def stepS (s : List SpanD × Bool) (p : PieceD) : List SpanD × Bool :=
  if p.un = true then (if s.2 = true then (s.1.set (s.1.length - 1) ⟨(s.1[s.1.length - 1]?.getD ⟨0, 0⟩).lo, p.hi⟩, true) else (s.1 ++ [⟨p.lo, p.hi⟩], true)) else (s.1, false)
def foldS (P : List PieceD) : List SpanD × Bool := P.foldl stepS ([], false)
theorem step_no {s : List SpanD × Bool} {p : PieceD} (h : p.un = false) : stepS s p = (s.1, false) := by unfold stepS; rw [if_neg (by rw [h]; simp)]
theorem step_new {s : List SpanD × Bool} {p : PieceD} (h : p.un = true) (h2 : s.2 = false) : stepS s p = (s.1 ++ [⟨p.lo, p.hi⟩], true) := by unfold stepS; rw [if_pos h, if_neg (by rw [h2]; simp)]
theorem step_grow {s : List SpanD × Bool} {p : PieceD} (h : p.un = true) (h2 : s.2 = true) {n : Nat} (hn : s.1.length = n + 1) {x : SpanD} (hx : s.1[n]? = some x) : stepS s p = (s.1.set n ⟨x.lo, p.hi⟩, true) := by
  unfold stepS; rw [if_pos h, if_pos h2, hn, Nat.add_sub_cancel, hx]; rfl
theorem foldS_take {P : List PieceD} {k : Nat} {p : PieceD} (h : P[k]? = some p) : foldS (P.take (k + 1)) = stepS (foldS (P.take k)) p := by
  unfold foldS; rw [List.take_add_one, h, List.foldl_append]; rfl
/-- where the last one may grow there is one. -/
theorem step_some {s : List SpanD × Bool} {p : PieceD} (h : s.2 = true → s.1 ≠ []) : (stepS s p).2 = true → (stepS s p).1 ≠ [] := by
  unfold stepS
  split
  · split
    · rename_i _ h2
      intro _ e
      have e2 := congrArg List.length e
      simp at e2
      exact h h2 e2
    · intro _; simp
  · intro e; cases e
theorem step_len (s : List SpanD × Bool) (p : PieceD) : (stepS s p).1.length ≤ s.1.length + 1 := by
  unfold stepS
  split
  · split <;> simp
  · simp
theorem foldS_some (P : List PieceD) : ∀ k, k ≤ P.length → ((foldS (P.take k)).2 = true → (foldS (P.take k)).1 ≠ []) ∧ (foldS (P.take k)).1.length ≤ k := by
  intro k
  induction k with
  | zero => intro _; exact ⟨fun h => by simp [foldS] at h, by simp [foldS]⟩
  | succ k ih =>
    intro hk
    obtain ⟨p, hp⟩ : ∃ p, P[k]? = some p := ⟨_, List.getElem?_eq_getElem (by omega)⟩
    rw [foldS_take hp]
    have h := ih (by omega)
    refine ⟨step_some h.1, ?_⟩
    have := step_len (foldS (P.take k)) p
    omega
theorem foldS_len (P : List PieceD) : (foldS P).1.length ≤ P.length := by
  have := (foldS_some P P.length (Nat.le_refl _)).2
  rw [List.take_length] at this
  exact this
/-- a run of pieces that are not unlike. -/
theorem run_no : ∀ {R : List PieceD} {out : List SpanD} {ws : Bool}, R ≠ [] → (∀ p ∈ R, p.un = false) → R.foldl stepS (out, ws) = (out, false) := by
  intro R
  induction R with
  | nil => intro _ _ h; exact absurd rfl h
  | cons p R ih =>
    intro out ws _ h
    rw [List.foldl_cons, step_no (h p (by simp))]
    cases R with
    | nil => rfl
    | cons q R => exact ih (by simp) fun x hx => h x (List.mem_cons_of_mem _ hx)
theorem run_grow : ∀ {R : List PieceD} {out : List SpanD} {x y : Int} {z : PieceD}, (∀ p ∈ R, p.un = true) → (R = [] → z.hi = y) → (∀ q, R.getLast? = some q → z = q) → R.foldl stepS (out ++ [⟨x, y⟩], true) = (out ++ [⟨x, z.hi⟩], true) := by
  intro R
  induction R with
  | nil => intro out x y z _ h _; rw [h rfl]; rfl
  | cons p R ih =>
    intro out x y z h h1 h2
    rw [List.foldl_cons, step_grow (n := out.length) (x := ⟨x, y⟩) (h p (by simp)) rfl (by simp) (by simp)]
    rw [List.set_append_right _ _ (Nat.le_refl _), Nat.sub_self, List.set_cons_zero]
    refine ih (fun q hq => h q (List.mem_cons_of_mem _ hq)) (fun e => ?_) (fun q hq => h2 q ?_)
    · subst e; rw [h2 p rfl]
    · cases R with
      | nil => simp at hq
      | cons r R => rw [List.getLast?_cons_cons]; exact hq
/-- a run of unlike pieces. -/
theorem run_yes {R : List PieceD} {out : List SpanD} {f z : PieceD} (h : ∀ p ∈ R, p.un = true) (hf : R.head? = some f) (hz : R.getLast? = some z) : R.foldl stepS (out, false) = (out ++ [⟨f.lo, z.hi⟩], true) := by
  cases R with
  | nil => cases hf
  | cons p R =>
    simp at hf
    subst hf
    rw [List.foldl_cons, step_new (h p (by simp)) rfl]
    refine run_grow (fun q hq => h q (List.mem_cons_of_mem _ hq)) (fun e => ?_) (fun q hq => ?_)
    · subst e; simp at hz; rw [← hz]
    · cases R with
      | nil => simp at hq
      | cons r R => rw [List.getLast?_cons_cons] at hz; rw [hz] at hq; exact Option.some.inj hq
/-- how many are alike from the first on. -/
def RunN (Q : List PieceD) (m : Nat) : Prop := 1 ≤ m ∧ m ≤ Q.length ∧ (∀ f, Q[0]? = some f → (∀ t p, t < m → Q[t]? = some p → p.un = f.un) ∧ ∀ p, Q[m]? = some p → p.un ≠ f.un)
/-- what is left to be done. -/
def LeftS (P : List PieceD) (k : Nat) (out : List SpanD) : Prop := ∃ ws, (P.drop k).foldl stepS (out, ws) = foldS P ∧ (ws = true → ∀ p, P[k]? = some p → p.un = false)
theorem left_begin (P : List PieceD) : LeftS P 0 [] := ⟨false, rfl, fun h => by cases h⟩
theorem left_end {P : List PieceD} {k : Nat} {out : List SpanD} (h : LeftS P k out) (hk : P.length ≤ k) : (foldS P).1 = out := by
  obtain ⟨ws, h, _⟩ := h
  rw [List.drop_eq_nil_of_le hk] at h
  rw [← h]; rfl
theorem run_parts {P : List PieceD} {k m : Nat} : P.drop k = (P.drop k).take m ++ P.drop (k + m) := by
  rw [← List.drop_drop, List.take_append_drop]
theorem run_mem {P : List PieceD} {k m : Nat} (h : RunN (P.drop k) m) {f : PieceD} (hf : P[k]? = some f) : ∀ p ∈ (P.drop k).take m, p.un = f.un := by
  intro p hp
  obtain ⟨t, ht⟩ := List.getElem?_of_mem hp
  have hlt := (List.getElem?_eq_some_iff.mp ht).1
  rw [List.length_take] at hlt
  rw [List.getElem?_take_of_lt (by omega)] at ht
  exact (h.2.2 f (by rw [List.getElem?_drop]; exact hf)).1 t p (by omega) ht
theorem run_next {P : List PieceD} {k m : Nat} (h : RunN (P.drop k) m) {f : PieceD} (hf : P[k]? = some f) {p : PieceD} (hp : P[k + m]? = some p) : p.un ≠ f.un :=
  (h.2.2 f (by rw [List.getElem?_drop]; exact hf)).2 p (by rw [List.getElem?_drop]; exact hp)
theorem left_no {P : List PieceD} {k m : Nat} {out : List SpanD} (h : LeftS P k out) (hr : RunN (P.drop k) m) {f : PieceD} (hf : P[k]? = some f) (hu : f.un = false) : LeftS P (k + m) out := by
  obtain ⟨ws, h1, _⟩ := h
  rw [run_parts (m := m), List.foldl_append, run_no (R := (P.drop k).take m)] at h1
  · exact ⟨false, h1, fun e => by cases e⟩
  · intro e
    have := congrArg List.length e
    have h2 := hr.1
    have h3 := hr.2.1
    rw [List.length_take] at this
    simp at this h3
    omega
  · intro p hp; rw [run_mem hr hf p hp, hu]
theorem left_yes {P : List PieceD} {k m : Nat} {out : List SpanD} (h : LeftS P k out) (hr : RunN (P.drop k) m) {f z : PieceD} (hf : P[k]? = some f) (hz : P[k + (m - 1)]? = some z) (hu : f.un = true) : LeftS P (k + m) (out ++ [⟨f.lo, z.hi⟩]) := by
  obtain ⟨ws, h1, h2⟩ := h
  have hw : ws = false := by
    cases hws : ws with
    | false => rfl
    | true => have := h2 hws f hf; rw [hu] at this; cases this
  subst hw
  have m1 := hr.1
  have m2 := hr.2.1
  rw [run_parts (m := m), List.foldl_append, run_yes (R := (P.drop k).take m) (f := f) (z := z)] at h1
  · exact ⟨true, h1, fun _ p hp => by
      have := run_next hr hf hp
      rw [hu] at this
      simpa using this⟩
  · intro p hp; rw [run_mem hr hf p hp, hu]
  · rw [List.head?_take, if_neg (by omega), List.head?_drop]; exact hf
  · rw [List.getLast?_eq_getElem?, List.length_take, Nat.min_eq_left m2, List.getElem?_take_of_lt (by omega), List.getElem?_drop]; exact hz
/-- the offset at an instant. -/
def offAt (l : List TurnD) (n : Int) : Int := match l[cntT l n - 1]? with
  | some t => t.offset
  | none => 0
def endOf (U : List Int) (k : Nat) : Int := match U[k + 1]? with
  | some y => y - 1
  | none => 253402300799
def pieceAt (la lb : List TurnD) (U : List Int) (k : Nat) : PieceD := ⟨U[k]?.getD 0, endOf U k, offAt la (U[k]?.getD 0) != offAt lb (U[k]?.getD 0)⟩
def piecesD (la lb : List TurnD) (U : List Int) : List PieceD := (List.range U.length).map (pieceAt la lb U)
theorem pieces_len (la lb : List TurnD) (U : List Int) : (piecesD la lb U).length = U.length := by simp [piecesD]
theorem pieces_at {la lb : List TurnD} {U : List Int} {k : Nat} {x : Int} (h : U[k]? = some x) : (piecesD la lb U)[k]? = some ⟨x, endOf U k, offAt la x != offAt lb x⟩ := by
  unfold piecesD
  rw [List.getElem?_map, List.getElem?_range (List.getElem?_eq_some_iff.mp h).1]
  simp [pieceAt, h]
theorem pieces_take {la lb : List TurnD} {U : List Int} {k : Nat} {x : Int} (h : U[k]? = some x) : (piecesD la lb U).take (k + 1) = (piecesD la lb U).take k ++ [⟨x, endOf U k, offAt la x != offAt lb x⟩] := by
  rw [List.take_add_one, pieces_at h]; rfl
def uniT (la lb : List TurnD) : List Int := uniI (la.map TurnD.at_) (lb.map TurnD.at_)
def diffR (la lb : List TurnD) : List SpanD := (foldS (piecesD la lb (uniT la lb))).1
def diffD (la lb : List TurnD) : List SpanD := if tabB la = true ∧ tabB lb = true then diffR la lb else []
theorem diff_no1 {la lb : List TurnD} (h : tabB la = false) : diffD la lb = [] := by unfold diffD; rw [if_neg (by rw [h]; simp)]
theorem diff_no2 {la lb : List TurnD} (h : tabB lb = false) : diffD la lb = [] := by unfold diffD; rw [if_neg (by rw [h]; simp)]
theorem diff_yes {la lb : List TurnD} (h : tabB la = true) (h2 : tabB lb = true) : diffD la lb = diffR la lb := by unfold diffD; rw [if_pos ⟨h, h2⟩]
theorem uniT_len {la lb : List TurnD} (ha : TabR la) (hb : TabR lb) : (uniT la lb).length ≤ 1200 := by
  have := uniI_len (A := la.map TurnD.at_) (B := lb.map TurnD.at_)
  have := ha.len
  have := hb.len
  unfold uniT
  simp at *
  omega
theorem diff_len (la lb : List TurnD) : (diffD la lb).length ≤ 1200 := by
  cases ha : tabB la
  · rw [diff_no1 ha]; simp
  · cases hb : tabB lb
    · rw [diff_no2 hb]; simp
    · rw [diff_yes ha hb]
      have h1 := foldS_len (piecesD la lb (uniT la lb))
      rw [pieces_len] at h1
      have h2 := uniT_len (tab_of ha) (tab_of hb)
      unfold diffR
      omega
theorem ats_at {l : List TurnD} {k : Nat} {x : TurnD} (h : l[k]? = some x) : (l.map TurnD.at_)[k]? = some x.at_ := by rw [List.getElem?_map, h]; rfl
theorem ats_of {l : List TurnD} {k : Nat} {n : Int} (h : (l.map TurnD.at_)[k]? = some n) : ∃ x, l[k]? = some x ∧ x.at_ = n := by
  rw [List.getElem?_map] at h
  obtain ⟨x, hx, e⟩ := Option.map_eq_some_iff.mp h
  exact ⟨x, hx, e⟩
theorem off_here {l : List TurnD} (hT : TabR l) {n : Int} {i : Nat} {x : TurnD} (h : Here (l.map TurnD.at_) n i) (hx : l[i]? = some x) : offAt l n = x.offset := by
  obtain ⟨a, ha, h1, h2⟩ := h
  rw [ats_at hx] at ha
  obtain rfl := Option.some.inj ha
  have hc := cnt_at hT.up hx h1 fun y hy => h2 y.at_ (ats_at hy)
  unfold offAt
  rw [hc, Nat.add_sub_cancel, hx]
theorem uni_low {la lb : List TurnD} (ha : TabR la) (hb : TabR lb) {k : Nat} {n : Int} (h : (uniT la lb)[k]? = some n) : -62135596800 ≤ n ∧ n ≤ 253402300799 := by
  have low : ∀ {l : List TurnD}, TabR l → n ∈ l.map TurnD.at_ → -62135596800 ≤ n ∧ n ≤ 253402300799 := fun {l} hT hm => by
    obtain ⟨x, hx, e⟩ := List.mem_map.mp hm
    obtain ⟨j, hj⟩ := List.getElem?_of_mem hx
    have h0 := hT.len
    obtain ⟨f, hf⟩ : ∃ f, l[0]? = some f := ⟨_, List.getElem?_eq_getElem (by omega)⟩
    have h1 := hT.first f hf
    have h2 := upT_le2 hT.up (Nat.zero_le j) hf hj
    have h3 := hT.top j x hj
    omega
  rcases uniI_mem.mp (List.mem_of_getElem? h) with e | e
  · exact low ha e
  · exact low hb e
end Go.Proofs.Ytjfonbnmdcpepaa
