/- The turns of a zone's eras: the program's turnsOf. -/
import Derived.Test.YtbbhpfobcelbfaaGreatDoorTbQt
import Derived.Test.YtbbhpfobcelbfaaGreatDoorMapPt
import Derived.Test.YtbbhpfobcelbfaaGreatDoorHp17t
namespace Go.Proofs.YtbbhpfobcelbfaaGreatDoor
open Go.RowKit Go.Sort

/-- an era of a right zone. -/
structure EraR (e : EraD) : Prop where
  off : -86400 ≤ e.offset ∧ e.offset ≤ 86400
  unt : -62135596800 ≤ e.until_ ∧ e.until_ ≤ 253402300799
  fmt : e.format.size ≤ 12
  sav : e.rules.size = 0 → -7200 ≤ e.save ∧ e.save ≤ 7200
  nam : e.rules.size ≤ 20
theorem forceE_b {e : EraD} {H : List HapD} (he : EraR e) (hH : ∀ h ∈ H, HapB h) (t : Int) : (-7200 ≤ (forceE e H t).save ∧ (forceE e H t).save ≤ 7200) ∧ (forceE e H t).letter.size ≤ 6 := by
  by_cases h0 : e.rules.size = 0
  · rw [forceE_no h0]
    exact ⟨he.sav h0, by simp [ByteArray.size]⟩
  · rw [forceE_yes h0]
    cases hc : hcnt H t with
    | zero =>
      refine ⟨by simp [forceN], ?_⟩
      show (firstL H).size ≤ 6
      clear hc
      induction H with
      | nil => simp [firstL, ByteArray.size]
      | cons a H ih =>
        rw [firstL]
        split
        · exact (hH a (by simp)).letter
        · exact ih fun h hh => hH h (List.mem_cons_of_mem _ hh)
    | succ m =>
      obtain ⟨x, hx⟩ : ∃ x, H[m]? = some x := ⟨_, List.getElem?_eq_getElem (by have := hcnt_le H t; omega)⟩
      have hB := hH x (List.mem_of_getElem? hx)
      simp only [forceN]
      rw [hx]
      exact ⟨hB.save, hB.letter⟩
/-- an era more. -/
def stepE (r : RelD) (last : Bool) (e : EraD) (st : List TurnD × Int) : List TurnD × Int :=
  if last = true then (foldT (turnE e (hapsT r e.rules e.offset).1) (atsF st.2 (inX (hapsT r e.rules e.offset).1 st.2 253402300799)) st.1, 253402300799)
  else (if st.2 < endE e (hapsT r e.rules e.offset).1 st.2 then foldT (turnE e (hapsT r e.rules e.offset).1) (atsF st.2 (inX (hapsT r e.rules e.offset).1 st.2 (endE e (hapsT r e.rules e.offset).1 st.2))) st.1 else st.1, endE e (hapsT r e.rules e.offset).1 st.2)
def stK (r : RelD) (E : List EraD) : Nat → List TurnD × Int
  | 0 => ([], -62135596800)
  | k + 1 => match E[k]? with
    | some e => stepE r (decide (k + 1 = E.length)) e (stK r E k)
    | none => stK r E k
def okK (r : RelD) (E : List EraD) : Nat → Bool
  | 0 => true
  | k + 1 => okK r E k && (match E[k]? with | some e => (hapsT r e.rules e.offset).2 | none => true)
/-- the turns of eras, and whether there is room for them. -/
def tabE (r : RelD) (E : List EraD) : List TurnD × Bool := if okK r E E.length = true then ((stK r E E.length).1, decide ((stK r E E.length).1.length ≤ 600)) else ([], false)
theorem okK_no {r : RelD} {E : List EraD} {k : Nat} {e : EraD} (he : E[k]? = some e) (h : (hapsT r e.rules e.offset).2 = false) : ∀ {n : Nat}, k < n → okK r E n = false := by
  intro n
  induction n with
  | zero => intro hn; omega
  | succ n ih =>
    intro hn
    rw [okK]
    by_cases e1 : k = n
    · subst e1; rw [he]; simp [h]
    · rw [ih (by omega)]; rfl
theorem okK_yes {r : RelD} {E : List EraD} {k : Nat} {e : EraD} (he : E[k]? = some e) (h : (hapsT r e.rules e.offset).2 = true) (hk : okK r E k = true) : okK r E (k + 1) = true := by rw [okK, hk, he]; simp [h]
theorem stK_last {r : RelD} {E : List EraD} {k : Nat} {e : EraD} {T : List TurnD} {b : Int} (he : E[k]? = some e) (hk : k + 1 = E.length) (hs : stK r E k = (T, b)) : stK r E (k + 1) = (foldT (turnE e (hapsT r e.rules e.offset).1) (atsF b (inX (hapsT r e.rules e.offset).1 b 253402300799)) T, 253402300799) := by
  rw [stK, he]
  simp only
  rw [decide_eq_true hk, hs]
  rfl
theorem stK_more {r : RelD} {E : List EraD} {k : Nat} {e : EraD} {T : List TurnD} {b : Int} (he : E[k]? = some e) (hk : ¬ k + 1 = E.length) (hs : stK r E k = (T, b)) : stK r E (k + 1) = (if b < endE e (hapsT r e.rules e.offset).1 b then foldT (turnE e (hapsT r e.rules e.offset).1) (atsF b (inX (hapsT r e.rules e.offset).1 b (endE e (hapsT r e.rules e.offset).1 b))) T else T, endE e (hapsT r e.rules e.offset).1 b) := by
  rw [stK, he]
  simp only
  rw [decide_eq_false hk, hs]
  rfl
theorem stK_b {r : RelD} {E : List EraD} : ∀ k, (-62135596800 ≤ (stK r E k).2 ∧ (stK r E k).2 ≤ 253402300799) ∧ (stK r E k).1.length ≤ 2001 * k := by
  intro k
  induction k with
  | zero => simp [stK]
  | succ k ih =>
    rw [stK]
    split
    · rename_i e he
      obtain ⟨⟨i1, i2⟩, i3⟩ := ih
      have hl := hapsT_len (r := r) (nm := e.rules) (off := e.offset)
      generalize (hapsT r e.rules e.offset).1 = H at *
      have hx : ∀ n, (atsF (stK r E k).2 (inX H (stK r E k).2 n)).length ≤ 2001 := fun n => by
        have h1 := ats_len (stK r E k).2 (inX H (stK r E k).2 n)
        have h2 := inX_len H (stK r E k).2 n
        omega
      unfold stepE
      split
      · refine ⟨by simp, ?_⟩
        have h1 := foldT_len (turnE e (hapsT r e.rules e.offset).1) (atsF (stK r E k).2 (inX (hapsT r e.rules e.offset).1 (stK r E k).2 253402300799)) (stK r E k).1
        have h2 := ats_len (stK r E k).2 (inX (hapsT r e.rules e.offset).1 (stK r E k).2 253402300799)
        have h3 := inX_len (hapsT r e.rules e.offset).1 (stK r E k).2 253402300799
        have h4 := hapsT_len (r := r) (nm := e.rules) (off := e.offset)
        show (foldT _ _ _).length ≤ _
        omega
      · refine ⟨?_, ?_⟩
        · show _ ≤ endE e _ _ ∧ endE e _ _ ≤ _
          unfold endE
          omega
        · show (if _ then _ else _ : List TurnD).length ≤ _
          split
          · have h1 := foldT_len (turnE e (hapsT r e.rules e.offset).1) (atsF (stK r E k).2 (inX (hapsT r e.rules e.offset).1 (stK r E k).2 (endE e (hapsT r e.rules e.offset).1 (stK r E k).2))) (stK r E k).1
            have h2 := ats_len (stK r E k).2 (inX (hapsT r e.rules e.offset).1 (stK r E k).2 (endE e (hapsT r e.rules e.offset).1 (stK r E k).2))
            have h3 := inX_len (hapsT r e.rules e.offset).1 (stK r E k).2 (endE e (hapsT r e.rules e.offset).1 (stK r E k).2)
            have h4 := hapsT_len (r := r) (nm := e.rules) (off := e.offset)
            omega
          · omega
    · omega
end Go.Proofs.YtbbhpfobcelbfaaGreatDoor
