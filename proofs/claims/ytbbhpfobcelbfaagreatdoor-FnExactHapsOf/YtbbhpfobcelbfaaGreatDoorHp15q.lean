/- What is popped is what is sorted: plain mathematics. -/
import Derived.Test.YtbbhpfobcelbfaaGreatDoorHp14q
namespace Go.Proofs.YtbbhpfobcelbfaaGreatDoor
open Go.RowKit

theorem perm_sorted : ∀ {a b : List WallD}, (∀ x ∈ a, ∀ y ∈ a, x.place = y.place → x = y) → a.Pairwise (fun x y => x.place ≤ y.place) → b.Pairwise (fun x y => x.place ≤ y.place) → a.Perm b → a = b := by
  intro a
  induction a with
  | nil => intro b _ _ _ h; exact (List.nil_perm.mp h).symm
  | cons x a ih =>
    intro b hu ha hb h
    cases b with
    | nil => exact absurd h.length_eq (by simp)
    | cons y b =>
      have ha' := List.pairwise_cons.mp ha
      have hb' := List.pairwise_cons.mp hb
      have hxy : x.place = y.place := by
        have h1 : x ∈ y :: b := h.mem_iff.mp (by simp)
        have h2 : y ∈ x :: a := h.mem_iff.mpr (by simp)
        have e1 : y.place ≤ x.place := by
          rcases List.mem_cons.mp h1 with e | e
          · rw [e]; exact Nat.le_refl _
          · exact hb'.1 x e
        have e2 : x.place ≤ y.place := by
          rcases List.mem_cons.mp h2 with e | e
          · rw [e]; exact Nat.le_refl _
          · exact ha'.1 y e
        omega
      have hE : x = y := hu x (by simp) y (h.mem_iff.mpr (by simp)) hxy
      subst hE
      rw [ih (fun p hp q hq => hu p (List.mem_cons_of_mem _ hp) q (List.mem_cons_of_mem _ hq)) ha'.2 hb'.2 ((List.perm_cons x).mp h)]
theorem wallsN_place {i : Nat} {x : RuleD} {y : Int} : ∀ {n : Nat} {m : WallD}, m ∈ wallsN i x y n → m.place = i := by
  intro n
  induction n with
  | zero => intro m h; simp [wallsN] at h
  | succ n ih =>
    intro m h
    rw [wallsN, List.mem_append] at h
    rcases h with h | h
    · exact ih h
    · unfold wallsY at h
      split at h
      · simp at h
      · simp at h; rw [h]
theorem wallsA_lt {l : List RuleD} : ∀ {k : Nat} {m : WallD}, m ∈ wallsA l k → m.place < k := by
  intro k
  induction k with
  | zero => intro m h; simp [wallsA] at h
  | succ k ih =>
    intro m h
    rw [wallsA, List.mem_append] at h
    rcases h with h | h
    · have := ih h; omega
    · split at h
      · have := wallsN_place h; omega
      · simp at h
theorem wallsA_up (l : List RuleD) : ∀ k, (wallsA l k).Pairwise fun x y => x.place ≤ y.place := by
  intro k
  induction k with
  | zero => exact List.Pairwise.nil
  | succ k ih =>
    rw [wallsA, List.pairwise_append]
    refine ⟨ih, ?_, fun a ha b hb => ?_⟩
    · split
      · rename_i x _
        have h : ∀ m ∈ wallsX k x, m.place = k := fun m hm => wallsN_place hm
        exact List.pairwise_iff_forall_sublist.mpr fun {a b} hs => by
          have := h a (hs.subset (by simp))
          have := h b (hs.subset (by simp))
          omega
      · exact List.Pairwise.nil
    · have h1 := wallsA_lt ha
      split at hb
      · have := wallsN_place hb; omega
      · simp at hb
/-- the popped list and the list made: at each wall time the same. -/
theorem popped_at {l : List RuleD} {P : List WallD} (hP : P.Pairwise LeW) (hp : P.Perm (wallsA l l.length)) (t : Int) : atW t P = atW t (wallsA l l.length) := by
  refine perm_sorted (fun x hx y hy e => ?_) ?_ ?_ (hp.filter _)
  · have h1 := of_decide_eq_true (List.mem_filter.mp hx).2
    have h2 := of_decide_eq_true (List.mem_filter.mp hy).2
    obtain ⟨xw, xp⟩ := x
    obtain ⟨yw, yp⟩ := y
    simp at h1 h2 e
    rw [h1, h2, e]
  · refine List.Pairwise.imp_of_mem (fun {a b} ha hb hab => ?_) (hP.filter _)
    have h1 := of_decide_eq_true (List.mem_filter.mp ha).2
    have h2 := of_decide_eq_true (List.mem_filter.mp hb).2
    unfold LeW at hab
    omega
  · exact (wallsA_up l _).filter _
/-- places among the rules of a name turned to those among all. -/
def turnW (ix : List Nat) (m : WallD) : WallD := ⟨m.wall, ix[m.place]?.getD 0⟩
theorem wallsN_turn {ix : List Nat} {n k : Nat} {x : RuleD} {y : Int} (h : ix[n]? = some k) : ∀ c, (wallsN n x y c).map (turnW ix) = wallsN k x y c := by
  intro c
  induction c with
  | zero => rfl
  | succ c ih =>
    rw [wallsN, wallsN, List.map_append, ih]
    congr 1
    unfold wallsY
    split
    · rfl
    · simp [turnW, h]
theorem wallsA_prefix (F : List RuleD) (x : RuleD) : ∀ k, k ≤ F.length → wallsA (F ++ [x]) k = wallsA F k := by
  intro k
  induction k with
  | zero => intro _; rfl
  | succ k ih =>
    intro hk
    rw [wallsA, wallsA, ih (by omega), List.getElem?_append_left (by omega)]
/-- the rules of a name among the first k. -/
structure Link (l : List RuleD) (nm : ByteArray) (k : Nat) (F : List RuleD) (ix : List Nat) : Prop where
  len : F.length = ix.length
  at_ : ∀ (j i : Nat), ix[j]? = some i → l[i]? = F[j]?
  walls : wallsT nm l k = (wallsA F F.length).map (turnW ix)
theorem link_all (l : List RuleD) (nm : ByteArray) : ∀ k, k ≤ l.length → ∃ ix, Link l nm k ((l.take k).filter fun x => x.name.toList == nm.toList) ix := by
  intro k
  induction k with
  | zero => intro _; exact ⟨[], by simp, fun j i h => by simp at h, by simp [wallsT, wallsA]⟩
  | succ k ih =>
    intro hk
    obtain ⟨ix, hL⟩ := ih (by omega)
    obtain ⟨x, hx⟩ : ∃ x, l[k]? = some x := ⟨_, List.getElem?_eq_getElem (by omega)⟩
    rw [List.take_add_one, hx]
    cases hn : (x.name.toList == nm.toList)
    · refine ⟨ix, ?_⟩
      have e : ((l.take k ++ (some x).toList).filter fun x => x.name.toList == nm.toList) = (l.take k).filter fun x => x.name.toList == nm.toList := by
        rw [List.filter_append]; simp [hn]
      rw [e]
      exact ⟨hL.len, hL.at_, by rw [wallsT_no hx hn]; exact hL.walls⟩
    · obtain ⟨F, hF⟩ : ∃ F, ((l.take k).filter fun x => x.name.toList == nm.toList) = F := ⟨_, rfl⟩
      rw [hF] at hL
      have e : ((l.take k ++ (some x).toList).filter fun x => x.name.toList == nm.toList) = F ++ [x] := by
        rw [List.filter_append, hF]; simp [hn]
      rw [e]
      refine ⟨ix ++ [k], by simp [hL.len], fun j i hj => ?_, ?_⟩
      · have hjl := (List.getElem?_eq_some_iff.mp hj).1
        rw [List.length_append] at hjl
        simp at hjl
        by_cases hje : j = ix.length
        · subst hje
          rw [List.getElem?_append_right (Nat.le_refl _)] at hj
          simp at hj
          subst hj
          rw [hx, ← hL.len, List.getElem?_append_right (Nat.le_refl _)]
          simp
        · rw [List.getElem?_append_left (by omega)] at hj
          rw [hL.at_ j i hj, List.getElem?_append_left (by rw [hL.len]; omega)]
      · rw [wallsT_yes hx hn, hL.walls, List.length_append]
        show _ = (wallsA (F ++ [x]) (F.length + 1)).map _
        rw [wallsA_step (x := x) (by simp), wallsA_prefix F x _ (Nat.le_refl _), List.map_append]
        congr 1
        · apply List.map_congr_left
          intro m hm
          have hlt := wallsA_lt hm
          unfold turnW
          rw [List.getElem?_append_left (by rw [← hL.len]; exact hlt)]
        · unfold wallsX
          rw [wallsN_turn (k := k)]
          rw [hL.len]
          simp
theorem fold_turn {l F : List RuleD} {ix : List Nat} {off : Int} (hlen : F.length = ix.length) (h : ∀ (j i : Nat), ix[j]? = some i → l[i]? = F[j]?) : ∀ (P : List WallD) (st : List HapD × Int), (∀ m ∈ P, m.place < F.length) → (P.map (turnW ix)).foldl (stepH l off) st = P.foldl (stepH F off) st := by
  intro P
  induction P with
  | nil => intro st _; rfl
  | cons m P ih =>
    intro st hP
    have hm := hP m (by simp)
    obtain ⟨i, hi⟩ : ∃ i, ix[m.place]? = some i := ⟨_, List.getElem?_eq_getElem (by omega)⟩
    rw [List.map_cons, List.foldl_cons, List.foldl_cons]
    have e : stepH l off st (turnW ix m) = stepH F off st m := by
      unfold stepH turnW
      simp only [hi, Option.getD_some]
      rw [h _ _ hi]
    rw [e]
    exact ih _ fun q hq => hP q (List.mem_cons_of_mem _ hq)
/-- THE LINK: what the program tells of the rules of a name is what the model tells. -/
theorem haps_same {r : RelD} {nm : ByteArray} {off : Int} {H1 H2 : List HapD} {b1 b2 : Bool} (h1 : HapsA (r.rules.filter fun x => x.name.toList == nm.toList) off H1 b1) (h2 : HapsR r nm off H2 b2) : H1 = H2 ∧ b1 = b2 := by
  obtain ⟨ix, hL⟩ := link_all r.rules nm r.rules.length (Nat.le_refl _)
  rw [List.take_length] at hL
  obtain ⟨F, hF⟩ : ∃ F, (r.rules.filter fun x => x.name.toList == nm.toList) = F := ⟨_, rfl⟩
  rw [hF] at hL h1
  have hlen : (wallsT nm r.rules r.rules.length).length = (wallsA F F.length).length := by rw [hL.walls, List.length_map]
  obtain ⟨s, hs, rfl⟩ := h2
  rcases h1 with ⟨g1, rfl, P, hP, hp, rfl⟩ | ⟨g1, rfl, rfl⟩
  · rcases hs with ⟨_, rfl, hS⟩ | ⟨g2, _, _⟩
    · refine ⟨?_, rfl⟩
      have hsP : s = P.map (turnW ix) := by
        refine srt_one hS.up ?_ fun t => ?_
        · exact List.pairwise_map.mpr (hP.imp fun {a b} hab => by unfold LeW at hab; show a.wall ≤ b.wall; omega)
        · have e : ∀ X : List WallD, atW t (X.map (turnW ix)) = (atW t X).map (turnW ix) := fun X => by unfold atW; rw [List.filter_map]; rfl
          rw [hS.at_, hL.walls, e, e, popped_at hP hp]
      rw [hsP]
      unfold foldH
      rw [fold_turn hL.len hL.at_ P _ fun m hm => wallsA_lt (hp.mem_iff.mp hm)]
    · omega
  · rcases hs with ⟨g2, _, _⟩ | ⟨_, rfl, rfl⟩
    · omega
    · exact ⟨rfl, rfl⟩
end Go.Proofs.YtbbhpfobcelbfaaGreatDoor
