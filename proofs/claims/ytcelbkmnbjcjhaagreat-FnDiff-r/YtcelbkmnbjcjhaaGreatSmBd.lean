/- Packed: Ts10 Sm3. -/
import Derived.Test.YtcelbkmnbjcjhaaGreatTs7d
import Derived.Test.YtcelbkmnbjcjhaaGreatTs8d
import Derived.Test.YtcelbkmnbjcjhaaGreatTsCd
import Derived.Test.YtcelbkmnbjcjhaaGreatMoPd
import Derived.Test.YtcelbkmnbjcjhaaGreatRdFd
namespace Go.Proofs.YtcelbkmnbjcjhaaGreat
open Go.RowKit

theorem tabC : TabC := ⟨fun r zn E ae ce a b0 c ca cb cc w hv hE hr hrl hon hP hl hU => spec_l03Table r zn E ae ce a b0 c ca cb cc w hv hE hr hrl hon hP hl hU⟩
end Go.Proofs.YtcelbkmnbjcjhaaGreat
namespace Go.Proofs.YtcelbkmnbjcjhaaGreat
open Go.RowKit

theorem abbrD_size (f l : ByteArray) (s : Int) : (abbrD f l s).size ≤ 16000 := by
 unfold abbrD
 split
 ·
  rename_i h
  have h1 := part_len f.data.toList s
  have hf : f.data.toList.length = f.size := Array.length_toList
  have hl : l.data.toList.length = l.size := Array.length_toList
  show (abbrL (partL f.data.toList s) l.data.toList).toArray.size ≤ 16000
  rw [List.size_toArray]
  unfold abbrL
  split
  ·
   simp only [List.length_append, List.length_take, List.length_drop]; omega
  ·
   omega
 ·
  show (0 : Nat) ≤ 16000
  omega
def Sh (T : List TurnD) : Prop := ∀ t ∈ T, t.abbr.size ≤ 16000
theorem Sh.add {T : List TurnD} {x : TurnD} (h : Sh T) (hx : x.abbr.size ≤ 16000) : Sh (addT T x) := by
 have h2 : Sh (T ++ [x]) := fun t ht => by
  rcases List.mem_append.1 ht with h1 | h1
  ·
   exact h t h1
  ·
   rw [List.mem_singleton] at h1; subst h1; exact hx
 unfold addT
 split
 ·
  split
  ·
   exact h
  ·
   exact h2
 ·
  exact h2
theorem Sh.fold {f : Int → TurnD} (hf : ∀ t, (f t).abbr.size ≤ 16000) : ∀ (L : List Int) {T : List TurnD}, Sh T → Sh (foldT f L T)
 | [], _, h => h
 | t :: L, _, h => by rw [foldT_cons]; exact Sh.fold hf L (h.add (hf t))
theorem Sh.step {r : RelD} {la : Bool} {e : EraD} {st : List TurnD × Int} (h : Sh st.1) : Sh (stepE r la e st).1 := by
 have hf : ∀ t, (turnE e (hapsT r e.rules e.offset).1 t).abbr.size ≤ 16000 := fun t => abbrD_size _ _ _
 unfold stepE
 split
 ·
  exact Sh.fold hf _ h
 ·
  show Sh (if _ then _ else _)
  split
  ·
   exact Sh.fold hf _ h
  ·
   exact h
theorem stK_sh (r : RelD) (E : List EraD) : ∀ k, Sh (stK r E k).1
 | 0 => fun t ht => by simp [stK] at ht
 | k + 1 => by
  unfold stK
  split
  ·
   exact (stK_sh r E k).step
  ·
   exact stK_sh r E k
theorem tabD_good (r : RelD) (nm : ByteArray) : (tabD r nm).2.length ≤ 600 ∧ ∀ t ∈ (tabD r nm).2, t.ok := by
 have key : (tabE r (zoneD r nm).eras).2 = true → (tabE r (zoneD r nm).eras).1.length ≤ 600 ∧ ∀ t ∈ (tabE r (zoneD r nm).eras).1, t.ok := by
  unfold tabE
  split
  ·
   intro h
   refine ⟨of_decide_eq_true h, fun t ht => ?_⟩
   have := stK_sh r (zoneD r nm).eras _ t ht
   unfold TurnD.ok maxLen
   omega
  ·
   intro h; cases h
 unfold tabD
 repeat' split
 all_goals first
  | exact key (by assumption)
  | exact ⟨by simp, fun t ht => by simp at ht⟩
/-- a release that was read. -/
def Rok (w : World) (v : Value) : Prop := ∃ r : RelD, RelAt w v r ∧ r.ok ∧ r.small ∧ ∀ x ∈ r.rules, x.on.size ≤ 1048576
theorem rok_nil (w : World) : Rok w (.agg #[.slice none 0 0, .slice none 0 0, .slice none 0 0]) := by
 refine ⟨⟨[], [], []⟩, ⟨⟨none, none, none, 0, 0, 0, rfl, ?_, ?_, ?_⟩⟩, ?_, ?_, fun x hx => by cases hx⟩
 ·
  exact .inl rfl
 ·
  exact .inl rfl
 ·
  exact .inl rfl
 ·
  refine ⟨⟨?_, fun x hx => by cases hx⟩, ⟨?_, fun x hx => by cases hx⟩, ⟨?_, fun x hx => by cases hx⟩⟩ <;> (unfold maxLen; simp)
 ·
  exact ⟨by simp, by simp, by simp, fun z hz => by cases hz⟩
theorem someC : SomeC Rok where
 read s w hs := (rd_ReleaseRead s w hs).mono fun e w' h => by
  obtain ⟨rv, zv, lv, ln, cd, rfl, hb, h1⟩ := h.ex
  refine ⟨rv, zv, lv, ln, cd, rfl, hb, ?_⟩
  rcases h1 with ⟨rfl, rfl, rfl⟩ | ⟨B, p, more, R, evs, K, _, hR, _, hK⟩
  ·
   exact rok_nil _
  ·
   exact ⟨R, hR.rel, hR.okR hK, hR.smallR hK, fun x hx => by have := (hR.sm.1 x hx).2.1; omega⟩
 tab v w h := by
  obtain ⟨r, hv, ok, sm, hon⟩ := h
  refine (spec_TableOf tabC r v _ w hv ok sm hon (by unfold maxLen; decide)).mono fun e w' h => ?_
  obtain ⟨tv, rfl, hO, hb⟩ := h.ex
  exact ⟨tv, _, _, rfl, hO, (tabD_good r _).1, (tabD_good r _).2, hb⟩
end Go.Proofs.YtcelbkmnbjcjhaaGreat
