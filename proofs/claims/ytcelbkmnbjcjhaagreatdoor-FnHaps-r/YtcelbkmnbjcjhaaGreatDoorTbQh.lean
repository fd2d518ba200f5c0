/- Packed: Tb8 Tb6. -/
import Derived.Test.YtcelbkmnbjcjhaaGreatDoorHpRh
import Derived.Test.YtcelbkmnbjcjhaaGreatDoorMapPh
import Derived.Test.YtcelbkmnbjcjhaaGreatDoorTbPh
import Derived.Test.YtcelbkmnbjcjhaaGreatDoorHpPh
import Derived.Deep.AppendLies
namespace Go.Proofs.YtcelbkmnbjcjhaaGreatDoor
open Go.RowKit

theorem num_up {x y z : Int} (h : vldB x y z = true) (hx : x ≤ 2037) : num x y z ≤ 24836 := by
 have ⟨a, b, c, d, e, f⟩ := vld_t h
 have h3 := Cal.cum_succ x y c d
 have h4 := Cal.cum_mono (y := x) (a := y + 1) (b := 13) (by omega) (by omega) (by omega)
 have h5 := Cal.cum_13 x
 have h6 := Cal.dby_succ x a
 have h7 := Cal.dby_mono (a := x + 1) (b := 2038) (by omega) (by omega)
 have h8 : Cal.dby 2038 = 743999 := by unfold Cal.dby; omega
 unfold num
 omega
theorem nb_up {y m : Int} (h2 : y ≤ 2037) (t : ByteArray) : nbV y m t ≤ 24836 := by
 unfold nbV
 split
 ·
  rename_i h
  unfold nbB at h
  simp only [Bool.and_eq_true] at h
  exact num_up h.2.2 h2
 ·
  omega
theorem mo_up {y m : Int} {s : ByteArray} (hy : ymB y m = true) (h2 : y ≤ 2037) : moV y m s ≤ 24843 := by
 have nl := num_up (vld_last hy) h2
 have nb := nb_up (m := m) h2 (s.extract 5 s.size)
 have nb2 := nb_up (m := m) h2 s
 have w1 := wdN_bd (s.extract 4 7)
 have w2 := wdN_bd (s.extract 0 3)
 unfold moV
 split
 ·
  unfold uptoV
  split <;> omega
 ·
  split
  ·
   unfold fromV
   split <;> omega
  ·
   split
   ·
    unfold uptoV
    split <;> omega
   ·
    omega
theorem wallsN_up {i : Nat} {x : RuleD} {y : Int} (hx : RuleR x) {m : WallD} : ∀ {n : Nat}, 1960 ≤ y → y + n ≤ 2038 → m ∈ wallsN i x y n → m.wall ≤ 2200000000 := by
 intro n
 induction n with
 | zero => intro _ _ h; simp [wallsN] at h
 | succ n ih =>
  intro h1 h2 h
  rw [wallsN, List.mem_append] at h
  rcases h with h | h
  ·
   exact ih h1 (by omega) h
  ·
   have hb := mo_up (s := x.on) (ym_ok (y := y + n) (m := x.month) (by omega) (by omega) hx.month.1 hx.month.2) (by omega)
   have ha := hx.at_
   unfold wallsY at h
   split at h
   ·
    simp at h
   ·
    simp at h
    subst h
    show 86400 * moV (y + n) x.month x.on + x.at_ ≤ 2200000000
    omega
theorem wallsT_up {nm : ByteArray} {l : List RuleD} (hl : ∀ x ∈ l, RuleR x) {m : WallD} : ∀ {k : Nat}, m ∈ wallsT nm l k → m.wall ≤ 2200000000 := by
 intro k
 induction k with
 | zero => intro h; simp [wallsT] at h
 | succ k ih =>
  intro h
  rw [wallsT, List.mem_append] at h
  rcases h with h | h
  ·
   exact ih h
  ·
   split at h
   ·
    rename_i x hx
    split at h
    ·
     unfold wallsX at h
     by_cases hy : yrs x = 0
     ·
      rw [hy] at h; simp [wallsN] at h
     ·
      exact wallsN_up (hl x (List.mem_of_getElem? hx)) (by omega) (by unfold yrs at *; omega) h
    ·
     simp at h
   ·
    simp at h
theorem foldH_mem {l : List RuleD} {off : Int} (hl : ∀ x ∈ l, RuleR x) : ∀ (P : List WallD) (st : List HapD × Int), -7200 ≤ st.2 ∧ st.2 ≤ 7200 → ∀ h ∈ (P.foldl (stepH l off) st).1, h ∈ st.1 ∨ ∃ m ∈ P, ∃ x sv, x ∈ l ∧ -7200 ≤ sv ∧ sv ≤ 7200 ∧ h = hapOf x m.wall off sv := by
 intro P
 induction P with
 | nil => intro st _ h hh; exact .inl hh
 | cons m P ih =>
  intro st hs h hh
  rw [List.foldl_cons] at hh
  cases hx : l[m.place]? with
  | none =>
   have e : stepH l off st m = st := by unfold stepH; rw [hx]
   rw [e] at hh
   rcases ih st hs h hh with h1 | ⟨q, hq, h2⟩
   ·
    exact .inl h1
   ·
    exact .inr ⟨q, List.mem_cons_of_mem _ hq, h2⟩
  | some x =>
   have e : stepH l off st m = (st.1 ++ [hapOf x m.wall off st.2], x.save) := by unfold stepH; rw [hx]
   rw [e] at hh
   have hxl := List.mem_of_getElem? hx
   rcases ih _ (hl x hxl).save h hh with h1 | ⟨q, hq, h2⟩
   ·
    rcases List.mem_append.mp h1 with h1 | h1
    ·
     exact .inl h1
    ·
     simp at h1
     exact .inr ⟨m, by simp, x, st.2, hxl, hs.1, hs.2, h1⟩
   ·
    exact .inr ⟨q, List.mem_cons_of_mem _ hq, h2⟩
def srtF (l : List WallD) : List WallD := l.foldr (fun x s => mergeW [x] s) []
theorem srtF_srt : ∀ l : List WallD, SrtOf l (srtF l)
 | [] => srt_short (by simp)
 | x :: l => srt_merge (l1 := [x]) (srt_short (by simp)) (srtF_srt l)
def hapsT (r : RelD) (nm : ByteArray) (off : Int) : List HapD × Bool := if (wallsT nm r.rules r.rules.length).length ≤ 2000 then ((foldH r.rules off (srtF (wallsT nm r.rules r.rules.length))).1, true) else ([], false)
theorem hapsT_r (r : RelD) (nm : ByteArray) (off : Int) : HapsR r nm off (hapsT r nm off).1 (hapsT r nm off).2 := by
 unfold hapsT
 split
 ·
  rename_i h
  exact ⟨_, .inl ⟨h, rfl, srtF_srt _⟩, rfl⟩
 ·
  rename_i h
  exact ⟨[], .inr ⟨h, rfl, rfl⟩, rfl⟩
theorem hapsA_is {r : RelD} {nm : ByteArray} {off : Int} {H : List HapD} {b : Bool} (h : HapsA (ofName r.rules nm) off H b) : H = (hapsT r nm off).1 ∧ b = (hapsT r nm off).2 := haps_same h (hapsT_r r nm off)
theorem hapsR_is {r : RelD} {nm : ByteArray} {off : Int} {H : List HapD} {b : Bool} (h : HapsR r nm off H b) : H = (hapsT r nm off).1 ∧ b = (hapsT r nm off).2 := by
 obtain ⟨s, hs, rfl⟩ := h
 unfold hapsT
 rcases hs with ⟨g, rfl, hS⟩ | ⟨g, rfl, rfl⟩
 ·
  rw [if_pos g]
  have hF := srtF_srt (wallsT nm r.rules r.rules.length)
  rw [srt_one hS.up hF.up fun t => by rw [hS.at_, hF.at_]]
  exact ⟨rfl, rfl⟩
 ·
  rw [if_neg g]
  exact ⟨rfl, rfl⟩
structure HapB (h : HapD) : Prop where
 at_ : h.at_ ≤ 253402300799
 save : -7200 ≤ h.save ∧ h.save ≤ 7200
 letter : h.letter.size ≤ 6
theorem hapsT_b {r : RelD} {nm : ByteArray} {off : Int} (hr : ∀ x ∈ r.rules, ruleB x = true) (h1 : -86400 ≤ off) (h2 : off ≤ 86400) : ∀ h ∈ (hapsT r nm off).1, HapB h := by
 have hR : ∀ x ∈ r.rules, RuleR x := fun x hx => rule_r (hr x hx)
 intro h hh
 unfold hapsT at hh
 split at hh
 ·
  rcases foldH_mem hR _ _ (by simp) h hh with h0 | ⟨m, hm, x, sv, hx, s1, s2, rfl⟩
  ·
   simp at h0
  ·
   have hw := wallsT_up hR (srt_mem (srtF_srt _) hm)
   have hL : x.letter.size ≤ 6 := by
    have := hr x hx
    unfold ruleB ltB at this
    simp only [Bool.and_eq_true, decide_eq_true_eq] at this
    exact this.2.2.2.2.2.2.2.2.1
   refine ⟨?_, (hR x hx).save, hL⟩
   cases hs : (x.of.toList == [115])
   ·
    cases hv : (x.of.toList == [119])
    ·
     rw [hap_u hs hv]; show m.wall ≤ 253402300799; omega
    ·
     rw [hap_w hs hv]; show m.wall - off - sv ≤ 253402300799; omega
   ·
    rw [hap_s hs]; show m.wall - off ≤ 253402300799; omega
 ·
  simp at hh
theorem hapsT_len {r : RelD} {nm : ByteArray} {off : Int} : (hapsT r nm off).1.length ≤ 2000 := by
 unfold hapsT
 split
 ·
  rename_i h
  have hF := srtF_srt (wallsT nm r.rules r.rules.length)
  have : ∀ (P : List WallD) (st : List HapD × Int), (P.foldl (stepH r.rules off) st).1.length ≤ st.1.length + P.length := by
   intro P
   induction P with
   | nil => intro st; simp
   | cons m P ih =>
    intro st
    rw [List.foldl_cons]
    have h1 := ih (stepH r.rules off st m)
    have h2 : (stepH r.rules off st m).1.length ≤ st.1.length + 1 := by
     unfold stepH
     split
     ·
      simp
     ·
      omega
    simp only [List.length_cons]
    omega
  have h3 := this (srtF (wallsT nm r.rules r.rules.length)) ([], 0)
  rw [hF.len] at h3
  simp at h3
  unfold foldH
  exact Nat.le_trans h3 h
 ·
  simp
end Go.Proofs.YtcelbkmnbjcjhaaGreatDoor
namespace Go.Proofs.YtcelbkmnbjcjhaaGreatDoor
open Go.RowKit Go.Sort

end Go.Proofs.YtcelbkmnbjcjhaaGreatDoor
