/- Packed: Tb8 Tb9 Hp18 Tb10. -/
import Derived.Test.YtcelbkmnbjcjhaaGreatHpBd
import Derived.Test.YtcelbkmnbjcjhaaGreatRelAd
import Derived.Test.YtcelbkmnbjcjhaaGreatTbPd
import Derived.Test.YtcelbkmnbjcjhaaGreatTbQd
import Derived.Test.YtcelbkmnbjcjhaaGreatRightAd
import Derived.Deep.RegionHeld3
namespace Go.Proofs.YtcelbkmnbjcjhaaGreat
open Go.RowKit

theorem num_up {x y z : Int} (h : vldB x y z = true) (hx : x ≤ 2037) : num x y z ≤ 24836 := by
 have ⟨a, b, c, d, e, f⟩ := vld_t h
 have h3 := Cal.cum_succ x y c d
 have h4 := Cal.cum_mono (y := x) (a := y + 1) (b := 13) (by omega) (by omega) (by omega)
 have h5 := Cal.cum_13 x
 have h6 := Cal.dby_succ x a
 have h7 := Cal.dby_mono (a := x + 1) (b := 2038) (by omega) (by omega)
 have h8 : Cal.dby 2038 = 743999 := by unfold Cal.dby; omega
 unfold num
 omega
theorem nb_up {y m : Int} (h2 : y ≤ 2037) (t : ByteArray) : nbV y m t ≤ 24836 := by
 unfold nbV
 split
 ·
  rename_i h
  unfold nbB at h
  simp only [Bool.and_eq_true] at h
  exact num_up h.2.2 h2
 ·
  omega
theorem mo_up {y m : Int} {s : ByteArray} (hy : ymB y m = true) (h2 : y ≤ 2037) : moV y m s ≤ 24843 := by
 have nl := num_up (vld_last hy) h2
 have nb := nb_up (m := m) h2 (s.extract 5 s.size)
 have nb2 := nb_up (m := m) h2 s
 have w1 := wdN_bd (s.extract 4 7)
 have w2 := wdN_bd (s.extract 0 3)
 unfold moV
 split
 ·
  unfold uptoV
  split <;> omega
 ·
  split
  ·
   unfold fromV
   split <;> omega
  ·
   split
   ·
    unfold uptoV
    split <;> omega
   ·
    omega
theorem wallsN_up {i : Nat} {x : RuleD} {y : Int} (hx : RuleR x) {m : WallD} : ∀ {n : Nat}, 1960 ≤ y → y + n ≤ 2038 → m ∈ wallsN i x y n → m.wall ≤ 2200000000 := by
 intro n
 induction n with
 | zero => intro _ _ h; simp [wallsN] at h
 | succ n ih =>
  intro h1 h2 h
  rw [wallsN, List.mem_append] at h
  rcases h with h | h
  ·
   exact ih h1 (by omega) h
  ·
   have hb := mo_up (s := x.on) (ym_ok (y := y + n) (m := x.month) (by omega) (by omega) hx.month.1 hx.month.2) (by omega)
   have ha := hx.at_
   unfold wallsY at h
   split at h
   ·
    simp at h
   ·
    simp at h
    subst h
    show 86400 * moV (y + n) x.month x.on + x.at_ ≤ 2200000000
    omega
theorem wallsT_up {nm : ByteArray} {l : List RuleD} (hl : ∀ x ∈ l, RuleR x) {m : WallD} : ∀ {k : Nat}, m ∈ wallsT nm l k → m.wall ≤ 2200000000 := by
 intro k
 induction k with
 | zero => intro h; simp [wallsT] at h
 | succ k ih =>
  intro h
  rw [wallsT, List.mem_append] at h
  rcases h with h | h
  ·
   exact ih h
  ·
   split at h
   ·
    rename_i x hx
    split at h
    ·
     unfold wallsX at h
     by_cases hy : yrs x = 0
     ·
      rw [hy] at h; simp [wallsN] at h
     ·
      exact wallsN_up (hl x (List.mem_of_getElem? hx)) (by omega) (by unfold yrs at *; omega) h
    ·
     simp at h
   ·
    simp at h
/-- what a list of what happens is made of. -/
theorem foldH_mem {l : List RuleD} {off : Int} (hl : ∀ x ∈ l, RuleR x) : ∀ (P : List WallD) (st : List HapD × Int), -7200 ≤ st.2 ∧ st.2 ≤ 7200 → ∀ h ∈ (P.foldl (stepH l off) st).1, h ∈ st.1 ∨ ∃ m ∈ P, ∃ x sv, x ∈ l ∧ -7200 ≤ sv ∧ sv ≤ 7200 ∧ h = hapOf x m.wall off sv := by
 intro P
 induction P with
 | nil => intro st _ h hh; exact .inl hh
 | cons m P ih =>
  intro st hs h hh
  rw [List.foldl_cons] at hh
  cases hx : l[m.place]? with
  | none =>
   have e : stepH l off st m = st := by unfold stepH; rw [hx]
   rw [e] at hh
   rcases ih st hs h hh with h1 | ⟨q, hq, h2⟩
   ·
    exact .inl h1
   ·
    exact .inr ⟨q, List.mem_cons_of_mem _ hq, h2⟩
  | some x =>
   have e : stepH l off st m = (st.1 ++ [hapOf x m.wall off st.2], x.save) := by unfold stepH; rw [hx]
   rw [e] at hh
   have hxl := List.mem_of_getElem? hx
   rcases ih _ (hl x hxl).save h hh with h1 | ⟨q, hq, h2⟩
   ·
    rcases List.mem_append.mp h1 with h1 | h1
    ·
     exact .inl h1
    ·
     simp at h1
     exact .inr ⟨m, by simp, x, st.2, hxl, hs.1, hs.2, h1⟩
   ·
    exact .inr ⟨q, List.mem_cons_of_mem _ hq, h2⟩
/-- sorted by wall times. -/
def srtF (l : List WallD) : List WallD := l.foldr (fun x s => mergeW [x] s) []
theorem srtF_srt : ∀ l : List WallD, SrtOf l (srtF l)
 | [] => srt_short (by simp)
 | x :: l => srt_merge (l1 := [x]) (srt_short (by simp)) (srtF_srt l)
/-- what happens, and whether there is room for it. -/
def hapsT (r : RelD) (nm : ByteArray) (off : Int) : List HapD × Bool := if (wallsT nm r.rules r.rules.length).length ≤ 2000 then ((foldH r.rules off (srtF (wallsT nm r.rules r.rules.length))).1, true) else ([], false)
theorem hapsR_is {r : RelD} {nm : ByteArray} {off : Int} {H : List HapD} {b : Bool} (h : HapsR r nm off H b) : H = (hapsT r nm off).1 ∧ b = (hapsT r nm off).2 := by
 obtain ⟨s, hs, rfl⟩ := h
 unfold hapsT
 rcases hs with ⟨g, rfl, hS⟩ | ⟨g, rfl, rfl⟩
 ·
  rw [if_pos g]
  have hF := srtF_srt (wallsT nm r.rules r.rules.length)
  rw [srt_one hS.up hF.up fun t => by rw [hS.at_, hF.at_]]
  exact ⟨rfl, rfl⟩
 ·
  rw [if_neg g]
  exact ⟨rfl, rfl⟩
/-- no great numbers, no long letters. -/
structure HapB (h : HapD) : Prop where
 at_ : h.at_ ≤ 253402300799
 save : -7200 ≤ h.save ∧ h.save ≤ 7200
 letter : h.letter.size ≤ 6
theorem hapsT_b {r : RelD} {nm : ByteArray} {off : Int} (hr : ∀ x ∈ r.rules, ruleB x = true) (h1 : -86400 ≤ off) (h2 : off ≤ 86400) : ∀ h ∈ (hapsT r nm off).1, HapB h := by
 have hR : ∀ x ∈ r.rules, RuleR x := fun x hx => rule_r (hr x hx)
 intro h hh
 unfold hapsT at hh
 split at hh
 ·
  rcases foldH_mem hR _ _ (by simp) h hh with h0 | ⟨m, hm, x, sv, hx, s1, s2, rfl⟩
  ·
   simp at h0
  ·
   have hw := wallsT_up hR (srt_mem (srtF_srt _) hm)
   have hL : x.letter.size ≤ 6 := by
    have := hr x hx
    unfold ruleB ltB at this
    simp only [Bool.and_eq_true, decide_eq_true_eq] at this
    exact this.2.2.2.2.2.2.2.2.1
   refine ⟨?_, (hR x hx).save, hL⟩
   cases hs : (x.of.toList == [115])
   ·
    cases hv : (x.of.toList == [119])
    ·
     rw [hap_u hs hv]; show m.wall ≤ 253402300799; omega
    ·
     rw [hap_w hs hv]; show m.wall - off - sv ≤ 253402300799; omega
   ·
    rw [hap_s hs]; show m.wall - off ≤ 253402300799; omega
 ·
  simp at hh
theorem hapsT_len {r : RelD} {nm : ByteArray} {off : Int} : (hapsT r nm off).1.length ≤ 2000 := by
 unfold hapsT
 split
 ·
  rename_i h
  have hF := srtF_srt (wallsT nm r.rules r.rules.length)
  have : ∀ (P : List WallD) (st : List HapD × Int), (P.foldl (stepH r.rules off) st).1.length ≤ st.1.length + P.length := by
   intro P
   induction P with
   | nil => intro st; simp
   | cons m P ih =>
    intro st
    rw [List.foldl_cons]
    have h1 := ih (stepH r.rules off st m)
    have h2 : (stepH r.rules off st m).1.length ≤ st.1.length + 1 := by
     unfold stepH
     split
     ·
      simp
     ·
      omega
    simp only [List.length_cons]
    omega
  have h3 := this (srtF (wallsT nm r.rules r.rules.length)) ([], 0)
  rw [hF.len] at h3
  simp at h3
  unfold foldH
  exact Nat.le_trans h3 h
 ·
  simp
end Go.Proofs.YtcelbkmnbjcjhaaGreat
namespace Go.Proofs.YtcelbkmnbjcjhaaGreat
open Go.RowKit Go.Sort

/-- an era of a right zone. -/
structure EraR (e : EraD) : Prop where
 off : -86400 ≤ e.offset ∧ e.offset ≤ 86400
 unt : -62135596800 ≤ e.until_ ∧ e.until_ ≤ 253402300799
 fmt : e.format.size ≤ 12
 sav : e.rules.size = 0 → -7200 ≤ e.save ∧ e.save ≤ 7200
 nam : e.rules.size ≤ 20
theorem forceE_b {e : EraD} {H : List HapD} (he : EraR e) (hH : ∀ h ∈ H, HapB h) (t : Int) : (-7200 ≤ (forceE e H t).save ∧ (forceE e H t).save ≤ 7200) ∧ (forceE e H t).letter.size ≤ 6 := by
 by_cases h0 : e.rules.size = 0
 ·
  rw [forceE_no h0]
  exact ⟨he.sav h0, by simp [ByteArray.size]⟩
 ·
  rw [forceE_yes h0]
  cases hc : hcnt H t with
  | zero =>
   refine ⟨by simp [forceN], ?_⟩
   show (firstL H).size ≤ 6
   clear hc
   induction H with
   | nil => simp [firstL, ByteArray.size]
   | cons a H ih =>
    rw [firstL]
    split
    ·
     exact (hH a (by simp)).letter
    ·
     exact ih fun h hh => hH h (List.mem_cons_of_mem _ hh)
  | succ m =>
   obtain ⟨x, hx⟩ : ∃ x, H[m]? = some x := ⟨_, List.getElem?_eq_getElem (by have := hcnt_le H t; omega)⟩
   have hB := hH x (List.mem_of_getElem? hx)
   simp only [forceN]
   rw [hx]
   exact ⟨hB.save, hB.letter⟩
/-- an era more. -/
def stepE (r : RelD) (last : Bool) (e : EraD) (st : List TurnD × Int) : List TurnD × Int :=
 if last = true then (foldT (turnE e (hapsT r e.rules e.offset).1) (atsF st.2 (inX (hapsT r e.rules e.offset).1 st.2 253402300799)) st.1, 253402300799)
 else (if st.2 < endE e (hapsT r e.rules e.offset).1 st.2 then foldT (turnE e (hapsT r e.rules e.offset).1) (atsF st.2 (inX (hapsT r e.rules e.offset).1 st.2 (endE e (hapsT r e.rules e.offset).1 st.2))) st.1 else st.1, endE e (hapsT r e.rules e.offset).1 st.2)
def stK (r : RelD) (E : List EraD) : Nat → List TurnD × Int
 | 0 => ([], -62135596800)
 | k + 1 => match E[k]? with
  | some e => stepE r (decide (k + 1 = E.length)) e (stK r E k)
  | none => stK r E k
def okK (r : RelD) (E : List EraD) : Nat → Bool
 | 0 => true
 | k + 1 => okK r E k && (match E[k]? with | some e => (hapsT r e.rules e.offset).2 | none => true)
/-- the turns of eras, and whether there is room for them. -/
def tabE (r : RelD) (E : List EraD) : List TurnD × Bool := if okK r E E.length = true then ((stK r E E.length).1, decide ((stK r E E.length).1.length ≤ 600)) else ([], false)
theorem okK_no {r : RelD} {E : List EraD} {k : Nat} {e : EraD} (he : E[k]? = some e) (h : (hapsT r e.rules e.offset).2 = false) : ∀ {n : Nat}, k < n → okK r E n = false := by
 intro n
 induction n with
 | zero => intro hn; omega
 | succ n ih =>
  intro hn
  rw [okK]
  by_cases e1 : k = n
  ·
   subst e1; rw [he]; simp [h]
  ·
   rw [ih (by omega)]; rfl
theorem okK_yes {r : RelD} {E : List EraD} {k : Nat} {e : EraD} (he : E[k]? = some e) (h : (hapsT r e.rules e.offset).2 = true) (hk : okK r E k = true) : okK r E (k + 1) = true := by rw [okK, hk, he]; simp [h]
theorem stK_last {r : RelD} {E : List EraD} {k : Nat} {e : EraD} {T : List TurnD} {b : Int} (he : E[k]? = some e) (hk : k + 1 = E.length) (hs : stK r E k = (T, b)) : stK r E (k + 1) = (foldT (turnE e (hapsT r e.rules e.offset).1) (atsF b (inX (hapsT r e.rules e.offset).1 b 253402300799)) T, 253402300799) := by
 rw [stK, he]
 simp only
 rw [decide_eq_true hk, hs]
 rfl
theorem stK_more {r : RelD} {E : List EraD} {k : Nat} {e : EraD} {T : List TurnD} {b : Int} (he : E[k]? = some e) (hk : ¬ k + 1 = E.length) (hs : stK r E k = (T, b)) : stK r E (k + 1) = (if b < endE e (hapsT r e.rules e.offset).1 b then foldT (turnE e (hapsT r e.rules e.offset).1) (atsF b (inX (hapsT r e.rules e.offset).1 b (endE e (hapsT r e.rules e.offset).1 b))) T else T, endE e (hapsT r e.rules e.offset).1 b) := by
 rw [stK, he]
 simp only
 rw [decide_eq_false hk, hs]
 rfl
theorem stK_b {r : RelD} {E : List EraD} : ∀ k, (-62135596800 ≤ (stK r E k).2 ∧ (stK r E k).2 ≤ 253402300799) ∧ (stK r E k).1.length ≤ 2001 * k := by
 intro k
 induction k with
 | zero => simp [stK]
 | succ k ih =>
  rw [stK]
  split
  ·
   rename_i e he
   obtain ⟨⟨i1, i2⟩, i3⟩ := ih
   have hl := hapsT_len (r := r) (nm := e.rules) (off := e.offset)
   generalize (hapsT r e.rules e.offset).1 = H at *
   have hx : ∀ n, (atsF (stK r E k).2 (inX H (stK r E k).2 n)).length ≤ 2001 := fun n => by
    have h1 := ats_len (stK r E k).2 (inX H (stK r E k).2 n)
    have h2 := inX_len H (stK r E k).2 n
    omega
   unfold stepE
   split
   ·
    refine ⟨by simp, ?_⟩
    have h1 := foldT_len (turnE e (hapsT r e.rules e.offset).1) (atsF (stK r E k).2 (inX (hapsT r e.rules e.offset).1 (stK r E k).2 253402300799)) (stK r E k).1
    have h2 := ats_len (stK r E k).2 (inX (hapsT r e.rules e.offset).1 (stK r E k).2 253402300799)
    have h3 := inX_len (hapsT r e.rules e.offset).1 (stK r E k).2 253402300799
    have h4 := hapsT_len (r := r) (nm := e.rules) (off := e.offset)
    show (foldT _ _ _).length ≤ _
    omega
   ·
    refine ⟨?_, ?_⟩
    ·
     show _ ≤ endE e _ _ ∧ endE e _ _ ≤ _
     unfold endE
     omega
    ·
     show (if _ then _ else _ : List TurnD).length ≤ _
     split
     ·
      have h1 := foldT_len (turnE e (hapsT r e.rules e.offset).1) (atsF (stK r E k).2 (inX (hapsT r e.rules e.offset).1 (stK r E k).2 (endE e (hapsT r e.rules e.offset).1 (stK r E k).2))) (stK r E k).1
      have h2 := ats_len (stK r E k).2 (inX (hapsT r e.rules e.offset).1 (stK r E k).2 (endE e (hapsT r e.rules e.offset).1 (stK r E k).2))
      have h3 := inX_len (hapsT r e.rules e.offset).1 (stK r E k).2 (endE e (hapsT r e.rules e.offset).1 (stK r E k).2)
      have h4 := hapsT_len (r := r) (nm := e.rules) (off := e.offset)
      omega
     ·
      omega
  ·
   omega
end Go.Proofs.YtcelbkmnbjcjhaaGreat
namespace Go.Proofs.YtcelbkmnbjcjhaaGreat
open Go.RowKit

theorem OwnsH.seq {w : World} {base : Nat} {v : Value} {P : List HapD} (h : OwnsH w base v P) : ∃ a cap, v = .slice a P.length cap ∧ SeqAt w a 3 (P.map HapD.cs) := by
 obtain ⟨a, cap, h1, h2, h3⟩ := seq_of_owns (rows := P.map HapD.cs) (by rw [List.length_map]; exact h) hap_len
 rw [List.length_map] at h1 h3
 exact ⟨a, cap, h1, h2⟩
end Go.Proofs.YtcelbkmnbjcjhaaGreat
namespace Go.Proofs.YtcelbkmnbjcjhaaGreat
open Go.RowKit Go.Sort

end Go.Proofs.YtcelbkmnbjcjhaaGreat
