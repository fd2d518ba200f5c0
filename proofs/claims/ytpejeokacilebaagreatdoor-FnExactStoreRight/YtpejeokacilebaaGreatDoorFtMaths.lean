/- The table of a right release's zone is right: plain mathematics. -/
import Derived.Test.YtpejeokacilebaaGreatDoorTbSs
import Derived.Test.YtpejeokacilebaaGreatDoorTabPs
set_option maxHeartbeats 20000000
set_option linter.unusedSimpArgs false
namespace Go.Proofs.YtpejeokacilebaaGreatDoor
open Go.RowKit
theorem cutL_len (a l : List UInt8) (s : Int) : (jdb (partL a s) l).length <= a.length + l.length := by
 have h1 := part_len a s
 unfold jdb
 split
 ·simp only [List.length_append, List.length_take, List.length_drop]; omega
 ·omega
theorem abbrD_le {f l : ByteArray} {s : Int} (hf : f.size <= 12) (hl : l.size <= 6) : (abbrD f l s).size <= 20 := by
 rw [abbrD_yes ⟨by omega, by omega⟩]
 have h := cutL_len f.data.toList l.data.toList s
 simp only [Array.length_toList] at h
 show (List.toArray _).size <= 20
 rw [List.size_toArray]
 have h1 : f.data.size = f.size := rfl
 have h2 : l.data.size = l.size := rfl
 omega
structure TInv (E : List EraD) (T : List TurnD) : Prop where
 up : T.Pairwise fun x y => x.at_ < y.at_
 hd : ∀ a, T[0]? = some a -> a.at_ = -62135596800
 ok : ∀ t ∈ T, jb4 t = true /\ ∃ e ∈ E, e.offset + t.save = t.offset
 nl : ∀ (i : Nat) x y, T[i]? = some x -> T[i + 1]? = some y -> likeT x y = false
theorem TInv.add {E : List EraD} {T : List TurnD} {x : TurnD} (h : TInv E T) (hx : ∀ t ∈ T, t.at_ < x.at_) (h0 : T = [] -> x.at_ = -62135596800) (hok : jb4 x = true /\ ∃ e ∈ E, e.offset + x.save = x.offset) : TInv E (addT T x) /\ (∀ u ∈ addT T x, u ∈ T \/ u = x) /\ addT T x ≠ [] := by
 have hnew : (∀ y, T.getLast? = some y -> likeT y x = false) -> TInv E (T ++ [x]) /\ (∀ u ∈ T ++ [x], u ∈ T \/ u = x) /\ T ++ [x] ≠ [] := fun hl => by
  refine ⟨⟨?_, ?_, ?_, ?_⟩, fun u hu => by simpa using hu, by simp⟩
  ·refine List.pairwise_append.mpr ⟨h.up, by simp, fun a ha b hb => ?_⟩
   simp at hb
   subst hb
   exact hx a ha
  ·intro a ha
   by_cases hT : T = []
   ·subst hT
    simp at ha
    subst ha
    exact h0 rfl
   ·have hp : 0 < T.length := List.length_pos_iff.mpr hT
    rw [List.getElem?_append_left hp] at ha
    exact h.hd a ha
  ·intro t ht
   rcases List.mem_append.mp ht with ht | ht
   ·exact h.ok t ht
   ·simp at ht
    subst ht
    exact hok
  ·intro i a b ha hb
   by_cases hi : i + 1 < T.length
   ·rw [List.getElem?_append_left (by omega)] at ha
    rw [List.getElem?_append_left hi] at hb
    exact h.nl i a b ha hb
   ·have hl2 := (List.getElem?_eq_some_iff.mp hb).1
    simp at hl2
    have e : i + 1 = T.length := by omega
    rw [List.getElem?_append_left (by omega)] at ha
    rw [e, List.getElem?_append_right (by omega)] at hb
    simp at hb
    subst hb
    exact hl a (by rw [List.getLast?_eq_getElem?, show T.length - 1 = i by omega]; exact ha)
 unfold addT
 split
 ·rename_i y hy
  split
  ·exact ⟨h, fun u hu => .inl hu, fun e => by subst e; simp at hy⟩
  ·rename_i hn
   exact hnew fun z hz => by
    rw [hy] at hz
    obtain rfl := Option.some.inj hz
    simpa using hn
 ·rename_i hn
  exact hnew fun z hz => by rw [hn] at hz; cases hz
theorem TInv.fold {E : List EraD} {f : Int -> TurnD} : ∀ {L : List Int} {T : List TurnD}, TInv E T -> L.Pairwise (· < ·) -> (∀ t ∈ T, ∀ l ∈ L, t.at_ < l) -> (T = [] -> ∀ l L', L = l :: L' -> l = -62135596800) -> (∀ l, (f l).at_ = l /\ jb4 (f l) = true /\ ∃ e ∈ E, e.offset + (f l).save = (f l).offset) ->
  TInv E (ja5 f L T) /\ (∀ u ∈ ja5 f L T, u ∈ T \/ u.at_ ∈ L) /\ (ja5 f L T = [] -> T = [] /\ L = []) := by
 intro L
 induction L with
 | nil => intro T h _ _ _ _; exact ⟨h, fun u hu => .inl hu, fun e => ⟨e, rfl⟩⟩
 | cons l L ih =>
  intro T h hL hT h0 hf
  rw [foldT_cons]
  have hL' := List.pairwise_cons.mp hL
  obtain ⟨f1, f2, f3⟩ := hf l
  obtain ⟨i1, i2, i3⟩ := h.add (x := f l) (fun t ht => by rw [f1]; exact hT t ht l (by simp)) (fun e => by rw [f1]; exact h0 e l L rfl) ⟨f2, f3⟩
  obtain ⟨j1, j2, j3⟩ := ih i1 hL'.2 (fun t ht m hm => by
   rcases i2 t ht with e | e
   ·exact hT t e m (List.mem_cons_of_mem _ hm)
   ·subst e
    rw [f1]
    exact hL'.1 m hm) (fun e => absurd e i3) hf
  refine ⟨j1, fun u hu => ?_, fun e => absurd (j3 e).1 i3⟩
  rcases j2 u hu with e | e
  ·rcases i2 u e with e | e
   ·exact .inl e
   ·subst e
    right
    rw [f1]
    simp
  ·exact .inr (List.mem_cons_of_mem _ e)
theorem ats_all {H : List HapD} {b e : Int} : (atsF b (inX H b e)).Pairwise (· < ·) /\ (∀ t ∈ atsF b (inX H b e), b <= t /\ (t = b \/ t < e)) /\ b ∈ atsF b (inX H b e) := by
 have h := ats_go (X := inX H b e) (A := [b]) (by simp)
 refine ⟨h.1, fun t ht => ?_, (h.2 b).mpr (.inl (by simp))⟩
 rcases (h.2 t).mp ht with e1 | e1
 ·simp at e1; omega
 ·unfold inX at e1
  rw [List.mem_filter] at e1
  simp at e1
  omega
theorem ats_first {H : List HapD} {b e l : Int} {L : List Int} (h : atsF b (inX H b e) = l :: L) : l = b := by
 obtain ⟨h1, h2, h3⟩ := ats_all (H := H) (b := b) (e := e)
 rw [h] at h1 h2 h3
 have h4 := (h2 l (by simp)).1
 rcases List.mem_cons.mp h3 with e1 | e1
 ·exact e1.symm
 ·have := (List.pairwise_cons.mp h1).1 b e1
  omega
theorem turnE_ok {E : List EraD} {e : EraD} {H : List HapD} (he : e ∈ E) (hE : EraR e) (hH : ∀ h ∈ H, HapB h) (l : Int) : (turnE e H l).at_ = l /\ jb4 (turnE e H l) = true /\ ∃ x ∈ E, x.offset + (turnE e H l).save = (turnE e H l).offset := by
 obtain ⟨⟨s1, s2⟩, s3⟩ := forceE_b hE hH l
 obtain ⟨o1, o2⟩ := hE.off
 refine ⟨rfl, turn_yes ?_ ?_ ?_, e, he, rfl⟩
 ·show isB (e.offset + (jaq e H l).save) (-100000) 100000 = true
  unfold isB; simp; omega
 ·show isB (jaq e H l).save (-7200) 7200 = true
  unfold isB; simp; omega
 ·exact abbrD_le hE.fmt s3
theorem stK_inv {r : RelD} {E : List EraD} (hr : ∀ x ∈ r.rules, jau x = true) (hE : ∀ e ∈ E, EraR e) : ∀ k, k < E.length -> TInv E (stK r E k).1 /\ ((stK r E k).1 = [] -> (stK r E k).2 = -62135596800) /\ ∀ t ∈ (stK r E k).1, t.at_ < (stK r E k).2 := by
 intro k
 induction k with
 | zero => intro _; exact ⟨⟨by simp [stK], by simp [stK], by simp [stK], by simp [stK]⟩, fun _ => rfl, by simp [stK]⟩
 | succ k ih =>
  intro hk
  obtain ⟨i1, i2, i3⟩ := ih (by omega)
  obtain ⟨e, he⟩ : ∃ e, E[k]? = some e := ⟨_, List.getElem?_eq_getElem (by omega)⟩
  have hm := List.mem_of_getElem? he
  have hH := hapsT_b (r := r) (nm := e.rules) (off := e.offset) hr (hE e hm).off.1 (hE e hm).off.2
  rw [stK_more he (by omega) (show stK r E k = ((stK r E k).1, (stK r E k).2) from rfl)]
  generalize (ja1 r e.rules e.offset).1 = H at *
  generalize (stK r E k).1 = T at *
  generalize (stK r E k).2 = b at *
  simp only
  have hbe : b <= endE e H b := by unfold endE; omega
  split
  ·rename_i hlt
   obtain ⟨a1, a2, a3⟩ := ats_all (H := H) (b := b) (e := endE e H b)
   obtain ⟨j1, j2, j3⟩ := i1.fold (f := turnE e H) a1 (fun t ht l hl => by have := i3 t ht; have := (a2 l hl).1; omega) (fun e0 l L' hl => by rw [ats_first hl]; exact i2 e0) (turnE_ok hm (hE e hm) hH)
   refine ⟨j1, fun e0 => ?_, fun t ht => ?_⟩
   ·rw [(j3 e0).2] at a3; simp at a3
   ·rcases j2 t ht with h | h
    ·have := i3 t h; omega
    ·have := a2 _ h; omega
  ·rename_i hn
   refine ⟨i1, fun e0 => by have := i2 e0; omega, fun t ht => by have := i3 t ht; omega⟩
structure TabG (E : List EraD) (T : List TurnD) : Prop where
 right : tabB T = true
 era : ∀ t ∈ T, ∃ e ∈ E, e.offset + t.save = t.offset
 nl : ∀ (i : Nat) x y, T[i]? = some x -> T[i + 1]? = some y -> likeT x y = false
theorem tabE_good {r : RelD} {E : List EraD} (hr : ∀ x ∈ r.rules, jau x = true) (hE : ∀ e ∈ E, EraR e) (h1 : E ≠ []) {T : List TurnD} (hT : tabE r E = (T, true)) : TabG E T := by
 unfold tabE at hT
 split at hT
 case isFalse => cases hT
 injection hT with t1 t2
 have hl : T.length <= 600 := by rw [<- t1]; exact of_decide_eq_true t2
 have hp : 0 < E.length := List.length_pos_iff.mpr h1
 obtain ⟨k, hk⟩ : ∃ k, E.length = k + 1 := ⟨E.length - 1, by omega⟩
 obtain ⟨e, he⟩ : ∃ e, E[k]? = some e := ⟨_, List.getElem?_eq_getElem (by omega)⟩
 have hm := List.mem_of_getElem? he
 have hH := hapsT_b (r := r) (nm := e.rules) (off := e.offset) hr (hE e hm).off.1 (hE e hm).off.2
 obtain ⟨i1, i2, i3⟩ := stK_inv hr hE k (by omega)
 have hb := (stK_b (r := r) (E := E) k).1
 rw [hk, stK_last he (by omega) (show stK r E k = ((stK r E k).1, (stK r E k).2) from rfl)] at t1
 clear t2
 generalize (ja1 r e.rules e.offset).1 = H at *
 generalize (stK r E k).1 = S at *
 generalize (stK r E k).2 = b at *
 simp only at t1
 obtain ⟨a1, a2, a3⟩ := ats_all (H := H) (b := b) (e := 253402300799)
 obtain ⟨j1, j2, j3⟩ := i1.fold (f := turnE e H) a1 (fun t ht l hl => by have := i3 t ht; have := (a2 l hl).1; omega) (fun e0 l L' hl => by rw [ats_first hl]; exact i2 e0) (turnE_ok hm (hE e hm) hH)
 rw [t1] at j1 j2 j3
 have hne : T ≠ [] := fun e0 => by rw [(j3 e0).2] at a3; simp at a3
 have hpT : 0 < T.length := List.length_pos_iff.mpr hne
 refine ⟨?_, fun t ht => (j1.ok t ht).2, j1.nl⟩
 have hu : upT T = true := upT_yes fun i x y hx hy => by
  obtain ⟨p1, rfl⟩ := List.getElem?_eq_some_iff.mp hx
  obtain ⟨p2, rfl⟩ := List.getElem?_eq_some_iff.mp hy
  exact List.pairwise_iff_getElem.mp j1.up i (i + 1) p1 p2 (by omega)
 rw [tab_ends ⟨hpT, hl⟩ (List.all_eq_true.mpr fun t ht => (j1.ok t ht).1) hu]
 obtain ⟨n, hn⟩ : ∃ n, T.length = n + 1 := ⟨T.length - 1, by omega⟩
 obtain ⟨x, hx⟩ : ∃ x, T[0]? = some x := ⟨_, List.getElem?_eq_getElem (by omega)⟩
 obtain ⟨y, hy⟩ : ∃ y, T[n]? = some y := ⟨_, List.getElem?_eq_getElem (by omega)⟩
 rw [ends_of hn hx hy, j1.hd x hx]
 have hy2 : y.at_ <= 253402300799 := by
  rcases j2 y (List.mem_of_getElem? hy) with h | h
  ·have := i3 y h; omega
  ·have := a2 _ h; omega
 simp [hy2]
theorem bytes_eq {a b : ByteArray} (h : a.data.toList = b.data.toList) : a = b := by
 cases a with | mk a => cases b with | mk b => exact congrArg ByteArray.mk (Array.toList_inj.mp h)
theorem zone_own {r : RelD} {nm : ByteArray} (h : relB r = true) (hne : (jam r nm).eras ≠ []) : jam r (jam r nm).name = jam r nm := by
 obtain ⟨_, i, hi, hz⟩ := zoneD_right h hne
 generalize hzd : jam r nm = z at *
 have hn : (keysL (namesL r)).Nodup := by
  have h' := h
  unfold relB at h'
  simp only [Bool.and_eq_true] at h'
  exact of_decide_eq_true h'.2.2.2.2.1
 unfold keysL namesL at hn
 rw [List.map_append, List.nodup_append] at hn
 obtain ⟨n1, _, n3⟩ := hn
 have hl : ja6 r.links z.name = z.name := link_none fun j hj y hy => by
  cases he : (y.name.toList == z.name.toList)
  ·rfl
  ·exfalso
   have e1 : y.name.data.toList = z.name.data.toList := by have := eq_of_beq he; rwa [toList_dataA, toList_dataA] at this
   exact n3 z.name.data.toList (List.mem_map.mpr ⟨z.name, List.mem_map.mpr ⟨z, List.mem_of_getElem? hz, rfl⟩, rfl⟩) y.name.data.toList (List.mem_map.mpr ⟨y.name, List.mem_map.mpr ⟨y, List.mem_of_getElem? hy, rfl⟩, rfl⟩) e1.symm
 have hx : jbd r.zones z.name = some i := zone_hit hz (by simp) fun j hj y hy => by
  cases he : (y.name.toList == z.name.toList)
  ·rfl
  ·exfalso
   have e1 : y.name.data.toList = z.name.data.toList := by have := eq_of_beq he; rwa [toList_dataA, toList_dataA] at this
   obtain ⟨p1, q1⟩ := List.getElem?_eq_some_iff.mp hy
   obtain ⟨p2, q2⟩ := List.getElem?_eq_some_iff.mp hz
   have := List.pairwise_iff_getElem.mp n1 j i (by simpa using p1) (by simpa using p2) hj
   simp only [List.getElem_map] at this
   rw [q1, q2] at this
   exact this e1
 unfold jam
 rw [if_pos h, hl, hx]
 simp only
 rw [hz]
theorem tab_own {r : RelD} {nm : ByteArray} (hs : nm.size <= 8000) (h : relB r = true) (hne : (jam r nm).eras ≠ []) (hs2 : (jam r nm).name.size <= 8000) : tabD r (jam r nm).name = tabD r nm := by
 unfold tabD
 rw [if_pos hs, if_pos hs2, zone_own h hne]
theorem tabD_good {r : RelD} {nm : ByteArray} (h : (tabD r nm).1 = 0) : nm.size <= 8000 /\ relB r = true /\ (jam r nm).eras ≠ [] /\ TabG (jam r nm).eras (tabD r nm).2 := by
 by_cases h1 : nm.size <= 8000
 case neg => rw [tabD_2 h1] at h; cases h
 cases h2 : relB r
 case false => rw [tabD_1 h1 h2] at h; cases h
 by_cases h3 : (jam r nm).eras = []
 case pos => rw [tabD_5 h1 h2 h3] at h; cases h
 cases h4 : tabE r (jam r nm).eras with
 | mk T b =>
  cases b
  case false => rw [tabD_7 h1 h2 h3 h4] at h; cases h
  obtain ⟨z1, _⟩ := zoneD_right h2 h3
  refine ⟨h1, rfl, h3, ?_⟩
  rw [tabD_0 h1 h2 h3 h4]
  exact tabE_good (rel_rules h2).2 (zone_eras z1).2 h3 h4
end Go.Proofs.YtpejeokacilebaaGreatDoor
