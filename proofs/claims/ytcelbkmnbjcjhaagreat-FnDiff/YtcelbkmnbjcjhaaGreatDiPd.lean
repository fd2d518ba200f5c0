/- Packed: Di0 DiMath DiMath2 Df8 Di1. -/
import Derived.Test.YtcelbkmnbjcjhaaGreatDrPd
import Derived.Test.YtcelbkmnbjcjhaaGreatRsAd
import Derived.Test.YtcelbkmnbjcjhaaGreatDfAd
import Derived.Test.YtcelbkmnbjcjhaaGreatDfBd
import Derived.Test.YtcelbkmnbjcjhaaGreatDf7d
import Derived.Test.YtcelbkmnbjcjhaaGreatRelAd
import Derived.Test.YtcelbkmnbjcjhaaGreatDwAd
import Derived.Test.YtcelbkmnbjcjhaaGreatDwBd
import Derived.Test.YtcelbkmnbjcjhaaGreatSmBd
import Derived.Test.YtcelbkmnbjcjhaaGreatTabPd
namespace Go.Proofs.YtcelbkmnbjcjhaaGreat
open Go.RowKit

set_option linter.unusedSimpArgs false in
set_option maxRecDepth 20000 in
set_option maxHeartbeats 2000000 in
theorem laws_lwAt (a : Option Addr) (len cap : Nat) (w : World) (h : RowOf w a len) (hl : len ≤ 1048576) :
  Calls Tryz.prog 12 #[.slice a len cap, .int .i64 0, .int .i64 2] w fun e w' => ∃ x : Int, e = .returned (.int .i64 x) ∧ 0 ≤ x ∧ x ≤ 1 ∧ Below w.heap.size w w' := by
 by_cases h0 : len = 0
 ·
  subst h0
  go_enter Tryz.func12, Tryz.ntmps12
  go_wp2
  go_ret
  exact ⟨0, rfl, by omega, by omega, Below.refl _ _⟩
 ·
  rcases h with h | ⟨b, o, rfl, hc⟩
  ·
   exact absurd h h0
  ·
   obtain ⟨z, hz, z0, z1⟩ := hc 0 (by omega)
   rw [Nat.add_zero] at hz
   have q0 : ((len : Int) == 0) = false := by simp; omega
   have q1 : (0 : Int) < (len : Int) := by omega
   have qw : IntKind.i64.wrap z = z := by rw [IntKind.wrap_i64]; omega
   have qm : z.tmod 2 = z % 2 := Int.tmod_eq_emod_of_nonneg z0
   have qv : IntKind.i64.wrap (z % 2) = z % 2 := by rw [IntKind.wrap_i64]; omega
   clear hc
   go_enter Tryz.func12, Tryz.ntmps12
   go_wp2
   go_ret
   exact ⟨z % 2, rfl, by omega, by omega, Below.refl _ _⟩
end Go.Proofs.YtcelbkmnbjcjhaaGreat
namespace Go.Proofs.YtcelbkmnbjcjhaaGreat
open Go.RowKit

theorem off_inf {l : List TurnD} (hT : TabR l) {n : Int} {k : Nat} {x : TurnD} (h : InF l n k x) : offAt l n = x.offset := by
 unfold offAt
 rw [cnt_at hT.up h.at_ h.lo h.hi]
 simp only [Nat.add_sub_cancel, h.at_]
theorem off_bd {l : List TurnD} (hT : TabR l) {n : Int} (hn : -62135596800 ≤ n) : -100000 ≤ offAt l n ∧ offAt l n ≤ 100000 := by
 obtain ⟨k, x, h⟩ := inf_ex hT hn
 rw [off_inf hT h]
 exact isB_of_t (off_of hT (List.mem_of_getElem? h.at_))
theorem mem_off {l : List TurnD} (hT : TabR l) {m a : Int} : a ∈ instL l m ↔ (-62135596800 ≤ a ∧ a ≤ 253402300799) ∧ a + offAt l a = m := by
 rw [mem_inst hT]
 constructor
 ·
  rintro ⟨k, x, hx, rfl, h1, h2⟩
  have hi := inf_of_str hx h1 h2
  have ⟨b1, b2⟩ := str_bd hT (lt_of_get hx)
  rw [off_inf hT hi]
  exact ⟨⟨by omega, by omega⟩, by omega⟩
 ·
  rintro ⟨⟨a1, a2⟩, h⟩
  obtain ⟨k, x, hi⟩ := inf_ex hT a1
  rw [off_inf hT hi] at h
  exact ⟨k, x, hi.at_, by omega, (str_of_inf hi a2).1, (str_of_inf hi a2).2⟩
/-- the same offsets near a wall time. -/
def Like (la lb : List TurnD) (m : Int) : Prop := ∀ a, -62135596800 ≤ a → a ≤ 253402300799 → m - 100000 ≤ a → a ≤ m + 100000 → offAt la a = offAt lb a
theorem inst_like {la lb : List TurnD} (ha : TabR la) (hb : TabR lb) {m : Int} (hm : isB m (-62135596800) 253402300799 = true) (tba : tabB la = true) (tbb : tabB lb = true) (h : Like la lb m) : instL la m = instL lb m := by
 have ua := inst_up (l := la) m
 have ub := inst_up (l := lb) m
 rw [instD_yes tba hm] at ua
 rw [instD_yes tbb hm] at ub
 refine up_ext ua ub fun a => ?_
 rw [mem_off ha, mem_off hb]
 constructor
 ·
  rintro ⟨⟨a1, a2⟩, e⟩
  have := off_bd ha a1
  exact ⟨⟨a1, a2⟩, by rw [← h a a1 a2 (by omega) (by omega)]; exact e⟩
 ·
  rintro ⟨⟨a1, a2⟩, e⟩
  have := off_bd hb a1
  exact ⟨⟨a1, a2⟩, by rw [h a a1 a2 (by omega) (by omega)]; exact e⟩
/-- a leap of the clock over a wall time. -/
structure Leap (l : List TurnD) (m t : Int) : Prop where
 lo : -62135596800 < t
 hi : t ≤ 253402300799
 ah : t + offAt l (t - 1) ≤ m
 ow : m < t + offAt l t
theorem leap_of {l : List TurnD} (hT : TabR l) {m : Int} {k : Nat} {x : TurnD} (hx : l[k]? = some x) (h : gapB m (strK l k) = true) : Leap l m x.at_ ∧ (strK l k).1.ahead = offAt l (x.at_ - 1) ∧ (strK l k).1.own = offAt l x.at_ := by
 have hk := lt_of_get hx
 have hv := strK_val hT hk
 unfold gapB at h
 rw [Bool.and_eq_true, decide_eq_true_iff, decide_eq_true_iff, hv, strAt_first hx, str_own hx] at h
 have hi : InF l x.at_ k x := ⟨hx, Int.le_refl _, fun y hy => upT_of hT.up hx hy⟩
 cases k with
 | zero =>
  have ha : (strAt l 0).ahead = x.offset := by unfold strAt; simp only [hx, Nat.zero_sub]; rfl
  rw [ha] at h
  omega
 | succ k =>
  obtain ⟨a, ha2⟩ : ∃ a, l[k]? = some a := ⟨_, List.getElem?_eq_getElem (by omega)⟩
  have ha : (strAt l (k + 1)).ahead = a.offset := by unfold strAt; simp only [Nat.add_sub_cancel, ha2]; rfl
  have hlt := upT_of hT.up ha2 hx
  have hi1 : InF l (x.at_ - 1) k a := ⟨ha2, by omega, fun y hy => by rw [hx] at hy; obtain rfl := Option.some.inj hy; omega⟩
  have lo := at_low hT ha2
  rw [ha] at h
  refine ⟨⟨by omega, hT.top _ x hx, ?_, ?_⟩, ?_, ?_⟩
  ·
   rw [off_inf hT hi1]; omega
  ·
   rw [off_inf hT hi]; omega
  ·
   rw [hv, ha, off_inf hT hi1]
  ·
   rw [hv, str_own hx, off_inf hT hi]
theorem turn_of_leap {l : List TurnD} (hT : TabR l) {m t : Int} (h : Leap l m t) : ∃ k x, l[k]? = some x ∧ x.at_ = t ∧ gapB m (strK l k) = true := by
 obtain ⟨k, x, hi⟩ := inf_ex hT (n := t) (by have := h.lo; omega)
 obtain ⟨j, y, hj⟩ := inf_ex hT (n := t - 1) (by have := h.lo; omega)
 have e1 := off_inf hT hi
 have e2 := off_inf hT hj
 have h1 := h.ah
 have h2 := h.ow
 rw [e2] at h1
 rw [e1] at h2
 have hne : ¬ x.at_ ≤ t - 1 := fun hle => by
  have : InF l (t - 1) k x := ⟨hi.at_, hle, fun z hz => by have := hi.hi z hz; omega⟩
  have := off_inf hT this
  omega
 have hat : x.at_ = t := by have := hi.lo; omega
 refine ⟨k, x, hi.at_, hat, ?_⟩
 have hk := lt_of_get hi.at_
 have hv := strK_val hT hk
 unfold gapB
 rw [Bool.and_eq_true, decide_eq_true_iff, decide_eq_true_iff, hv, strAt_first hi.at_, str_own hi.at_]
 refine ⟨?_, by omega⟩
 cases k with
 | zero =>
  have := hT.first x hi.at_
  have := h.lo
  omega
 | succ k =>
  obtain ⟨a, ha2⟩ : ∃ a, l[k]? = some a := ⟨_, List.getElem?_eq_getElem (by omega)⟩
  have ha : (strAt l (k + 1)).ahead = a.offset := by unfold strAt; simp only [Nat.add_sub_cancel, ha2]; rfl
  have hlt := upT_of hT.up ha2 hi.at_
  have hi1 : InF l (t - 1) k a := ⟨ha2, by omega, fun y hy => by rw [hi.at_] at hy; obtain rfl := Option.some.inj hy; omega⟩
  have := off_inf hT hi1
  rw [ha]
  omega
theorem leap_like {la lb : List TurnD} (ha : TabR la) (_hb : TabR lb) {m : Int} (h : Like la lb m) {t : Int} (hl : Leap la m t) : Leap lb m t := by
 have h1 := off_bd ha (n := t) (by have := hl.lo; omega)
 have h2 := off_bd ha (n := t - 1) (by have := hl.lo; omega)
 have a1 := hl.ah
 have a2 := hl.ow
 have b1 := hl.lo
 have b2 := hl.hi
 refine ⟨b1, b2, ?_, ?_⟩
 ·
  rw [← h (t - 1) (by omega) (by omega) (by omega) (by omega)]; exact a1
 ·
  rw [← h t (by omega) (by omega) (by omega) (by omega)]; exact a2
/-- the first leap. -/
theorem gap_leap {l : List TurnD} (hT : TabR l) {m : Int} {s : StrK} (h : gapD l m = some s) : ∃ t, Leap l m t ∧ s.1.ahead = offAt l (t - 1) ∧ s.1.own = offAt l t ∧ ∀ u, Leap l m u → t ≤ u := by
 unfold gapD at h
 obtain ⟨hp, pre, post, he, hno⟩ := List.find?_eq_some_iff_append.1 h
 have hlen : pre.length < l.length := by
  have := congrArg List.length he
  rw [uptoS_length] at this
  simp at this
  omega
 obtain ⟨x, hx⟩ : ∃ x, l[pre.length]? = some x := ⟨_, List.getElem?_eq_getElem hlen⟩
 have hget : ∀ i, i < l.length → (uptoS l l.length)[i]? = some (strK l i) := fun i hi => by
  unfold uptoS; rw [List.getElem?_map, List.getElem?_range hi]; rfl
 have hs : s = strK l pre.length := by
  have h1 := hget pre.length hlen
  rw [he, List.getElem?_append_right (Nat.le_refl _), Nat.sub_self] at h1
  exact (Option.some.inj h1)
 subst hs
 have ⟨h1, h2, h3⟩ := leap_of hT hx hp
 refine ⟨x.at_, h1, h2, h3, fun u hu => ?_⟩
 obtain ⟨j, y, hy, hyt, hg⟩ := turn_of_leap hT hu
 subst hyt
 rcases Nat.lt_or_ge j pre.length with hj | hj
 ·
  have h4 := hget j (lt_of_get hy)
  rw [he, List.getElem?_append_left hj] at h4
  have := hno _ (List.mem_of_getElem? h4)
  rw [hg] at this
  cases this
 ·
  exact upT_le2 hT.up hj hx hy
theorem gap_noleap {l : List TurnD} (hT : TabR l) {m : Int} (h : gapD l m = none) {t : Int} (hl : Leap l m t) : False := by
 obtain ⟨k, x, hx, _, hg⟩ := turn_of_leap hT hl
 unfold gapD at h
 rw [List.find?_eq_none] at h
 have hm : strK l k ∈ uptoS l l.length := by unfold uptoS; rw [List.mem_map]; exact ⟨k, List.mem_range.2 (lt_of_get hx), rfl⟩
 exact h _ hm hg
theorem gap_like {la lb : List TurnD} (ha : TabR la) (hb : TabR lb) {m : Int} (h : Like la lb m) (g : Int) : gapR (gapD la m) m g = gapR (gapD lb m) m g := by
 have h' : Like lb la m := fun a a1 a2 a3 a4 => (h a a1 a2 a3 a4).symm
 cases hA : gapD la m with
 | none =>
  cases hB : gapD lb m with
  | none => rfl
  | some s =>
   obtain ⟨t, ht, _⟩ := gap_leap hb hB
   exact (gap_noleap ha hA (leap_like hb ha h' ht)).elim
 | some r =>
  obtain ⟨t, ht, e1, e2, e3⟩ := gap_leap ha hA
  cases hB : gapD lb m with
  | none => exact (gap_noleap hb hB (leap_like ha hb h ht)).elim
  | some s =>
   obtain ⟨u, hu, f1, f2, f3⟩ := gap_leap hb hB
   have htu : t = u := by
    have := e3 u (leap_like hb ha h' hu)
    have := f3 t (leap_like ha hb h ht)
    omega
   subst htu
   have b1 := ht.lo
   have b2 := ht.hi
   have o1 := off_bd ha (n := t) (by omega)
   have o2 := off_bd ha (n := t - 1) (by omega)
   have a1 := ht.ah
   have a2 := ht.ow
   have q1 := h t (by omega) (by omega) (by omega) (by omega)
   have q2 := h (t - 1) (by omega) (by omega) (by omega) (by omega)
   simp only [gapR]
   rw [e1, e2, f1, f2, q1, q2]
/-- a wall time near which the offsets are the same is found alike. -/
theorem res_like {la lb : List TurnD} (ha : tabB la = true) (hb : tabB lb = true) {n g f : Int} (h : Like la lb n) : resD la n g f = resD lb n g f := by
 unfold resD
 by_cases hr : isB n (-62135596800) 253402300799 = true ∧ isB g 0 2 = true ∧ isB f 0 2 = true
 ·
  rw [if_pos ⟨ha, hr⟩, if_pos ⟨hb, hr⟩]
  unfold resR
  rw [inst_like (tab_of ha) (tab_of hb) hr.1 ha hb h, gap_like (tab_of ha) (tab_of hb) h g]
 ·
  rw [if_neg fun x => hr x.2, if_neg fun x => hr x.2]
end Go.Proofs.YtcelbkmnbjcjhaaGreat
namespace Go.Proofs.YtcelbkmnbjcjhaaGreat
open Go.RowKit

/-- the offset is the same as long as no turn comes. -/
theorem off_same {l : List TurnD} (hT : TabR l) {x a : Int} (hx : -62135596800 ≤ x) (hxa : x ≤ a) (h : ∀ t ∈ l.map TurnD.at_, x < t → a < t) : offAt l a = offAt l x := by
 obtain ⟨k, y, hi⟩ := inf_ex hT hx
 have : InF l a k y := ⟨hi.at_, by have := hi.lo; omega, fun z hz => h z.at_ (List.mem_map.2 ⟨z, List.mem_of_getElem? hz, rfl⟩) (hi.hi z hz)⟩
 rw [off_inf hT hi, off_inf hT this]
/-- spans up to an instant. -/
structure SpI (la lb : List TurnD) (out : List SpanD) (ws : Bool) (e : Int) : Prop where
 one : ∀ s ∈ out, s.lo ≤ s.hi ∧ s.hi < e
 sep : out.Pairwise fun s t => s.hi + 1 < t.lo
 off : ws = false → ∀ s ∈ out, s.hi + 1 < e
 on : ws = true → ∃ ini s, out = ini ++ [s] ∧ s.hi + 1 = e
 mem : ∀ a, -62135596800 ≤ a → a < e → ((∃ s ∈ out, s.lo ≤ a ∧ a ≤ s.hi) ↔ offAt la a ≠ offAt lb a)
 lows : ∀ s ∈ out, -62135596800 ≤ s.lo
theorem SpI.step {la lb : List TurnD} {out : List SpanD} {ws : Bool} {x e : Int} (h : SpI la lb out ws x) (hx : -62135596800 ≤ x) (hxe : x < e) (ha : ∀ a, x ≤ a → a < e → offAt la a = offAt la x) (hb : ∀ a, x ≤ a → a < e → offAt lb a = offAt lb x) :
  SpI la lb (stepS (out, ws) ⟨x, e - 1, offAt la x != offAt lb x⟩).1 (stepS (out, ws) ⟨x, e - 1, offAt la x != offAt lb x⟩).2 e := by
 cases hu : (offAt la x != offAt lb x) with
 | false =>
  rw [step_no (p := ⟨x, e - 1, false⟩) rfl]
  have heq : offAt la x = offAt lb x := by simpa using hu
  refine ⟨fun s hs => ⟨(h.one s hs).1, by have := (h.one s hs).2; omega⟩, h.sep, fun _ s hs => by have := (h.one s hs).2; omega, fun hf => (by cases hf), fun a a1 a2 => ?_, h.lows⟩
  by_cases hax : a < x
  ·
   exact h.mem a a1 hax
  ·
   rw [ha a (by omega) a2, hb a (by omega) a2]
   constructor
   ·
    rintro ⟨s, hs, s1, s2⟩
    have := (h.one s hs).2
    omega
   ·
    intro hne; exact absurd heq hne
 | true =>
  have hne : offAt la x ≠ offAt lb x := by simpa using hu
  cases hw : ws with
  | false =>
   rw [step_new (s := (out, false)) (p := ⟨x, e - 1, true⟩) rfl rfl]
   refine ⟨fun s hs => ?_, ?_, fun hf => (by cases hf), fun _ => ⟨out, ⟨x, e - 1⟩, rfl, by show e - 1 + 1 = e; omega⟩, fun a a1 a2 => ?_, fun s hs => ?_⟩
   ·
    rcases List.mem_append.1 hs with h1 | h1
    ·
     exact ⟨(h.one s h1).1, by have := (h.one s h1).2; omega⟩
    ·
     rw [List.mem_singleton] at h1; subst h1; exact ⟨by show x ≤ e - 1; omega, by show e - 1 < e; omega⟩
   ·
    rw [List.pairwise_append]
    refine ⟨h.sep, List.pairwise_singleton _ _, fun s hs t ht => ?_⟩
    rw [List.mem_singleton] at ht
    subst ht
    exact h.off hw s hs
   ·
    by_cases hax : a < x
    ·
     rw [← h.mem a a1 hax]
     constructor
     ·
      rintro ⟨s, hs, s1, s2⟩
      rcases List.mem_append.1 hs with h1 | h1
      ·
       exact ⟨s, h1, s1, s2⟩
      ·
       rw [List.mem_singleton] at h1
       subst h1
       exact absurd s1 (by show ¬ x ≤ a; omega)
     ·
      rintro ⟨s, hs, s1, s2⟩; exact ⟨s, List.mem_append_left _ hs, s1, s2⟩
    ·
     rw [ha a (by omega) a2, hb a (by omega) a2]
     exact ⟨fun _ => hne, fun _ => ⟨⟨x, e - 1⟩, by simp, by show x ≤ a; omega, by show a ≤ e - 1; omega⟩⟩
   ·
    rcases List.mem_append.1 hs with h1 | h1
    ·
     exact h.lows s h1
    ·
     rw [List.mem_singleton] at h1; subst h1; exact hx
  | true =>
   obtain ⟨ini, s0, rfl, hs0⟩ := h.on hw
   rw [step_grow (s := (ini ++ [s0], true)) (p := ⟨x, e - 1, true⟩) rfl rfl (n := ini.length) (by simp) (x := s0) (by simp)]
   have hset : (ini ++ [s0]).set ini.length ⟨s0.lo, e - 1⟩ = ini ++ [⟨s0.lo, e - 1⟩] := by simp
   simp only [hset]
   have h1 := h.one s0 (by simp)
   have hp := List.pairwise_append.1 h.sep
   refine ⟨fun s hs => ?_, ?_, fun hf => (by cases hf), fun _ => ⟨ini, ⟨s0.lo, e - 1⟩, rfl, by show e - 1 + 1 = e; omega⟩, fun a a1 a2 => ?_, fun s hs => ?_⟩
   ·
    rcases List.mem_append.1 hs with h2 | h2
    ·
     have := h.one s (List.mem_append_left _ h2); exact ⟨this.1, by omega⟩
    ·
     rw [List.mem_singleton] at h2; subst h2; exact ⟨by show s0.lo ≤ e - 1; omega, by show e - 1 < e; omega⟩
   ·
    rw [List.pairwise_append]
    refine ⟨hp.1, List.pairwise_singleton _ _, fun s hs t ht => ?_⟩
    rw [List.mem_singleton] at ht
    subst ht
    exact hp.2.2 s hs s0 (by simp)
   ·
    by_cases hax : a < x
    ·
     rw [← h.mem a a1 hax]
     constructor
     ·
      rintro ⟨s, hs, s1, s2⟩
      rcases List.mem_append.1 hs with h2 | h2
      ·
       exact ⟨s, List.mem_append_left _ h2, s1, s2⟩
      ·
       rw [List.mem_singleton] at h2
       subst h2
       exact ⟨s0, by simp, s1, by omega⟩
     ·
      rintro ⟨s, hs, s1, s2⟩
      rcases List.mem_append.1 hs with h2 | h2
      ·
       exact ⟨s, List.mem_append_left _ h2, s1, s2⟩
      ·
       rw [List.mem_singleton] at h2
       subst h2
       exact ⟨⟨s.lo, e - 1⟩, by simp, s1, by show a ≤ e - 1; omega⟩
    ·
     rw [ha a (by omega) a2, hb a (by omega) a2]
     exact ⟨fun _ => hne, fun _ => ⟨⟨s0.lo, e - 1⟩, by simp, by show s0.lo ≤ a; omega, by show a ≤ e - 1; omega⟩⟩
   ·
    rcases List.mem_append.1 hs with h2 | h2
    ·
     exact h.lows s (List.mem_append_left _ h2)
    ·
     rw [List.mem_singleton] at h2; subst h2; exact h.lows s0 (by simp)
def frU (U : List Int) (k : Nat) : Int := U[k]?.getD 253402300800
theorem endU_fr {U : List Int} {k : Nat} : endOf U k = frU U (k + 1) - 1 := by
 unfold endOf frU
 cases U[k + 1]? with
 | none => rfl
 | some y => rfl
theorem uni_up {la lb : List TurnD} (ha : TabR la) (_hb : TabR lb) : (uniT la lb).Pairwise (· < ·) := uniI_up (ats_up ha.up)
theorem fold_spI {la lb : List TurnD} (ha : TabR la) (hb : TabR lb) : ∀ k, k ≤ (uniT la lb).length → SpI la lb (foldS ((piecesD la lb (uniT la lb)).take k)).1 (foldS ((piecesD la lb (uniT la lb)).take k)).2 (frU (uniT la lb) k) := by
 intro k
 induction k with
 | zero =>
  intro _
  have h0 : frU (uniT la lb) 0 = -62135596800 := by
   obtain ⟨a0, e0⟩ : ∃ a, la[0]? = some a := ⟨_, List.getElem?_eq_getElem (by have := ha.len; omega)⟩
   have hm : (-62135596800 : Int) ∈ uniT la lb := uniI_mem.2 (.inl (List.mem_map.2 ⟨a0, List.mem_of_getElem? e0, ha.first a0 e0⟩))
   obtain ⟨i, hi, hiv⟩ := List.getElem_of_mem hm
   obtain ⟨z, hz⟩ : ∃ z, (uniT la lb)[0]? = some z := ⟨_, List.getElem?_eq_getElem (by omega)⟩
   have hlow := (uni_low ha hb hz).1
   unfold frU
   rw [hz]
   show z = -62135596800
   rcases Nat.eq_zero_or_pos i with h | h
   ·
    subst h
    rw [List.getElem?_eq_getElem hi] at hz
    have := Option.some.inj hz
    omega
   ·
    have hlt := up_lt (uni_up ha hb) h hz (List.getElem?_eq_getElem hi)
    omega
  rw [h0]
  refine ⟨fun s hs => ?_, ?_, fun _ s hs => ?_, fun hf => ?_, fun a a1 a2 => by omega, fun s hs => ?_⟩
  ·
   simp [foldS] at hs
  ·
   simp [foldS]
  ·
   simp [foldS] at hs
  ·
   simp [foldS] at hf
  ·
   simp [foldS] at hs
 | succ k ih =>
  intro hk
  obtain ⟨x, hx⟩ : ∃ x, (uniT la lb)[k]? = some x := ⟨_, List.getElem?_eq_getElem (by omega)⟩
  have h := ih (by omega)
  have hfr : frU (uniT la lb) k = x := by unfold frU; rw [hx]; rfl
  rw [hfr] at h
  have ⟨xl, xh⟩ := uni_low ha hb hx
  have hlt : x < frU (uniT la lb) (k + 1) := by
   unfold frU
   cases hy : (uniT la lb)[k + 1]? with
   | none => show x < 253402300800; omega
   | some y => exact up_lt (uni_up ha hb) (Nat.lt_succ_self k) hx hy
  have hno : ∀ t ∈ uniT la lb, x < t → frU (uniT la lb) (k + 1) ≤ t := fun t ht hxt => by
   obtain ⟨i, hi, hiv⟩ := List.getElem_of_mem ht
   have hti : (uniT la lb)[i]? = some t := by rw [List.getElem?_eq_getElem hi, hiv]
   have hik : k < i := by
    rcases Nat.lt_or_ge k i with h1 | h1
    ·
     exact h1
    ·
     rcases Nat.lt_or_eq_of_le h1 with h2 | h2
     ·
      have := up_lt (uni_up ha hb) h2 hti hx; omega
     ·
      subst h2; rw [hx] at hti; have := Option.some.inj hti; omega
   unfold frU
   obtain ⟨y, hy⟩ : ∃ y, (uniT la lb)[k + 1]? = some y := ⟨_, List.getElem?_eq_getElem (by omega)⟩
   rw [hy]
   show y ≤ t
   rcases Nat.lt_or_eq_of_le (show k + 1 ≤ i from hik) with h1 | h1
   ·
    have := up_lt (uni_up ha hb) h1 hy hti; omega
   ·
    subst h1; rw [hy] at hti; have := Option.some.inj hti; omega
  have h1 := h.step xl hlt (fun a a1 a2 => off_same ha xl a1 fun t ht hxt => by have := hno t (uniI_mem.2 (.inl ht)) hxt; omega)
   (fun a a1 a2 => off_same hb xl a1 fun t ht hxt => by have := hno t (uniI_mem.2 (.inr ht)) hxt; omega)
  rw [foldS_take (pieces_at hx), endU_fr]
  exact h1
theorem diff_spI {la lb : List TurnD} (ha : tabB la = true) (hb : tabB lb = true) : ∃ ws, SpI la lb (diffD la lb) ws 253402300800 := by
 have h := fold_spI (tab_of ha) (tab_of hb) (uniT la lb).length (Nat.le_refl _)
 rw [← pieces_len la lb, List.take_length] at h
 have hfr : frU (uniT la lb) (piecesD la lb (uniT la lb)).length = 253402300800 := by
  unfold frU; rw [pieces_len, List.getElem?_eq_none (Nat.le_refl _)]; rfl
 rw [hfr] at h
 rw [diff_yes ha hb]
 exact ⟨_, h⟩
/-- an instant lies in a span that is told just where the offsets are unlike. -/
theorem diff_mem {la lb : List TurnD} (ha : tabB la = true) (hb : tabB lb = true) {a : Int} (a1 : -62135596800 ≤ a) (a2 : a ≤ 253402300799) : (∃ s ∈ diffD la lb, s.lo ≤ a ∧ a ≤ s.hi) ↔ offAt la a ≠ offAt lb a := by
 obtain ⟨ws, h⟩ := diff_spI ha hb
 exact h.mem a a1 (by omega)
theorem diff_sep (la lb : List TurnD) : (∀ s ∈ diffD la lb, s.lo ≤ s.hi ∧ -62135596800 ≤ s.lo ∧ s.hi ≤ 253402300799) ∧ (diffD la lb).Pairwise fun s t => s.hi + 1 < t.lo := by
 cases ha : tabB la with
 | false => rw [diff_no1 ha]; exact ⟨fun s hs => by simp at hs, List.Pairwise.nil⟩
 | true =>
  cases hb : tabB lb with
  | false => rw [diff_no2 hb]; exact ⟨fun s hs => by simp at hs, List.Pairwise.nil⟩
  | true =>
   obtain ⟨ws, h⟩ := diff_spI ha hb
   exact ⟨fun s hs => ⟨(h.one s hs).1, h.lows s hs, by have := (h.one s hs).2; omega⟩, h.sep⟩
/-- what is found otherwise lies within 100000 seconds of a span. -/
theorem res_near {la lb : List TurnD} (ha : tabB la = true) (hb : tabB lb = true) {n g f : Int} (h : resD la n g f ≠ resD lb n g f) : ∃ s ∈ diffD la lb, ∃ a, (n - 100000 ≤ a ∧ a ≤ n + 100000) ∧ s.lo ≤ a ∧ a ≤ s.hi := by
 refine Classical.byContradiction fun hno => h (res_like ha hb fun a a1 a2 a3 a4 => ?_)
 refine Classical.byContradiction fun hne => ?_
 obtain ⟨s, hs, s1, s2⟩ := (diff_mem ha hb a1 a2).2 hne
 exact hno ⟨s, hs, a, ⟨a3, a4⟩, s1, s2⟩
end Go.Proofs.YtcelbkmnbjcjhaaGreat
namespace Go.Proofs.YtcelbkmnbjcjhaaGreat
open Go.RowKit

theorem OwnsS.seq {w : World} {base : Nat} {v : Value} {P : List SpanD} (h : OwnsS w base v P) : ∃ a cap, v = .slice a P.length cap ∧ SeqAt w a 2 (P.map SpanD.cs) := by
 obtain ⟨a, cap, h1, h2, h3⟩ := seq_of_owns5 (rows := P.map SpanD.cs) (by rw [List.length_map]; exact h) span_len
 rw [List.length_map] at h1 h3
 exact ⟨a, cap, h1, h2⟩
set_option maxRecDepth 20000 in
set_option maxHeartbeats 2000000 in
theorem spec_Diff (la lb : List TurnD) (va vb : Value) (w : World) (hva : TabAt w va la) (hvb : TabAt w vb lb) (oka : ∀ r ∈ la, r.ok) (okb : ∀ r ∈ lb, r.ok) :
  Calls Tryz.prog 6 #[va, vb] w fun e W' => ∃ v', e = .returned v' ∧ OwnsS W' w.heap.size v' (diffD la lb) ∧ Below w.heap.size w W' := by
 obtain ⟨a, cap, rfl, hA⟩ := hva
 obtain ⟨b, capb, rfl, hAb⟩ := hvb
 have hva : TabAt w (.agg #[.slice a la.length cap]) la := ⟨a, cap, rfl, hA⟩
 have hvb : TabAt w (.agg #[.slice b lb.length capb]) lb := ⟨b, capb, rfl, hAb⟩
 clear hA hAb
 have hB0 := fun o o2 => ((Below.refl w.heap.size w).alloc (Nat.le_refl _) o).alloc (by simp) o2
 have hRa := fun w (h : TabAt w (.agg #[.slice a la.length cap]) la) => spec_TableRight la _ w h oka
 have hRb := fun w (h : TabAt w (.agg #[.slice b lb.length capb]) lb) => spec_TableRight lb _ w h okb
 have KEEP : ∀ w1, Below ((w.alloc (.cells #[.slice a la.length cap] 25)).alloc (.cells #[.slice b lb.length capb] 25)).heap.size ((w.alloc (.cells #[.slice a la.length cap] 25)).alloc (.cells #[.slice b lb.length capb] 25)) w1 →
   w1.cell? ⟨w.heap.size, 0, none⟩ = some (.slice a la.length cap) ∧ w1.cell? ⟨w.heap.size + 1, 0, none⟩ = some (.slice b lb.length capb) ∧ Below w.heap.size w w1 := fun w1 hb1 => by
  obtain ⟨hc1, hf1⟩ := bcell hb1
  exact ⟨(hc1 _ _ (by simp; omega)).trans (by simp [go_sem]), (hc1 _ _ (by simp)).trans (by simp [go_sem]), (hB0 _ _).trans (hb1.mono (by simp; omega))⟩
 have hE : ∀ w1 : World, w.heap.size ≤ w1.heap.size → OwnsS (w1.alloc (.cells #[] 31)) w.heap.size (.slice (some ⟨w1.heap.size, 0, none⟩) 0 0) [] := fun w1 h => ⟨rfl, .inr ⟨w1.heap.size, 0, #[], rfl, h, World.alloc_heap_new w1 _, Nat.le_refl _, by unfold maxLen; omega, rfl, rfl⟩⟩
 cases ha : tabB la
 ·
  rw [diff_no1 ha]
  rw [ha] at hRa
  go_enter Tryz.func6, Tryz.ntmps6
  go_wp2_with fail
  refine (hRa _ (hva.below (hB0 _ _))).mono ?_
  rintro e w1 ⟨rfl, hb1⟩
  have hB1 := (KEEP w1 hb1).2.2
  go_wp2
  go_ret
  exact ⟨_, rfl, hE w1 hB1.size, hB1.alloc hB1.size _⟩
 rw [ha] at hRa
 cases hb : tabB lb
 ·
  rw [diff_no2 hb]
  rw [hb] at hRb
  go_enter Tryz.func6, Tryz.ntmps6
  go_wp2_with fail
  refine (hRa _ (hva.below (hB0 _ _))).mono ?_
  rintro e w1 ⟨rfl, hb1⟩
  obtain ⟨c0, c1, hB1⟩ := KEEP w1 hb1
  go_wp2_with fail
  refine (hRb _ (hvb.below hB1)).mono ?_
  rintro e w2 ⟨rfl, hb2⟩
  have hB2 := hB1.trans (hb2.mono hB1.size)
  go_wp2
  go_ret
  exact ⟨_, rfl, hE w2 hB2.size, hB2.alloc hB2.size _⟩
 rw [hb] at hRb
 rw [diff_yes ha hb]
 have hP := fun w h1 h2 => spec_l05Diff la lb (.agg #[.slice a la.length cap]) (.agg #[.slice b lb.length capb]) w h1 h2 (tab_of ha) (tab_of hb)
 clear ha hb
 generalize diffR la lb = D at *
 go_enter Tryz.func6, Tryz.ntmps6
 go_wp2_with fail
 refine (hRa _ (hva.below (hB0 _ _))).mono ?_
 rintro e w1 ⟨rfl, hb1⟩
 obtain ⟨c0, c1, hB1⟩ := KEEP w1 hb1
 clear KEEP hb1
 go_wp2_with fail
 refine (hRb _ (hvb.below hB1)).mono ?_
 rintro e w2 ⟨rfl, hb2⟩
 have hB2 := hB1.trans (hb2.mono hB1.size)
 have d0 := keepC5 hb2 c0
 have d1 := keepC5 hb2 c1
 clear hb2 c0 c1 hB1 hRa hRb hE
 go_wp2_with fail
 refine (hP _ (hva.below hB2) (hvb.below hB2)).mono ?_
 rintro e w3 ⟨v3, rfl, hO3, hb3⟩
 have hB3 := hB2.trans (hb3.mono hB2.size)
 have HO : Hid (OwnsS w3 w.heap.size v3 D) := owns_monoS hO3 hB2.size
 clear hO3 hb3
 go_wp2
 go_ret
 exact ⟨_, rfl, HO.out, hB3⟩
end Go.Proofs.YtcelbkmnbjcjhaaGreat
namespace Go.Proofs.YtcelbkmnbjcjhaaGreat
open Go.RowKit

theorem changed_touch {T U : List TurnD} {n g f : Int} (hc : changedD T U n g f = true) (hl : (diffD T U).length ≤ 400) : touchD (diffD T U) (IntKind.i64.wrap (n - 100000)) (IntKind.i64.wrap (n + 100000)) = true := by
 unfold changedD at hc
 simp only [Bool.and_eq_true, decide_eq_true_eq] at hc
 obtain ⟨hT, hU, hr⟩ := hc
 obtain ⟨s, hs, a, ⟨a1, a2⟩, s1, s2⟩ := res_near hT hU hr
 obtain ⟨b1, b2, b3⟩ := (diff_sep T U).1 s hs
 rw [IntKind.wrap_i64, IntKind.wrap_i64]
 rw [show (n - 100000 + 9223372036854775808) % 18446744073709551616 - 9223372036854775808 = n - 100000 by omega, show (n + 100000 + 9223372036854775808) % 18446744073709551616 - 9223372036854775808 = n + 100000 by omega]
 unfold touchD
 rw [if_pos hl, List.any_eq_true]
 exact ⟨s, hs, by unfold hitB; rw [decide_eq_true_eq]; omega⟩
theorem changed_in {T U : List TurnD} {n g f : Int} (hc : changedD T U n g f = true) : -62135696800 ≤ n ∧ n ≤ 253402400799 := by
 unfold changedD at hc
 simp only [Bool.and_eq_true, decide_eq_true_eq] at hc
 obtain ⟨hT, hU, hr⟩ := hc
 obtain ⟨s, hs, a, ⟨a1, a2⟩, s1, s2⟩ := res_near hT hU hr
 obtain ⟨b1, b2, b3⟩ := (diff_sep T U).1 s hs
 omega
theorem turnAt_offD {l : List TurnD} {n : Int} (h : tabB l = true) (a1 : -62135596800 ≤ n) (a2 : n ≤ 253402300799) : (turnAtD l n).offset = offAt l n := by
 have hB : isB n (-62135596800) 253402300799 = true := by unfold isB; simp; omega
 unfold turnAtD offAt
 rw [if_pos ⟨h, hB⟩]
 cases l[cntT l n - 1]? with
 | none => rfl
 | some t => rfl
theorem touch_at {T U : List TurnD} {a : Int} (hT : tabB T = true) (hU : tabB U = true) (hl : (diffD T U).length ≤ 400) (a1 : -62135596800 ≤ a) (a2 : a ≤ 253402300799) : touchD (diffD T U) a a = ((turnAtD T a).offset != (turnAtD U a).offset) := by
 rw [turnAt_offD hT a1 a2, turnAt_offD hU a1 a2]
 have hm := diff_mem hT hU a1 a2
 unfold touchD
 rw [if_pos hl, Bool.eq_iff_iff, List.any_eq_true, bne_iff_ne, ← hm]
 constructor
 ·
  rintro ⟨s, hs, h⟩; refine ⟨s, hs, ?_⟩; unfold hitB at h; rw [decide_eq_true_eq] at h; omega
 ·
  rintro ⟨s, hs, h⟩; refine ⟨s, hs, ?_⟩; unfold hitB; rw [decide_eq_true_eq]; omega
theorem diff_one {T U : List TurnD} {i : Nat} {s : SpanD} (h : (diffD T U)[i]? = some s) : s.lo ≤ s.hi ∧ -62135596800 ≤ s.lo ∧ s.hi ≤ 253402300799 := (diff_sep T U).1 s (List.mem_of_getElem? h)
theorem diff_two {T U : List TurnD} {i : Nat} {s t : SpanD} (h : (diffD T U)[i]? = some s) (h2 : (diffD T U)[i + 1]? = some t) : s.hi + 1 < t.lo := by
 obtain ⟨h3, rfl⟩ := List.getElem?_eq_some_iff.1 h
 obtain ⟨h4, rfl⟩ := List.getElem?_eq_some_iff.1 h2
 exact List.pairwise_iff_getElem.1 (diff_sep T U).2 i (i + 1) h3 h4 (by omega)
set_option maxRecDepth 100000 in
theorem fields_spanE : ∃ a b c d e f, (Tryz.prog.fieldsOf 31).toList = [⟨ "From", 2, 0, false, a, b, c⟩, ⟨ "To", 2, 1, false, d, e, f⟩] := ⟨_, _, _, _, _, _, rfl⟩
theorem neq_spanE (p q : Int) (w : World) : (binOp .neq 31 (.agg #[.int .i64 p, .int .i64 q]) (.agg #[.int .i64 p, .int .i64 q])).run Tryz.prog w = .ok (.bool false) w := by
 have ht : Tryz.prog.underlying 31 = some (.struct (Tryz.prog.fieldsOf 31)) := by kernel_rfl
 have hp : Tryz.prog.stoodInHeld 31 = false := by kernel_rfl
 obtain ⟨a, b, c, d, e, f, hf⟩ := fields_spanE
 rw [run_neq_struct, run_equalIn_agg _ 9999 _ _ _ ht hp, hf]
 simp [Op.eqFields, go_sem]
theorem guard_spanE (op : BinOp) (x y : Operand) (v1 v2 : Array Value) (w : World) : (eqGuard op 31 x y (.agg v1) (.agg v2)).run Tryz.prog w = .ok () w := run_eqGuard_agg w _ _ _ _ _ _ (by kernel_rfl)
theorem spanCs_len {P : List SpanD} : ∀ r ∈ P.map SpanD.cs, r.length = 2 := fun r hr => by
 obtain ⟨x, _, rfl⟩ := List.mem_map.1 hr
 rfl
theorem OwnsS.get {w : World} {B : Nat} {v : Value} {P : List SpanD} (h : OwnsS w B v P) {k : Nat} {s : SpanD} (hk : P[k]? = some s) : ∃ g c, v = .slice (some ⟨g, 0, none⟩) P.length c ∧ w.cell? ⟨g, k * 2, none⟩ = some (.int .i64 s.lo) ∧ w.cell? ⟨g, k * 2 + 1, none⟩ = some (.int .i64 s.hi) := by
 have h' : w.ownsRow B 31 2 v P.length (P.map SpanD.cs).flatten := h
 have hl : k < P.length := (List.getElem?_eq_some_iff.1 hk).1
 rcases h'.2 with ⟨_, h0⟩ | ⟨g, c, cur, hv, hb, hg, _⟩
 ·
  omega
 ·
  subst hv
  have hm : (P.map SpanD.cs)[k]? = some s.cs := by rw [List.getElem?_map, hk]; rfl
  refine ⟨g, c, rfl, ?_, ?_⟩
  ·
   rw [h'.cellAt (k * 2) (by omega)]
   exact flat_at (q := 2) spanCs_len (j := 0) hm rfl
  ·
   rw [h'.cellAt (k * 2 + 1) (by omega)]
   exact flat_at (q := 2) spanCs_len (j := 1) hm rfl
end Go.Proofs.YtcelbkmnbjcjhaaGreat
