/- Packed: Right4 Right5 Right6 Right7 Right8 Right9 Right10 Right11 Right12 Right13. -/
import Derived.Test.YtcelbkmnbjcjhaaGreatDoorRightAk
import Derived.Test.YtcelbkmnbjcjhaaGreatDoorRelPk
import Derived.Laws.EntriesVeiled
namespace Go.Proofs.YtcelbkmnbjcjhaaGreatDoor
open Go.RowKit

def erB (e : EraD) : Bool := if e.rules.toList.isEmpty = true then isB e.save (-7200) 7200 else nameB e.rules && decide (e.save = 0)
set_option maxHeartbeats 1000000 in
theorem impl_eraRulesRight (e : EraD) (w : World) (ok : e.ok) :
  Calls Tryz.prog 133 #[e.v] w fun x w' => x = .returned (.bool (erB e)) ∧ Below w.heap.size w w' := by
 obtain ⟨offset, rules, save, format, until_, of⟩ := e
 obtain ⟨k1, k2, k3⟩ := ok
 simp only [EraD.v, erB] at *
 have h1 := fun w => impl_saveRight save w
 have h2 := fun w => impl_NameRight rules w k1
 generalize isB save (-7200) 7200 = b1 at *
 generalize nameB rules = b2 at *
 cases he : rules.toList.isEmpty
 ·
  simp only [Bool.false_eq_true, if_false]
  go_enter Tryz.func133, Tryz.ntmps133
  go_wp2_with fail
  refine (h2 _).mono ?_
  rintro e w1 ⟨rfl, rfl⟩
  cases b2
  ·
   go_wp2
   go_ret
   exact ⟨ret_bool (by simp), (Below.refl _ _).alloc (Nat.le_refl _) _⟩
  ·
   go_wp2
   go_ret
   exact ⟨ret_bool (by simp; rfl), (Below.refl _ _).alloc (Nat.le_refl _) _⟩
 ·
  simp only [if_true]
  go_enter Tryz.func133, Tryz.ntmps133
  go_wp2_with fail
  refine (h1 _).mono ?_
  rintro e w1 ⟨rfl, rfl⟩
  go_wp2
  go_ret
  exact ⟨rfl, (Below.refl _ _).alloc (Nat.le_refl _) _⟩
def eraP (e : EraD) : Bool := decide (-86400 ≤ e.offset) && (decide (e.offset ≤ 86400) && (erB e && (fmtB e.format && (decide (-62135596800 ≤ e.until_) && (decide (e.until_ ≤ 253402300799) && ofB e.of)))))
set_option maxHeartbeats 400000 in
theorem impl_isTimeR (n : Int) (w : World) :
  Calls Tryz.prog 135 #[.int .i64 n] w fun e w' => e = .returned (.bool (isB n (-62135596800) 253402300799)) ∧ w' = w := by
 by_cases h : -62135596800 ≤ n
 ·
  go_enter Tryz.func135, Tryz.ntmps135
  go_wp2
  go_ret
  exact ⟨ret_bool (by unfold isB; simp [h]), rfl⟩
 ·
  go_enter Tryz.func135, Tryz.ntmps135
  go_wp2
  go_ret
  exact ⟨ret_bool (isB_f (by omega)).symm, rfl⟩
set_option maxHeartbeats 1000000 in
theorem impl_eraRight (e : EraD) (w : World) (ok : e.ok) :
  Calls Tryz.prog 85 #[e.v] w fun x w' => x = .returned (.bool (eraP e)) ∧ Below w.heap.size w w' := by
 have h1 := fun w => impl_eraRulesRight e w ok
 unfold eraP
 generalize erB e = b1 at *
 obtain ⟨offset, rules, save, format, until_, of⟩ := e
 obtain ⟨k1, k2, k3⟩ := ok
 simp only [EraD.v] at *
 have h2 := fun w => impl_formatRight format w k2
 have h3 := fun w => impl_ofRight of w
 have h4 := fun w => impl_isTimeR until_ w
 generalize fmtB format = b2 at *
 generalize ofB of = b3 at *
 have hB0 := fun o => (Below.refl w.heap.size w).alloc (Nat.le_refl _) o
 go_enter Tryz.func85, Tryz.ntmps85
 by_cases g1 : -86400 ≤ offset
 case neg =>
  go_wp2
  go_ret
  exact ⟨ret_bool (by simp; intros; omega), hB0 _⟩
 by_cases g2 : offset ≤ 86400
 case neg =>
  go_wp2
  go_ret
  exact ⟨ret_bool (by simp; intros; omega), hB0 _⟩
 go_wp2_with fail
 refine (h1 _).mono ?_
 rintro e w1 ⟨rfl, hb1⟩
 obtain ⟨hc, _⟩ := bcell hb1
 have hlt : w.heap.size < w1.heap.size := by have := hb1.size; simp at this; omega
 have hB1 := (hB0 _).trans (hb1.mono (by simp))
 cases b1
 case false =>
  go_wp2
  go_ret
  exact ⟨ret_bool (by simp), hB1⟩
 go_wp2_with fail
 refine (h2 _).mono ?_
 rintro e w9 ⟨rfl, rfl⟩
 cases b2
 case false =>
  go_wp2
  go_ret
  exact ⟨ret_bool (by simp), hB1⟩
 by_cases g34 : -62135596800 ≤ until_ ∧ until_ ≤ 253402300799
 case neg =>
  rw [isB_f g34] at h4
  go_wp2_with fail
  refine (h4 _).mono ?_
  rintro e w8 ⟨rfl, rfl⟩
  go_wp2
  go_ret
  exact ⟨ret_bool (by simp; intros; omega), hB1⟩
 rw [isB_t g34.1 g34.2] at h4
 obtain ⟨g3, g4⟩ := g34
 go_wp2_with fail
 refine (h4 _).mono ?_
 rintro e w8 ⟨rfl, rfl⟩
 go_wp2_with fail
 refine (h3 _).mono ?_
 rintro e w9 ⟨rfl, rfl⟩
 go_wp2
 go_ret
 exact ⟨ret_bool (by simp [*]), hB1⟩
def linkB (l : LinkD) : Bool := nameB l.to_ && nameB l.name
set_option maxHeartbeats 1000000 in
theorem impl_linkRight (l : LinkD) (w : World) (ok : l.ok) :
  Calls Tryz.prog 47 #[l.v] w fun x w' => x = .returned (.bool (linkB l)) ∧ Below w.heap.size w w' := by
 obtain ⟨to_, name⟩ := l
 obtain ⟨k1, k2⟩ := ok
 simp only [LinkD.v, linkB] at *
 have h1 := fun w => impl_NameRight to_ w k1
 have h2 := fun w => impl_NameRight name w k2
 generalize nameB to_ = b1 at *
 generalize nameB name = b2 at *
 go_enter Tryz.func47, Tryz.ntmps47
 go_wp2_with fail
 refine (h1 _).mono ?_
 rintro e w1 ⟨rfl, rfl⟩
 cases b1
 case false =>
  go_wp2
  go_ret
  exact ⟨ret_bool (by simp), (Below.refl _ _).alloc (Nat.le_refl _) _⟩
 go_wp2_with fail
 refine (h2 _).mono ?_
 rintro e w1 ⟨rfl, rfl⟩
 go_wp2
 go_ret
 exact ⟨ret_bool (by simp), (Below.refl _ _).alloc (Nat.le_refl _) _⟩
end Go.Proofs.YtcelbkmnbjcjhaaGreatDoor
namespace Go.Proofs.YtcelbkmnbjcjhaaGreatDoor
open Go.RowKit

theorem all_no {α : Type} {l : List α} {p : α → Bool} {k : Nat} {x : α} (hk : l[k]? = some x) (h : p x = false) : l.all p = false := by
 rw [List.all_eq_false]
 exact ⟨x, List.mem_of_getElem? hk, by simp [h]⟩
theorem all_yes {α : Type} {l : List α} {p : α → Bool} (h : ∀ j, j < l.length → ∀ x, l[j]? = some x → p x = true) : l.all p = true := by
 rw [List.all_eq_true]
 intro x hx
 obtain ⟨j, hj⟩ := List.getElem?_of_mem hx
 exact h j (List.getElem?_eq_some_iff.mp hj).1 x hj
set_option maxHeartbeats 2000000 in
theorem impl_allRule (l : List RuleD) (a : Option Addr) (cap : Nat) (w : World) (hE : EnvZ w) (hA : SeqAt w a 9 (l.map RuleD.cs)) (hok : ∀ r ∈ l, r.ok) (hz : ∀ r ∈ l, r.on.size ≤ 1048576) (hl : l.length ≤ 1048576) :
  Calls Tryz.prog 42 #[.slice a l.length cap, .func (.func 43) #[] #[]] w fun e w' => e = .returned (.bool (l.all ruleB)) ∧ Below w.heap.size w w' := by
 go_enter Tryz.func42, Tryz.ntmps42
 go_wp2
 go_loopw [9] (fun i wr => ∃ k : Nat, k ≤ l.length ∧ i = .int .i64 k ∧ Hid (∀ j, j < k → ∀ x, l[j]? = some x → ruleB x = true) ∧ Below w.heap.size w wr) (fun i _ => l.length - (intOf i).toNat)
 case atStart => exact ⟨0, by omega, rfl, fun j hj => by omega, Below.refl _ _⟩
 case round =>
  obtain ⟨k, hk, rfl, hall, hB⟩ := hrel
  by_cases hlt : k < l.length
  ·
   obtain ⟨r, hr⟩ : ∃ r, l[k]? = some r := ⟨_, List.getElem?_eq_getElem hlt⟩
   have hrow : (l.map RuleD.cs)[k]? = some r.cs := by rw [List.getElem?_map, hr]; rfl
   obtain ⟨b, o, rfl, hc⟩ := (hA.below hB).at (i := k) hrow
   have ok := hok r (List.mem_of_getElem? hr)
   have hS := fun w (h : EnvZ w) => impl_ruleRight r w h ok (hz r (List.mem_of_getElem? hr))
   have hE1 := hE.of_below hB
   have c0 : wr.cell? ⟨b, o + k * 9, none⟩ = some (.string r.name) := hc 0 _ rfl
   have c1 := hc 1 _ rfl
   have c2 := hc 2 _ rfl
   have c3 := hc 3 _ rfl
   have c4 := hc 4 _ rfl
   have c5 := hc 5 _ rfl
   have c6 := hc 6 _ rfl
   have c7 := hc 7 _ rfl
   have c8 := hc 8 _ rfl
   clear hc
   unfold RuleD.v at hS
   cases hb : ruleB r
   ·
    have HR : Hid (l.all ruleB = false) := all_no hr hb
    rw [hb] at hS
    clear hb
    go_wp2_with fail
    refine (hS _ (hE1.alloc _)).mono ?_
    rintro e w2 ⟨rfl, hb2⟩
    go_wp2
    go_ret
    exact ⟨ret_bool HR.out.symm, (hB.alloc hB.size _).trans (hb2.mono (by simp; have := hB.size; omega))⟩
   ·
    have HR : Hid (∀ j, j < k + 1 → ∀ x, l[j]? = some x → ruleB x = true) := fun j hj x hx => by
     by_cases e : j = k
     ·
      subst e; rw [hr] at hx; obtain rfl := Option.some.inj hx; exact hb
     ·
      exact hall.out j (by omega) x hx
    rw [hb] at hS
    clear hb
    go_wp2_with fail
    refine (hS _ (hE1.alloc _)).mono ?_
    rintro e w2 ⟨rfl, hb2⟩
    go_wp2
    go_roundw
    case rel => exact ⟨k + 1, by omega, by go_num, HR, (hB.alloc hB.size _).trans (hb2.mono (by simp; have := hB.size; omega))⟩
    case measure => simp [intOf]; omega
  ·
   have e : k = l.length := by omega
   subst e
   have HR : Hid (l.all ruleB = true) := all_yes hall.out
   go_wp2
   go_ret
   exact ⟨ret_bool HR.out.symm, hB⟩
set_option maxHeartbeats 2000000 in
theorem impl_allEra (l : List EraD) (a : Option Addr) (cap : Nat) (w : World) (hA : SeqAt w a 6 (l.map EraD.cs)) (hok : ∀ r ∈ l, r.ok) (hl : l.length ≤ 1048576) :
  Calls Tryz.prog 84 #[.slice a l.length cap, .func (.func 85) #[] #[]] w fun e w' => e = .returned (.bool (l.all eraP)) ∧ Below w.heap.size w w' := by
 go_enter Tryz.func84, Tryz.ntmps84
 go_wp2
 go_loopw [9] (fun i wr => ∃ k : Nat, k ≤ l.length ∧ i = .int .i64 k ∧ Hid (∀ j, j < k → ∀ x, l[j]? = some x → eraP x = true) ∧ Below w.heap.size w wr) (fun i _ => l.length - (intOf i).toNat)
 case atStart => exact ⟨0, by omega, rfl, fun j hj => by omega, Below.refl _ _⟩
 case round =>
  obtain ⟨k, hk, rfl, hall, hB⟩ := hrel
  by_cases hlt : k < l.length
  ·
   obtain ⟨r, hr⟩ : ∃ r, l[k]? = some r := ⟨_, List.getElem?_eq_getElem hlt⟩
   have hrow : (l.map EraD.cs)[k]? = some r.cs := by rw [List.getElem?_map, hr]; rfl
   obtain ⟨b, o, rfl, hc⟩ := (hA.below hB).at (i := k) hrow
   have ok := hok r (List.mem_of_getElem? hr)
   have hS := fun w => impl_eraRight r w ok
   have c0 : wr.cell? ⟨b, o + k * 6, none⟩ = some (.int .i64 r.offset) := hc 0 _ rfl
   have c1 := hc 1 _ rfl
   have c2 := hc 2 _ rfl
   have c3 := hc 3 _ rfl
   have c4 := hc 4 _ rfl
   have c5 := hc 5 _ rfl
   clear hc
   unfold EraD.v at hS
   cases hb : eraP r
   ·
    have HR : Hid (l.all eraP = false) := all_no hr hb
    rw [hb] at hS
    clear hb
    go_wp2_with fail
    refine (hS _).mono ?_
    rintro e w2 ⟨rfl, hb2⟩
    go_wp2
    go_ret
    exact ⟨ret_bool HR.out.symm, (hB.alloc hB.size _).trans (hb2.mono (by simp; have := hB.size; omega))⟩
   ·
    have HR : Hid (∀ j, j < k + 1 → ∀ x, l[j]? = some x → eraP x = true) := fun j hj x hx => by
     by_cases e : j = k
     ·
      subst e; rw [hr] at hx; obtain rfl := Option.some.inj hx; exact hb
     ·
      exact hall.out j (by omega) x hx
    rw [hb] at hS
    clear hb
    go_wp2_with fail
    refine (hS _).mono ?_
    rintro e w2 ⟨rfl, hb2⟩
    go_wp2
    go_roundw
    case rel => exact ⟨k + 1, by omega, by go_num, HR, (hB.alloc hB.size _).trans (hb2.mono (by simp; have := hB.size; omega))⟩
    case measure => simp [intOf]; omega
  ·
   have e : k = l.length := by omega
   subst e
   have HR : Hid (l.all eraP = true) := all_yes hall.out
   go_wp2
   go_ret
   exact ⟨ret_bool HR.out.symm, hB⟩
set_option maxHeartbeats 2000000 in
theorem impl_allLink (l : List LinkD) (a : Option Addr) (cap : Nat) (w : World) (hA : SeqAt w a 2 (l.map LinkD.cs)) (hok : ∀ r ∈ l, r.ok) (hl : l.length ≤ 1048576) :
  Calls Tryz.prog 46 #[.slice a l.length cap, .func (.func 47) #[] #[]] w fun e w' => e = .returned (.bool (l.all linkB)) ∧ Below w.heap.size w w' := by
 go_enter Tryz.func46, Tryz.ntmps46
 go_wp2
 go_loopw [9] (fun i wr => ∃ k : Nat, k ≤ l.length ∧ i = .int .i64 k ∧ Hid (∀ j, j < k → ∀ x, l[j]? = some x → linkB x = true) ∧ Below w.heap.size w wr) (fun i _ => l.length - (intOf i).toNat)
 case atStart => exact ⟨0, by omega, rfl, fun j hj => by omega, Below.refl _ _⟩
 case round =>
  obtain ⟨k, hk, rfl, hall, hB⟩ := hrel
  by_cases hlt : k < l.length
  ·
   obtain ⟨r, hr⟩ : ∃ r, l[k]? = some r := ⟨_, List.getElem?_eq_getElem hlt⟩
   have hrow : (l.map LinkD.cs)[k]? = some r.cs := by rw [List.getElem?_map, hr]; rfl
   obtain ⟨b, o, rfl, hc⟩ := (hA.below hB).at (i := k) hrow
   have ok := hok r (List.mem_of_getElem? hr)
   have hS := fun w => impl_linkRight r w ok
   have c0 : wr.cell? ⟨b, o + k * 2, none⟩ = some (.string r.to_) := hc 0 _ rfl
   have c1 := hc 1 _ rfl
   clear hc
   unfold LinkD.v at hS
   cases hb : linkB r
   ·
    have HR : Hid (l.all linkB = false) := all_no hr hb
    rw [hb] at hS
    clear hb
    go_wp2_with fail
    refine (hS _).mono ?_
    rintro e w2 ⟨rfl, hb2⟩
    go_wp2
    go_ret
    exact ⟨ret_bool HR.out.symm, (hB.alloc hB.size _).trans (hb2.mono (by simp; have := hB.size; omega))⟩
   ·
    have HR : Hid (∀ j, j < k + 1 → ∀ x, l[j]? = some x → linkB x = true) := fun j hj x hx => by
     by_cases e : j = k
     ·
      subst e; rw [hr] at hx; obtain rfl := Option.some.inj hx; exact hb
     ·
      exact hall.out j (by omega) x hx
    rw [hb] at hS
    clear hb
    go_wp2_with fail
    refine (hS _).mono ?_
    rintro e w2 ⟨rfl, hb2⟩
    go_wp2
    go_roundw
    case rel => exact ⟨k + 1, by omega, by go_num, HR, (hB.alloc hB.size _).trans (hb2.mono (by simp; have := hB.size; omega))⟩
    case measure => simp [intOf]; omega
  ·
   have e : k = l.length := by omega
   subst e
   have HR : Hid (l.all linkB = true) := all_yes hall.out
   go_wp2
   go_ret
   exact ⟨ret_bool HR.out.symm, hB⟩
end Go.Proofs.YtcelbkmnbjcjhaaGreatDoor
namespace Go.Proofs.YtcelbkmnbjcjhaaGreatDoor
open Go.RowKit

def upB : List EraD → Bool
 | [] => true
 | [_] => true
 | x :: y :: l => decide (x.until_ < y.until_) && upB (y :: l)
theorem up_no {es : List EraD} : ∀ {i : Nat} {x y : EraD}, es[i]? = some x → es[i + 1]? = some y → ¬ x.until_ < y.until_ → upB es = false := by
 induction es with
 | nil => intro i x y h; simp at h
 | cons a l ih =>
  intro i x y hx hy hn
  match l, i with
  | [], _ => simp at hy
  | b :: l, 0 =>
   simp at hx hy
   subst hx hy
   simp [upB, hn]
  | b :: l, i + 1 =>
   have := ih (i := i) (x := x) (y := y) (by simpa using hx) (by simpa using hy) hn
   simp only [upB, this, Bool.and_false]
theorem up_yes {es : List EraD} (h : ∀ i x y, es[i]? = some x → es[i + 1]? = some y → x.until_ < y.until_) : upB es = true := by
 induction es with
 | nil => rfl
 | cons a l ih =>
  match l with
  | [] => rfl
  | b :: l =>
   have h0 := h 0 a b rfl rfl
   have := ih fun i x y hx hy => h (i + 1) x y (by simpa using hx) (by simpa using hy)
   simp only [upB, this, decide_eq_true h0, Bool.and_true]
def laB2 (es : List EraD) : Bool := match es[es.length - 1]? with
 | some e => (e.until_ == 253402300799) && (e.of.toList == [119])
 | none => false
def zoneP (z : ZoneD) : Bool := nameB z.name && (decide (1 ≤ z.eras.length ∧ z.eras.length ≤ 8) && (z.eras.all eraP && (upB z.eras && laB2 z.eras)))
theorem zone_no1 {z : ZoneD} (h : nameB z.name = false) : zoneP z = false := by unfold zoneP; rw [h]; rfl
theorem zone_no2 {z : ZoneD} (h : ¬ (1 ≤ z.eras.length ∧ z.eras.length ≤ 8)) : zoneP z = false := by unfold zoneP; rw [decide_eq_false h]; simp
theorem zone_no3 {z : ZoneD} (h : z.eras.all eraP = false) : zoneP z = false := by unfold zoneP; rw [h]; simp
theorem zone_no4 {z : ZoneD} (h : upB z.eras = false) : zoneP z = false := by unfold zoneP; rw [h]; simp
theorem zone_yes {z : ZoneD} (h1 : nameB z.name = true) (h2 : 1 ≤ z.eras.length ∧ z.eras.length ≤ 8) (h3 : z.eras.all eraP = true) (h4 : upB z.eras = true) : zoneP z = laB2 z.eras := by unfold zoneP; rw [h1, decide_eq_true h2, h3, h4]; simp
set_option maxHeartbeats 2000000 in
theorem impl_zoneRight (z : ZoneD) (v : Value) (w : World) (hv : EraSl w v z.eras) (hm : z.ok) :
  Calls Tryz.prog 45 #[.agg #[.string z.name, v]] w fun e w' => e = .returned (.bool (zoneP z)) ∧ Below w.heap.size w w' := by
 obtain ⟨a, cap, rfl, hA⟩ := hv
 obtain ⟨m1, m2, m3⟩ := hm
 have h1 := fun w => impl_NameRight z.name w m1
 have hB0 := fun o => (Below.refl w.heap.size w).alloc (Nat.le_refl _) o
 unfold maxLen at m2
 cases hn : nameB z.name
 ·
  rw [zone_no1 hn]
  rw [hn] at h1
  generalize z.name = nm at *
  clear hn
  go_enter Tryz.func45, Tryz.ntmps45
  go_wp2_with (go_at_call 79; refine (h1 _).mono ?_; rintro e w' ⟨rfl, rfl⟩)
  go_ret
  exact ⟨rfl, hB0 _⟩
 rw [hn] at h1
 by_cases hl0 : z.eras.length < 1
 ·
  rw [zone_no2 (by omega)]
  go_enter Tryz.func45, Tryz.ntmps45
  go_wp2_with (go_at_call 79; refine (h1 _).mono ?_; rintro e w' ⟨rfl, rfl⟩)
  go_ret
  exact ⟨rfl, hB0 _⟩
 by_cases hl8 : 8 < z.eras.length
 ·
  rw [zone_no2 (by omega)]
  go_enter Tryz.func45, Tryz.ntmps45
  go_wp2_with (go_at_call 79; refine (h1 _).mono ?_; rintro e w' ⟨rfl, rfl⟩)
  go_ret
  exact ⟨rfl, hB0 _⟩
 have h2 := fun w (h : SeqAt w a 6 (z.eras.map EraD.cs)) => impl_allEra z.eras a cap w h m3 (by omega)
 cases ha : z.eras.all eraP
 ·
  rw [zone_no3 ha]
  rw [ha] at h2
  clear ha
  go_enter Tryz.func45, Tryz.ntmps45
  go_wp2_with fail
  refine (h1 _).mono ?_
  rintro e w1 ⟨rfl, rfl⟩
  go_wp2_with fail
  refine (h2 _ (hA.below (hB0 _))).mono ?_
  rintro e w1 ⟨rfl, hb1⟩
  go_wp2
  go_ret
  exact ⟨rfl, (hB0 _).trans (hb1.mono (by simp))⟩
 rw [ha] at h2
 have HZ : Hid (upB z.eras = true → zoneP z = laB2 z.eras) := fun h => zone_yes hn (by omega) ha h
 have HN : Hid (upB z.eras = false → zoneP z = false) := fun h => zone_no4 h
 clear hn ha
 generalize zoneP z = zb at *
 go_enter Tryz.func45, Tryz.ntmps45
 go_wp2_with fail
 refine (h1 _).mono ?_
 rintro e w1 ⟨rfl, rfl⟩
 go_wp2_with fail
 refine (h2 _ (hA.below (hB0 _))).mono ?_
 rintro e w1 ⟨rfl, hb1⟩
 obtain ⟨hc, _⟩ := bcell hb1
 have hB1 := (hB0 _).trans (hb1.mono (by simp))
 have x1 : w1.cell? ⟨w.heap.size, 1, none⟩ = some (.slice a z.eras.length cap) := (hc _ _ (by simp)).trans (by simp [go_sem])
 have hA1 := hA.below hB1
 clear hc hb1 h1 h2
 obtain ⟨n, hlen⟩ : ∃ n, z.eras.length = n + 1 := ⟨z.eras.length - 1, by omega⟩
 go_wp2
 go_loopw [28] (fun i wr => ∃ k : Nat, k ≤ n ∧ i = .int .i64 k ∧ Hid (∀ j, j < k → ∀ x y, z.eras[j]? = some x → z.eras[j + 1]? = some y → x.until_ < y.until_) ∧ Below w1.heap.size w1 wr) (fun i _ => n - (intOf i).toNat)
 case atStart => exact ⟨0, by omega, rfl, fun j hj => by omega, Below.refl _ _⟩
 case round =>
  obtain ⟨k, hk, rfl, hall, hB⟩ := hrel
  have y1 : wr.cell? ⟨w.heap.size, 1, none⟩ = some (.slice a z.eras.length cap) := by rw [(bcell hB).1 _ _ (World.block_lt_of_cell? _ _ x1)]; exact x1
  have hBB := hB1.trans (hB.mono hB1.size)
  by_cases hlt : k < n
  ·
   obtain ⟨r, hr⟩ : ∃ r, z.eras[k]? = some r := ⟨_, List.getElem?_eq_getElem (by omega)⟩
   obtain ⟨r2, hr2⟩ : ∃ r, z.eras[k + 1]? = some r := ⟨_, List.getElem?_eq_getElem (by omega)⟩
   obtain ⟨b, o, rfl, hc⟩ := (hA1.below hB).at (i := k) (r := r.cs) (by rw [List.getElem?_map, hr]; rfl)
   obtain ⟨b', o', he, hd⟩ := (hA1.below hB).at (i := k + 1) (r := r2.cs) (by rw [List.getElem?_map, hr2]; rfl)
   injection he with he
   injection he with e1 e2
   subst e1 e2
   have c4 := hc 4 _ rfl
   have d4 := hd 4 _ rfl
   clear hc hd
   by_cases hu : r.until_ < r2.until_
   ·
    have HR : Hid (∀ j, j < k + 1 → ∀ x y, z.eras[j]? = some x → z.eras[j + 1]? = some y → x.until_ < y.until_) := fun j hj x y hx hy => by
     by_cases e : j = k
     ·
      subst e; rw [hr] at hx; rw [hr2] at hy; obtain rfl := Option.some.inj hx; obtain rfl := Option.some.inj hy; exact hu
     ·
      exact hall.out j (by omega) x y hx hy
    go_wp2_with fail
    go_quiet (fail)
    go_wp2
    go_roundw
    case rel => exact ⟨k + 1, by omega, by go_num, HR, below_drewN hB _⟩
    case measure => simp [intOf]; omega
   ·
    have HR : Hid (zb = false) := HN.out (up_no hr hr2 hu)
    go_wp2_with fail
    go_quiet (fail)
    go_wp2
    go_ret
    exact ⟨ret_bool HR.out.symm, below_drewN hBB _⟩
  ·
   have e : k = n := by omega
   subst e
   obtain ⟨r, hr⟩ : ∃ r, z.eras[k]? = some r := ⟨_, List.getElem?_eq_getElem (by omega)⟩
   obtain ⟨b, o, rfl, hc⟩ := (hA1.below hB).at (i := k) (r := r.cs) (by rw [List.getElem?_map, hr]; rfl)
   have c4 := hc 4 _ rfl
   have c5 := hc 5 _ rfl
   clear hc
   have HR : Hid (zb = ((r.until_ == 253402300799) && (r.of.toList == [119]))) := by
    simp only [Hid]
    rw [HZ.out (up_yes fun i x y hx hy => hall.out i (by have := (List.getElem?_eq_some_iff.mp hy).1; omega) x y hx hy)]
    unfold laB2
    rw [show z.eras.length - 1 = k by omega, hr]
   cases g : (r.until_ == 253402300799)
   ·
    rw [g] at HR
    go_wp2
    go_ret
    exact ⟨ret_bool HR.out.symm, hBB⟩
   ·
    rw [g] at HR
    go_wp2
    go_ret
    exact ⟨ret_bool (by rw [HR.out]; simp), hBB⟩
end Go.Proofs.YtcelbkmnbjcjhaaGreatDoor
namespace Go.Proofs.YtcelbkmnbjcjhaaGreatDoor
open Go.RowKit

theorem any_yes {α : Type} {l : List α} {p : α → Bool} {k : Nat} {x : α} (hk : l[k]? = some x) (h : p x = true) : l.any p = true := by
 rw [List.any_eq_true]
 exact ⟨x, List.mem_of_getElem? hk, h⟩
theorem any_no {α : Type} {l : List α} {p : α → Bool} (h : ∀ j, j < l.length → ∀ x, l[j]? = some x → p x = false) : l.any p = false := by
 rw [List.any_eq_false]
 intro x hx
 obtain ⟨j, hj⟩ := List.getElem?_of_mem hx
 simp [h j (List.getElem?_eq_some_iff.mp hj).1 x hj]
def hasB (rs : List RuleD) (s : ByteArray) : Bool := rs.any fun x => x.name.toList == s.toList
set_option maxHeartbeats 2000000 in
theorem spec_l02Rules (r : RelD) (v : Value) (s : ByteArray) (w : World) (hv : RelAt w v r) (hl : r.rules.length ≤ 1048576) :
  Calls Tryz.prog 140 #[v, .string s] w fun e w' => e = .returned (.bool (hasB r.rules s)) ∧ Below w.heap.size w w' := by
 obtain ⟨a, b, c, ca, cb, cc, rfl, hA, _, _⟩ := hv.form
 generalize r.rules = l at *
 generalize r.zones.length = zn at *
 generalize r.links.length = ln at *
 clear hv
 have hB := (Below.refl w.heap.size w).alloc (Nat.le_refl _) (.cells #[.slice a l.length ca, .slice b zn cb, .slice c ln cc] 27)
 have hA1 := hA.below hB
 unfold hasB
 go_enter Tryz.func140, Tryz.ntmps140
 go_wp2
 go_loop [5] (fun i => ∃ k : Nat, k ≤ l.length ∧ i = .int .i64 k ∧ Hid (∀ j, j < k → ∀ x, l[j]? = some x → (x.name.toList == s.toList) = false)) (fun i => l.length - (intOf i).toNat)
 case atStart => exact ⟨0, by omega, rfl, fun j hj => by omega⟩
 case round =>
  obtain ⟨k, hk, rfl, hall⟩ := hrel
  by_cases hlt : k < l.length
  ·
   obtain ⟨x, hx⟩ : ∃ x, l[k]? = some x := ⟨_, List.getElem?_eq_getElem hlt⟩
   obtain ⟨b', o, rfl, hc⟩ := hA1.at (i := k) (r := x.cs) (by rw [List.getElem?_map, hx]; rfl)
   have c0 : (w.alloc (.cells #[.slice (some ⟨b', o, none⟩) l.length ca, .slice b zn cb, .slice c ln cc] 27)).cell? ⟨b', o + k * 9, none⟩ = some (.string x.name) := hc 0 _ rfl
   clear hc
   cases hb : (x.name.toList == s.toList)
   ·
    have HR : Hid (∀ j, j < k + 1 → ∀ x, l[j]? = some x → (x.name.toList == s.toList) = false) := fun j hj y hy => by
     by_cases e : j = k
     ·
      subst e; rw [hx] at hy; obtain rfl := Option.some.inj hy; exact hb
     ·
      exact hall.out j (by omega) y hy
    generalize x.name = nm at *
    go_wp2
    go_round
    case rel => exact ⟨k + 1, by omega, by go_num, HR⟩
    case measure => simp [intOf]; omega
   ·
    have HR : Hid ((l.any fun x => x.name.toList == s.toList) = true) := any_yes hx hb
    generalize x.name = nm at *
    go_wp2
    go_ret
    exact ⟨ret_bool HR.out.symm, hB⟩
  ·
   have e : k = l.length := by omega
   subst e
   have HR : Hid ((l.any fun x => x.name.toList == s.toList) = false) := any_no hall.out
   go_wp2
   go_ret
   exact ⟨ret_bool HR.out.symm, hB⟩
end Go.Proofs.YtcelbkmnbjcjhaaGreatDoor
namespace Go.Proofs.YtcelbkmnbjcjhaaGreatDoor
open Go.RowKit

set_option maxHeartbeats 2000000 in
theorem impl_allZone (l : List ZoneD) (a : Option Addr) (cap : Nat) (w : World) (hA : ZonesAt w a l) (hok : ∀ r ∈ l, r.ok) (hl : l.length ≤ 1048576) :
  Calls Tryz.prog 44 #[.slice a l.length cap, .func (.func 45) #[] #[]] w fun e w' => e = .returned (.bool (l.all zoneP)) ∧ Below w.heap.size w w' := by
 go_enter Tryz.func44, Tryz.ntmps44
 go_wp2
 go_loopw [9] (fun i wr => ∃ k : Nat, k ≤ l.length ∧ i = .int .i64 k ∧ Hid (∀ j, j < k → ∀ x, l[j]? = some x → zoneP x = true) ∧ Below w.heap.size w wr) (fun i _ => l.length - (intOf i).toNat)
 case atStart => exact ⟨0, by omega, rfl, fun j hj => by omega, Below.refl _ _⟩
 case round =>
  obtain ⟨k, hk, rfl, hall, hB⟩ := hrel
  by_cases hlt : k < l.length
  ·
   obtain ⟨r, hr⟩ : ∃ r, l[k]? = some r := ⟨_, List.getElem?_eq_getElem hlt⟩
   obtain ⟨b, o, rfl, c0, v, c1, hv⟩ := (hA.below hB).at hr
   have ok := hok r (List.mem_of_getElem? hr)
   have hS := fun o => impl_zoneRight r v (wr.alloc o) (hv.below ((Below.refl _ _).alloc (Nat.le_refl _) o)) ok
   obtain ⟨ae, ce, rfl, _⟩ := hv
   generalize r.eras.length = en at *
   cases hb : zoneP r
   ·
    have HR : Hid (l.all zoneP = false) := all_no hr hb
    rw [hb] at hS
    clear hb
    go_wp2_with fail
    refine (hS _).mono ?_
    rintro e w2 ⟨rfl, hb2⟩
    go_wp2
    go_ret
    exact ⟨ret_bool HR.out.symm, (hB.alloc hB.size _).trans (hb2.mono (by simp; have := hB.size; omega))⟩
   ·
    have HR : Hid (∀ j, j < k + 1 → ∀ x, l[j]? = some x → zoneP x = true) := fun j hj x hx => by
     by_cases e : j = k
     ·
      subst e; rw [hr] at hx; obtain rfl := Option.some.inj hx; exact hb
     ·
      exact hall.out j (by omega) x hx
    rw [hb] at hS
    clear hb
    go_wp2_with fail
    refine (hS _).mono ?_
    rintro e w2 ⟨rfl, hb2⟩
    go_wp2
    go_roundw
    case rel => exact ⟨k + 1, by omega, by go_num, HR, (hB.alloc hB.size _).trans (hb2.mono (by simp; have := hB.size; omega))⟩
    case measure => simp [intOf]; omega
  ·
   have e : k = l.length := by omega
   subst e
   have HR : Hid (l.all zoneP = true) := all_yes hall.out
   go_wp2
   go_ret
   exact ⟨ret_bool HR.out.symm, hB⟩
def eraM (rs : List RuleD) (e : EraD) : Bool := (e.rules.toList.isEmpty || (decide (e.save = 0) && hasB rs e.rules)) && (isB e.offset (-86400) 86400 && (isB e.save (-7200) 7200 && (fmtB e.format && (isB e.until_ (-62135596800) 253402300799 && ofB e.of))))
set_option maxHeartbeats 400000 in
theorem spec_l01TimeZ (n : Int) (w : World) :
  Calls Tryz.prog 142 #[.int .i64 n] w fun e w' => e = .returned (.bool (isB n (-62135596800) 253402300799)) ∧ w' = w := by
 go_enter Tryz.func142, Tryz.ntmps142
 go_wp2_with (go_at_call 26; refine (spec_l01Is _ _ _ _).mono ?_; rintro e w' ⟨rfl, rfl⟩)
 go_ret
 exact ⟨rfl, rfl⟩
set_option maxHeartbeats 2000000 in
theorem spec_l02Era (r : RelD) (v : Value) (e : EraD) (w : World) (hv : RelAt w v r) (ok : e.ok) (hl : r.rules.length ≤ 1048576) :
  Calls Tryz.prog 100 #[v, e.v] w fun x w' => x = .returned (.bool (eraM r.rules e)) ∧ Below w.heap.size w w' := by
 have hB0 := fun o o2 => ((Below.refl w.heap.size w).alloc (Nat.le_refl _) o).alloc (by simp) o2
 have hR := fun s o o2 => spec_l02Rules r v s ((w.alloc o).alloc o2) (hv.below (hB0 o o2)) hl
 obtain ⟨a, b, c, ca, cb, cc, rfl, _, _, _⟩ := hv.form
 generalize r.rules.length = rn at *
 generalize r.zones.length = zn at *
 generalize r.links.length = ln at *
 clear hv
 obtain ⟨offset, rules, save, format, until_, of⟩ := e
 obtain ⟨k1, k2, k3⟩ := ok
 simp only [EraD.v, eraM] at *
 have h1 := fun w => spec_l01Is offset (-86400) 86400 w
 have h2 := fun w => spec_l02Save save w
 have h3 := fun w => spec_l02Format format w k2
 have h4 := fun w => spec_l01TimeZ until_ w
 have h5 := fun w => spec_l02Of of w
 have hR1 := hR rules
 clear hR
 generalize hasB r.rules rules = q at *
 generalize isB offset (-86400) 86400 = b1 at *
 generalize isB save (-7200) 7200 = b2 at *
 generalize fmtB format = b3 at *
 generalize isB until_ (-62135596800) 253402300799 = b4 at *
 generalize ofB of = b5 at *
 cases he : rules.toList.isEmpty
 ·
  by_cases hs : save = 0
  ·
   subst hs
   cases q
   ·
    go_enter Tryz.func100, Tryz.ntmps100
    go_wp2_with fail
    refine (hR1 _ _).mono ?_
    rintro e w1 ⟨rfl, hb1⟩
    go_wp2
    go_ret
    exact ⟨ret_bool (by simp), (hB0 _ _).trans (hb1.mono (by simp; omega))⟩
   ·
    go_enter Tryz.func100, Tryz.ntmps100
    go_wp2_with fail
    refine (hR1 _ _).mono ?_
    rintro e w1 ⟨rfl, hb1⟩
    obtain ⟨hc, _⟩ := bcell hb1
    have hlt : w.heap.size + 1 < w1.heap.size := by have := hb1.size; simp at this; omega
    have hB1 := (hB0 _ _).trans (hb1.mono (by simp; omega))
    go_wp2_with fail
    refine (h1 _).mono ?_
    rintro e w9 ⟨rfl, rfl⟩
    cases b1
    case false =>
     go_wp2
     go_ret
     exact ⟨ret_bool (by simp), hB1⟩
    go_wp2_with fail
    refine (h2 _).mono ?_
    rintro e w9 ⟨rfl, rfl⟩
    cases b2
    case false =>
     go_wp2
     go_ret
     exact ⟨ret_bool (by simp), hB1⟩
    go_wp2_with fail
    refine (h3 _).mono ?_
    rintro e w9 ⟨rfl, rfl⟩
    cases b3
    case false =>
     go_wp2
     go_ret
     exact ⟨ret_bool (by simp), hB1⟩
    go_wp2_with fail
    refine (h4 _).mono ?_
    rintro e w9 ⟨rfl, rfl⟩
    cases b4
    case false =>
     go_wp2
     go_ret
     exact ⟨ret_bool (by simp), hB1⟩
    go_wp2_with fail
    refine (h5 _).mono ?_
    rintro e w9 ⟨rfl, rfl⟩
    go_wp2
    go_ret
    exact ⟨ret_bool (by simp), hB1⟩
  ·
   have hs' : (save != 0) = true := by simpa using hs
   go_enter Tryz.func100, Tryz.ntmps100
   go_wp2
   go_ret
   exact ⟨ret_bool (by simp [hs]), hB0 _ _⟩
 ·
  go_enter Tryz.func100, Tryz.ntmps100
  go_wp2_with fail
  refine (h1 _).mono ?_
  rintro e w9 ⟨rfl, rfl⟩
  cases b1
  case false =>
   go_wp2
   go_ret
   exact ⟨ret_bool (by simp), hB0 _ _⟩
  go_wp2_with fail
  refine (h2 _).mono ?_
  rintro e w9 ⟨rfl, rfl⟩
  cases b2
  case false =>
   go_wp2
   go_ret
   exact ⟨ret_bool (by simp), hB0 _ _⟩
  go_wp2_with fail
  refine (h3 _).mono ?_
  rintro e w9 ⟨rfl, rfl⟩
  cases b3
  case false =>
   go_wp2
   go_ret
   exact ⟨ret_bool (by simp), hB0 _ _⟩
  go_wp2_with fail
  refine (h4 _).mono ?_
  rintro e w9 ⟨rfl, rfl⟩
  cases b4
  case false =>
   go_wp2
   go_ret
   exact ⟨ret_bool (by simp), hB0 _ _⟩
  go_wp2_with fail
  refine (h5 _).mono ?_
  rintro e w9 ⟨rfl, rfl⟩
  go_wp2
  go_ret
  exact ⟨ret_bool (by simp), hB0 _ _⟩
end Go.Proofs.YtcelbkmnbjcjhaaGreatDoor
namespace Go.Proofs.YtcelbkmnbjcjhaaGreatDoor
open Go.RowKit

def StrsAt (w : World) (a : Option Addr) (ss : List ByteArray) : Prop :=
 ss = [] ∨ ∃ b o, a = some ⟨b, o, none⟩ ∧ ∀ i s, ss[i]? = some s → w.cell? ⟨b, o + i, none⟩ = some (.string s)
theorem StrsAt.at {w : World} {a : Option Addr} {ss : List ByteArray} (h : StrsAt w a ss) {i : Nat} {s : ByteArray} (hi : ss[i]? = some s) : ∃ b o, a = some ⟨b, o, none⟩ ∧ w.cell? ⟨b, o + i, none⟩ = some (.string s) := by
 rcases h with rfl | ⟨b, o, ha, hc⟩
 ·
  simp at hi
 ·
  exact ⟨b, o, ha, hc i s hi⟩
theorem StrsAt.below {w w' : World} {a : Option Addr} {ss : List ByteArray} (h : StrsAt w a ss) (hb : Below w.heap.size w w') : StrsAt w' a ss := by
 rcases h with h | ⟨b, o, ha, hc⟩
 ·
  exact .inl h
 ·
  exact .inr ⟨b, o, ha, fun i s hi => by
   have := hc i s hi
   rw [(bcell hb).1 _ _ (World.block_lt_of_cell? _ _ this)]; exact this⟩
theorem StrsAt.take {w : World} {a : Option Addr} {ss : List ByteArray} (h : StrsAt w a ss) (n : Nat) : StrsAt w a (ss.take n) := by
 rcases h with rfl | ⟨b, o, ha, hc⟩
 ·
  exact .inl (by simp)
 ·
  exact .inr ⟨b, o, ha, fun i s hi => hc i s (by rw [List.getElem?_take] at hi; split at hi <;> simp_all)⟩
def inB (ss : List ByteArray) (t : ByteArray) : Bool := ss.any fun s => s.toList == t.toList
set_option maxHeartbeats 2000000 in
theorem spec_l02In (l : List ByteArray) (a : Option Addr) (cap : Nat) (t : ByteArray) (w : World) (hA : StrsAt w a l) (hl : l.length ≤ 1048576) :
  Calls Tryz.prog 56 #[.slice a l.length cap, .string t] w fun e w' => e = .returned (.bool (inB l t)) ∧ w' = w := by
 unfold inB
 go_enter Tryz.func56, Tryz.ntmps56
 go_wp2
 go_loop [5] (fun i => ∃ k : Nat, k ≤ l.length ∧ i = .int .i64 k ∧ Hid (∀ j, j < k → ∀ x, l[j]? = some x → (x.toList == t.toList) = false)) (fun i => l.length - (intOf i).toNat)
 case atStart => exact ⟨0, by omega, rfl, fun j hj => by omega⟩
 case round =>
  obtain ⟨k, hk, rfl, hall⟩ := hrel
  by_cases hlt : k < l.length
  ·
   obtain ⟨x, hx⟩ : ∃ x, l[k]? = some x := ⟨_, List.getElem?_eq_getElem hlt⟩
   obtain ⟨b, o, rfl, c0⟩ := hA.at hx
   cases hb : (x.toList == t.toList)
   ·
    have HR : Hid (∀ j, j < k + 1 → ∀ x, l[j]? = some x → (x.toList == t.toList) = false) := fun j hj y hy => by
     by_cases e : j = k
     ·
      subst e; rw [hx] at hy; obtain rfl := Option.some.inj hy; exact hb
     ·
      exact hall.out j (by omega) y hy
    go_wp2
    go_round
    case rel => exact ⟨k + 1, by omega, by go_num, HR⟩
    case measure => simp [intOf]; omega
   ·
    have HR : Hid ((l.any fun x => x.toList == t.toList) = true) := any_yes hx hb
    go_wp2
    go_ret
    exact ⟨ret_bool HR.out.symm, rfl⟩
  ·
   have e : k = l.length := by omega
   subst e
   have HR : Hid ((l.any fun x => x.toList == t.toList) = false) := any_no hall.out
   go_wp2
   go_ret
   exact ⟨ret_bool HR.out.symm, rfl⟩
end Go.Proofs.YtcelbkmnbjcjhaaGreatDoor
namespace Go.Proofs.YtcelbkmnbjcjhaaGreatDoor
open Go.RowKit

set_option maxHeartbeats 400000 in
theorem impl_named (r : RuleD) (p : Nat) (s : ByteArray) (w : World) (hp : w.cell? ⟨p, 1, none⟩ = some (.string s)) :
  Calls Tryz.prog 88 #[r.v, .pointer (some ⟨p, 0, none⟩)] w fun e w' => e = .returned (.bool (r.name.toList == s.toList)) ∧ Below w.heap.size w w' := by
 have hlt := World.block_lt_of_cell? _ _ hp
 have hne : p ≠ w.heap.size := by simp at hlt; omega
 obtain ⟨name, lo, hi, month, on, at_, of, save, letter⟩ := r
 simp only [RuleD.v] at *
 go_enter Tryz.func88, Tryz.ntmps88
 go_wp2
 go_ret
 exact ⟨rfl, (Below.refl _ _).alloc (Nat.le_refl _) _⟩
set_option maxHeartbeats 2000000 in
theorem impl_indexRule (l : List RuleD) (a : Option Addr) (cap p : Nat) (s : ByteArray) (w : World) (hA : SeqAt w a 9 (l.map RuleD.cs)) (hl : l.length ≤ 1048576) (hp : w.cell? ⟨p, 1, none⟩ = some (.string s)) :
  Calls Tryz.prog 138 #[.slice a l.length cap, .func (.func 88) #[] #[.pointer (some ⟨p, 0, none⟩)]] w fun e w' => (∃ n : Int, e = .returned (.int .i64 n) ∧ decide (0 ≤ n) = hasB l s) ∧ Below w.heap.size w w' := by
 unfold hasB
 go_enter Tryz.func138, Tryz.ntmps138
 go_wp2
 go_loopw [8] (fun i wr => ∃ k : Nat, k ≤ l.length ∧ i = .int .i64 k ∧ Hid (∀ j, j < k → ∀ x, l[j]? = some x → (x.name.toList == s.toList) = false) ∧ Below w.heap.size w wr) (fun i _ => l.length - (intOf i).toNat)
 case atStart => exact ⟨0, by omega, rfl, fun j hj => by omega, Below.refl _ _⟩
 case round =>
  obtain ⟨k, hk, rfl, hall, hB⟩ := hrel
  by_cases hlt : k < l.length
  ·
   obtain ⟨r, hr⟩ : ∃ r, l[k]? = some r := ⟨_, List.getElem?_eq_getElem hlt⟩
   obtain ⟨b, o, rfl, hc⟩ := (hA.below hB).at (i := k) (r := r.cs) (by rw [List.getElem?_map, hr]; rfl)
   have c0 : wr.cell? ⟨b, o + k * 9, none⟩ = some (.string r.name) := hc 0 _ rfl
   have c1 := hc 1 _ rfl
   have c2 := hc 2 _ rfl
   have c3 := hc 3 _ rfl
   have c4 := hc 4 _ rfl
   have c5 := hc 5 _ rfl
   have c6 := hc 6 _ rfl
   have c7 := hc 7 _ rfl
   have c8 := hc 8 _ rfl
   clear hc
   have hS := impl_named r p s wr (by rw [(bcell hB).1 _ _ (World.block_lt_of_cell? _ _ hp)]; exact hp)
   unfold RuleD.v at hS
   cases hb : (r.name.toList == s.toList)
   ·
    have HR : Hid (∀ j, j < k + 1 → ∀ x, l[j]? = some x → (x.name.toList == s.toList) = false) := fun j hj x hx => by
     by_cases e : j = k
     ·
      subst e; rw [hr] at hx; obtain rfl := Option.some.inj hx; exact hb
     ·
      exact hall.out j (by omega) x hx
    rw [hb] at hS
    clear hb
    go_wp2_with fail
    refine hS.mono ?_
    rintro e w2 ⟨rfl, hb2⟩
    go_wp2
    go_roundw
    case rel => exact ⟨k + 1, by omega, by go_num, HR, hB.trans (hb2.mono hB.size)⟩
    case measure => simp [intOf]; omega
   ·
    have HR : Hid ((l.any fun x => x.name.toList == s.toList) = true) := any_yes hr hb
    rw [hb] at hS
    clear hb
    go_wp2_with fail
    refine hS.mono ?_
    rintro e w2 ⟨rfl, hb2⟩
    go_wp2
    go_ret
    exact ⟨⟨_, rfl, by rw [HR.out]; simp⟩, hB.trans (hb2.mono hB.size)⟩
  ·
   have e : k = l.length := by omega
   subst e
   have HR : Hid ((l.any fun x => x.name.toList == s.toList) = false) := any_no hall.out
   go_wp2
   go_ret
   exact ⟨⟨_, rfl, by rw [HR.out]; rfl⟩, hB⟩
set_option maxHeartbeats 400000 in
theorem impl_containsRule (l : List RuleD) (a : Option Addr) (cap p : Nat) (s : ByteArray) (w : World) (hA : SeqAt w a 9 (l.map RuleD.cs)) (hl : l.length ≤ 1048576) (hp : w.cell? ⟨p, 1, none⟩ = some (.string s)) :
  Calls Tryz.prog 89 #[.slice a l.length cap, .func (.func 88) #[] #[.pointer (some ⟨p, 0, none⟩)]] w fun e w' => e = .returned (.bool (hasB l s)) ∧ Below w.heap.size w w' := by
 have hI := impl_indexRule l a cap p s w hA hl hp
 generalize hasB l s = q at *
 go_enter Tryz.func89, Tryz.ntmps89
 go_wp2_with fail
 refine hI.mono ?_
 rintro e w1 ⟨⟨n, rfl, hn⟩, hb⟩
 go_wp2
 go_ret
 exact ⟨ret_bool (by simp), hb⟩
end Go.Proofs.YtcelbkmnbjcjhaaGreatDoor
namespace Go.Proofs.YtcelbkmnbjcjhaaGreatDoor
open Go.RowKit

def hasZ (l : List ZoneD) (s : ByteArray) : Bool := l.any fun x => x.name.toList == s.toList
set_option maxHeartbeats 400000 in
theorem impl_namedZ (r : ZoneD) (v : Value) (p : Nat) (s : ByteArray) (w : World) (hp : w.cell? ⟨p, 0, none⟩ = some (.string s)) :
  Calls Tryz.prog 90 #[.agg #[.string r.name, v], .pointer (some ⟨p, 0, none⟩)] w fun e w' => e = .returned (.bool (r.name.toList == s.toList)) ∧ Below w.heap.size w w' := by
 have hlt := World.block_lt_of_cell? _ _ hp
 have hne : p ≠ w.heap.size := by simp at hlt; omega
 go_enter Tryz.func90, Tryz.ntmps90
 go_wp2
 go_ret
 exact ⟨rfl, (Below.refl _ _).alloc (Nat.le_refl _) _⟩
set_option maxHeartbeats 2000000 in
theorem impl_indexZone (l : List ZoneD) (a : Option Addr) (cap p : Nat) (s : ByteArray) (w : World) (hA : ZonesAt w a l) (hl : l.length ≤ 1048576) (hp : w.cell? ⟨p, 0, none⟩ = some (.string s)) :
  Calls Tryz.prog 139 #[.slice a l.length cap, .func (.func 90) #[] #[.pointer (some ⟨p, 0, none⟩)]] w fun e w' => (∃ n : Int, e = .returned (.int .i64 n) ∧ decide (0 ≤ n) = hasZ l s) ∧ Below w.heap.size w w' := by
 unfold hasZ
 go_enter Tryz.func139, Tryz.ntmps139
 go_wp2
 go_loopw [8] (fun i wr => ∃ k : Nat, k ≤ l.length ∧ i = .int .i64 k ∧ Hid (∀ j, j < k → ∀ x, l[j]? = some x → (x.name.toList == s.toList) = false) ∧ Below w.heap.size w wr) (fun i _ => l.length - (intOf i).toNat)
 case atStart => exact ⟨0, by omega, rfl, fun j hj => by omega, Below.refl _ _⟩
 case round =>
  obtain ⟨k, hk, rfl, hall, hB⟩ := hrel
  by_cases hlt : k < l.length
  ·
   obtain ⟨r, hr⟩ : ∃ r, l[k]? = some r := ⟨_, List.getElem?_eq_getElem hlt⟩
   obtain ⟨b, o, rfl, c0, v, c1, hv⟩ := (hA.below hB).at hr
   have hS := impl_namedZ r v p s wr (by rw [(bcell hB).1 _ _ (World.block_lt_of_cell? _ _ hp)]; exact hp)
   obtain ⟨ae, ce, rfl, _⟩ := hv
   generalize r.eras.length = en at *
   cases hb : (r.name.toList == s.toList)
   ·
    have HR : Hid (∀ j, j < k + 1 → ∀ x, l[j]? = some x → (x.name.toList == s.toList) = false) := fun j hj x hx => by
     by_cases e : j = k
     ·
      subst e; rw [hr] at hx; obtain rfl := Option.some.inj hx; exact hb
     ·
      exact hall.out j (by omega) x hx
    rw [hb] at hS
    clear hb
    go_wp2_with fail
    refine hS.mono ?_
    rintro e w2 ⟨rfl, hb2⟩
    go_wp2
    go_roundw
    case rel => exact ⟨k + 1, by omega, by go_num, HR, hB.trans (hb2.mono hB.size)⟩
    case measure => simp [intOf]; omega
   ·
    have HR : Hid ((l.any fun x => x.name.toList == s.toList) = true) := any_yes hr hb
    rw [hb] at hS
    clear hb
    go_wp2_with fail
    refine hS.mono ?_
    rintro e w2 ⟨rfl, hb2⟩
    go_wp2
    go_ret
    exact ⟨⟨_, rfl, by rw [HR.out]; simp⟩, hB.trans (hb2.mono hB.size)⟩
  ·
   have e : k = l.length := by omega
   subst e
   have HR : Hid ((l.any fun x => x.name.toList == s.toList) = false) := any_no hall.out
   go_wp2
   go_ret
   exact ⟨⟨_, rfl, by rw [HR.out]; rfl⟩, hB⟩
set_option maxHeartbeats 400000 in
theorem impl_containsZone (l : List ZoneD) (a : Option Addr) (cap p : Nat) (s : ByteArray) (w : World) (hA : ZonesAt w a l) (hl : l.length ≤ 1048576) (hp : w.cell? ⟨p, 0, none⟩ = some (.string s)) :
  Calls Tryz.prog 91 #[.slice a l.length cap, .func (.func 90) #[] #[.pointer (some ⟨p, 0, none⟩)]] w fun e w' => e = .returned (.bool (hasZ l s)) ∧ Below w.heap.size w w' := by
 have hI := impl_indexZone l a cap p s w hA hl hp
 generalize hasZ l s = q at *
 go_enter Tryz.func91, Tryz.ntmps91
 go_wp2_with fail
 refine hI.mono ?_
 rintro e w1 ⟨⟨n, rfl, hn⟩, hb⟩
 go_wp2
 go_ret
 exact ⟨ret_bool (by simp), hb⟩
end Go.Proofs.YtcelbkmnbjcjhaaGreatDoor
namespace Go.Proofs.YtcelbkmnbjcjhaaGreatDoor
open Go.RowKit

set_option maxHeartbeats 2000000 in
theorem impl_zonesThere (r : RelD) (v : Value) (w : World) (hv : RelAt w v r) (hz : r.zones.length ≤ 1048576) (hl : r.links.length ≤ 1048576) :
  Calls Tryz.prog 50 #[v] w fun e w' => e = .returned (.bool (r.links.all fun x => hasZ r.zones x.to_)) ∧ Below w.heap.size w w' := by
 obtain ⟨a, b, c, ca, cb, cc, rfl, _, hZ, hA⟩ := hv.form
 clear hv
 generalize r.rules.length = rn at *
 generalize r.links = l at *
 generalize r.zones = zs at *
 have hB0 := (Below.refl w.heap.size w).alloc (Nat.le_refl _) (.cells #[.slice a rn ca, .slice b zs.length cb, .slice c l.length cc] 27)
 have hA1 := hA.below hB0
 have hZ1 := hZ.below hB0
 have hown : (w.alloc (.cells #[.slice a rn ca, .slice b zs.length cb, .slice c l.length cc] 27)).cell? ⟨w.heap.size, 1, none⟩ = some (.slice b zs.length cb) := by simp
 go_enter Tryz.func50, Tryz.ntmps50
 go_wp2
 generalize hW : (w.alloc (.cells #[.slice a rn ca, .slice b zs.length cb, .slice c l.length cc] 27)) = W at *
 go_loopw [9] (fun i wr => ∃ k : Nat, k ≤ l.length ∧ i = .int .i64 k ∧ Hid (∀ j, j < k → ∀ x, l[j]? = some x → hasZ zs x.to_ = true) ∧ Below W.heap.size W wr) (fun i _ => l.length - (intOf i).toNat)
 case atStart => exact ⟨0, by omega, rfl, fun j hj => by omega, by subst hW; exact Below.refl _ _⟩
 case round =>
  obtain ⟨k, hk, rfl, hall, hB⟩ := hrel
  have hT : Below w.heap.size w wr := hB0.trans (hB.mono hB0.size)
  have ho : wr.cell? ⟨w.heap.size, 1, none⟩ = some (.slice b zs.length cb) := by rw [(bcell hB).1 _ _ (World.block_lt_of_cell? _ _ hown)]; exact hown
  by_cases hlt : k < l.length
  ·
   obtain ⟨x, hx⟩ : ∃ x, l[k]? = some x := ⟨_, List.getElem?_eq_getElem hlt⟩
   obtain ⟨b', o, rfl, hc⟩ := (hA1.below hB).at (i := k) (r := x.cs) (by rw [List.getElem?_map, hx]; rfl)
   have c0 : wr.cell? ⟨b', o + k * 2, none⟩ = some (.string x.to_) := hc 0 _ rfl
   have c1 := hc 1 _ rfl
   clear hc
   have hl0 := World.block_lt_of_cell? _ _ ho
   have hB2 : Below W.heap.size W (wr.alloc (.cells #[.string x.to_, .string x.name] 88)) := hB.alloc hB.size _
   have hS := impl_containsZone zs b cb wr.heap.size x.to_ (wr.alloc (.cells #[.string x.to_, .string x.name] 88)) (hZ1.below hB2) hz (by simp)
   cases hb : hasZ zs x.to_
   ·
    have HR : Hid ((l.all fun x => hasZ zs x.to_) = false) := all_no hx hb
    rw [hb] at hS
    clear hb
    go_wp2_with fail
    refine hS.mono ?_
    rintro e w2 ⟨rfl, hb2⟩
    go_wp2
    go_ret
    exact ⟨ret_bool HR.out.symm, hB0.trans ((hB2.trans (hb2.mono hB2.size)).mono hB0.size)⟩
   ·
    have HR : Hid (∀ j, j < k + 1 → ∀ x, l[j]? = some x → hasZ zs x.to_ = true) := fun j hj y hy => by
     by_cases e : j = k
     ·
      subst e; rw [hx] at hy; obtain rfl := Option.some.inj hy; exact hb
     ·
      exact hall.out j (by omega) y hy
    rw [hb] at hS
    clear hb
    go_wp2_with fail
    refine hS.mono ?_
    rintro e w2 ⟨rfl, hb2⟩
    go_wp2
    go_roundw
    case rel => exact ⟨k + 1, by omega, by go_num, HR, hB2.trans (hb2.mono hB2.size)⟩
    case measure => simp [intOf]; omega
  ·
   have e : k = l.length := by omega
   subst e
   have HR : Hid ((l.all fun x => hasZ zs x.to_) = true) := all_yes hall.out
   go_wp2
   go_ret
   exact ⟨ret_bool HR.out.symm, hT⟩
end Go.Proofs.YtcelbkmnbjcjhaaGreatDoor
namespace Go.Proofs.YtcelbkmnbjcjhaaGreatDoor
open Go.RowKit

def thereB (rs : List RuleD) (e : EraD) : Bool := e.rules.toList.isEmpty || hasB rs e.rules
set_option maxHeartbeats 4000000 in
theorem impl_rulesThere (r : RelD) (v : Value) (w : World) (hv : RelAt w v r) (hr : r.rules.length ≤ 1048576) (hz : r.zones.length ≤ 1048576) (hok : ∀ x ∈ r.zones, x.ok) :
  Calls Tryz.prog 49 #[v] w fun e w' => e = .returned (.bool (r.zones.all fun z => z.eras.all (thereB r.rules))) ∧ Below w.heap.size w w' := by
 obtain ⟨a, b, c, ca, cb, cc, rfl, hR, hA, _⟩ := hv.form
 clear hv
 generalize r.rules = rs at *
 generalize r.links.length = ln at *
 generalize r.zones = l at *
 have hB0 := (Below.refl w.heap.size w).alloc (Nat.le_refl _) (.cells #[.slice a rs.length ca, .slice b l.length cb, .slice c ln cc] 27)
 have hA1 := hA.below hB0
 have hR1 := hR.below hB0
 have hown : (w.alloc (.cells #[.slice a rs.length ca, .slice b l.length cb, .slice c ln cc] 27)).cell? ⟨w.heap.size, 0, none⟩ = some (.slice a rs.length ca) := by simp
 go_enter Tryz.func49, Tryz.ntmps49
 go_wp2
 generalize hW : (w.alloc (.cells #[.slice a rs.length ca, .slice b l.length cb, .slice c ln cc] 27)) = W at *
 go_loopw [11] (fun i wr => ∃ k : Nat, k ≤ l.length ∧ i = .int .i64 k ∧ Hid (∀ j, j < k → ∀ x, l[j]? = some x → x.eras.all (thereB rs) = true) ∧ Below W.heap.size W wr) (fun i _ => l.length - (intOf i).toNat)
 case atStart => exact ⟨0, by omega, rfl, fun j hj => by omega, by subst hW; exact Below.refl _ _⟩
 case round =>
  obtain ⟨k, hk, rfl, hall, hB⟩ := hrel
  have hT : Below w.heap.size w wr := hB0.trans (hB.mono hB0.size)
  by_cases hlt : k < l.length
  ·
   obtain ⟨x, hx⟩ : ∃ x, l[k]? = some x := ⟨_, List.getElem?_eq_getElem hlt⟩
   obtain ⟨b', o, rfl, c0, v, c1, hv⟩ := (hA1.below hB).at hx
   have ok := (hok x (List.mem_of_getElem? hx)).2.1
   obtain ⟨ae, ce, rfl, hE⟩ := hv
   unfold maxLen at ok
   obtain ⟨nm, es⟩ := x
   simp only at *
   have hB2 : Below W.heap.size W (wr.alloc (.cells #[.string nm, .slice ae es.length ce] 49)) := hB.alloc hB.size _
   have hE2 : SeqAt (wr.alloc (.cells #[.string nm, .slice ae es.length ce] 49)) ae 6 (es.map EraD.cs) := hE.below ((Below.refl _ _).alloc (Nat.le_refl _) _)
   go_wp2
   generalize hV : (wr.alloc (.cells #[.string nm, .slice ae es.length ce] 49)) = V at *
   obtain ⟨wo, rfl⟩ : ∃ wo : World, wo = wr := ⟨_, rfl⟩
   go_loopw [18] (fun i wr => ∃ m : Nat, m ≤ es.length ∧ i = .int .i64 m ∧ Hid (∀ j, j < m → ∀ x, es[j]? = some x → thereB rs x = true) ∧ Below V.heap.size V wr) (fun i _ => es.length - (intOf i).toNat)
   case atStart => exact ⟨0, by omega, rfl, fun j hj => by omega, by subst hV; exact Below.refl _ _⟩
   case round =>
    obtain ⟨m, hm, rfl, hall2, hC⟩ := hrel
    have hBC : Below W.heap.size W wr := hB2.trans (hC.mono hB2.size)
    have ho : wr.cell? ⟨w.heap.size, 0, none⟩ = some (.slice a rs.length ca) := by rw [(bcell hBC).1 _ _ (World.block_lt_of_cell? _ _ hown)]; exact hown
    by_cases hlt2 : m < es.length
    ·
     obtain ⟨y, hy⟩ : ∃ y, es[m]? = some y := ⟨_, List.getElem?_eq_getElem hlt2⟩
     obtain ⟨b2, o2, rfl, hc⟩ := (hE2.below hC).at (i := m) (r := y.cs) (by rw [List.getElem?_map, hy]; rfl)
     have d0 : wr.cell? ⟨b2, o2 + m * 6, none⟩ = some (.int .i64 y.offset) := hc 0 _ rfl
     have d1 := hc 1 _ rfl
     have d2 := hc 2 _ rfl
     have d3 := hc 3 _ rfl
     have d4 := hc 4 _ rfl
     have d5 := hc 5 _ rfl
     clear hc
     have hl0 := World.block_lt_of_cell? _ _ ho
     have hB3 : Below W.heap.size W (wr.alloc (.cells #[.int .i64 y.offset, .string y.rules, .int .i64 y.save, .string y.format, .int .i64 y.until_, .string y.of] 55)) := hBC.alloc hBC.size _
     have hC3 : Below V.heap.size V (wr.alloc (.cells #[.int .i64 y.offset, .string y.rules, .int .i64 y.save, .string y.format, .int .i64 y.until_, .string y.of] 55)) := hC.alloc hC.size _
     have hS := impl_containsRule rs a ca wr.heap.size y.rules (wr.alloc (.cells #[.int .i64 y.offset, .string y.rules, .int .i64 y.save, .string y.format, .int .i64 y.until_, .string y.of] 55)) (hR1.below hB3) hr (by simp)
     have hyes : thereB rs y = true → Hid (∀ j, j < m + 1 → ∀ x, es[j]? = some x → thereB rs x = true) := fun hb j hj z hz => by
      by_cases e : j = m
      ·
       subst e; rw [hy] at hz; obtain rfl := Option.some.inj hz; exact hb
      ·
       exact hall2.out j (by omega) z hz
     have hno : thereB rs y = false → Hid ((l.all fun z => z.eras.all (thereB rs)) = false) := fun hb => all_no hx (all_no hy hb)
     unfold thereB at hyes hno
     cases he : y.rules.toList.isEmpty
     ·
      cases hb : hasB rs y.rules
      ·
       have HR := hno (by rw [he, hb]; rfl)
       rw [hb] at hS
       clear hb hyes hno
       go_wp2_with fail
       refine hS.mono ?_
       rintro e w2 ⟨rfl, hb2⟩
       go_wp2
       go_ret
       exact ⟨ret_bool HR.out.symm, hB0.trans ((hB3.trans (hb2.mono hB3.size)).mono hB0.size)⟩
      ·
       have HR := hyes (by rw [he, hb]; rfl)
       rw [hb] at hS
       clear hb hyes hno
       go_wp2_with fail
       refine hS.mono ?_
       rintro e w2 ⟨rfl, hb2⟩
       go_wp2
       go_roundw
       case rel => exact ⟨m + 1, by omega, by go_num, HR, hC3.trans (hb2.mono hC3.size)⟩
       case measure => simp [intOf]; omega
     ·
      have HR := hyes (by rw [he]; rfl)
      clear hS hyes hno
      go_wp2
      go_roundw
      case rel => exact ⟨m + 1, by omega, by go_num, HR, hC3⟩
      case measure => simp [intOf]; omega
    ·
     have e : m = es.length := by omega
     subst e
     have HR : Hid (∀ j, j < k + 1 → ∀ x, l[j]? = some x → x.eras.all (thereB rs) = true) := fun j hj z hz => by
      by_cases e : j = k
      ·
       subst e; rw [hx] at hz; obtain rfl := Option.some.inj hz; exact all_yes hall2.out
      ·
       exact hall.out j (by omega) z hz
     go_wp2
     go_roundw
     case rel => exact ⟨k + 1, by omega, by go_num, HR, hBC⟩
     case measure => simp [intOf]; omega
  ·
   have e : k = l.length := by omega
   subst e
   have HR : Hid ((l.all fun z => z.eras.all (thereB rs)) = true) := all_yes hall.out
   go_wp2
   go_ret
   exact ⟨ret_bool HR.out.symm, hT⟩
end Go.Proofs.YtcelbkmnbjcjhaaGreatDoor
