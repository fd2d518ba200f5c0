/- Packed: Right4 Right5 Right6 Right7 Right8 Right9 Right10 Right11 Right12 Right13 Right14. -/
import Derived.Test.YtcelbkmnbjcjhaaGreatRightAd
import Derived.Test.YtcelbkmnbjcjhaaGreatRelAd
import Derived.Laws.EntriesVeiled
namespace Go.Proofs.YtcelbkmnbjcjhaaGreat
open Go.RowKit

/-- a save, or the rules' name. -/
def erB (e : EraD) : Bool := if e.rules.toList.isEmpty = true then isB e.save (-7200) 7200 else nameB e.rules && decide (e.save = 0)
def eraP (e : EraD) : Bool := decide (-86400 ≤ e.offset) && (decide (e.offset ≤ 86400) && (erB e && (fmtB e.format && (decide (-62135596800 ≤ e.until_) && (decide (e.until_ ≤ 253402300799) && ofB e.of)))))
def linkB (l : LinkD) : Bool := nameB l.to_ && nameB l.name
end Go.Proofs.YtcelbkmnbjcjhaaGreat
namespace Go.Proofs.YtcelbkmnbjcjhaaGreat
open Go.RowKit

theorem all_no {α : Type} {l : List α} {p : α → Bool} {k : Nat} {x : α} (hk : l[k]? = some x) (h : p x = false) : l.all p = false := by
 rw [List.all_eq_false]
 exact ⟨x, List.mem_of_getElem? hk, by simp [h]⟩
theorem all_yes {α : Type} {l : List α} {p : α → Bool} (h : ∀ j, j < l.length → ∀ x, l[j]? = some x → p x = true) : l.all p = true := by
 rw [List.all_eq_true]
 intro x hx
 obtain ⟨j, hj⟩ := List.getElem?_of_mem hx
 exact h j (List.getElem?_eq_some_iff.mp hj).1 x hj
end Go.Proofs.YtcelbkmnbjcjhaaGreat
namespace Go.Proofs.YtcelbkmnbjcjhaaGreat
open Go.RowKit

/-- the untils rise, from one on. -/
def upB : List EraD → Bool
 | [] => true
 | [_] => true
 | x :: y :: l => decide (x.until_ < y.until_) && upB (y :: l)
theorem up_no {es : List EraD} : ∀ {i : Nat} {x y : EraD}, es[i]? = some x → es[i + 1]? = some y → ¬ x.until_ < y.until_ → upB es = false := by
 induction es with
 | nil => intro i x y h; simp at h
 | cons a l ih =>
  intro i x y hx hy hn
  match l, i with
  | [], _ => simp at hy
  | b :: l, 0 =>
   simp at hx hy
   subst hx hy
   simp [upB, hn]
  | b :: l, i + 1 =>
   have := ih (i := i) (x := x) (y := y) (by simpa using hx) (by simpa using hy) hn
   simp only [upB, this, Bool.and_false]
theorem up_yes {es : List EraD} (h : ∀ i x y, es[i]? = some x → es[i + 1]? = some y → x.until_ < y.until_) : upB es = true := by
 induction es with
 | nil => rfl
 | cons a l ih =>
  match l with
  | [] => rfl
  | b :: l =>
   have h0 := h 0 a b rfl rfl
   have := ih fun i x y hx hy => h (i + 1) x y (by simpa using hx) (by simpa using hy)
   simp only [upB, this, decide_eq_true h0, Bool.and_true]
def laB2 (es : List EraD) : Bool := match es[es.length - 1]? with
 | some e => (e.until_ == 253402300799) && (e.of.toList == [119])
 | none => false
def zoneP (z : ZoneD) : Bool := nameB z.name && (decide (1 ≤ z.eras.length ∧ z.eras.length ≤ 8) && (z.eras.all eraP && (upB z.eras && laB2 z.eras)))
end Go.Proofs.YtcelbkmnbjcjhaaGreat
namespace Go.Proofs.YtcelbkmnbjcjhaaGreat
open Go.RowKit

theorem any_yes {α : Type} {l : List α} {p : α → Bool} {k : Nat} {x : α} (hk : l[k]? = some x) (h : p x = true) : l.any p = true := by
 rw [List.any_eq_true]
 exact ⟨x, List.mem_of_getElem? hk, h⟩
theorem any_no {α : Type} {l : List α} {p : α → Bool} (h : ∀ j, j < l.length → ∀ x, l[j]? = some x → p x = false) : l.any p = false := by
 rw [List.any_eq_false]
 intro x hx
 obtain ⟨j, hj⟩ := List.getElem?_of_mem hx
 simp [h j (List.getElem?_eq_some_iff.mp hj).1 x hj]
/-- is there a rule of that name. -/
def hasB (rs : List RuleD) (s : ByteArray) : Bool := rs.any fun x => x.name.toList == s.toList
set_option maxHeartbeats 2000000 in
theorem spec_l02Rules (r : RelD) (v : Value) (s : ByteArray) (w : World) (hv : RelAt w v r) (hl : r.rules.length ≤ 1048576) :
  Calls Tryz.prog 97 #[v, .string s] w fun e w' => e = .returned (.bool (hasB r.rules s)) ∧ Below w.heap.size w w' := by
 obtain ⟨a, b, c, ca, cb, cc, rfl, hA, _, _⟩ := hv.form
 generalize r.rules = l at *
 generalize r.zones.length = zn at *
 generalize r.links.length = ln at *
 clear hv
 have hB := (Below.refl w.heap.size w).alloc (Nat.le_refl _) (.cells #[.slice a l.length ca, .slice b zn cb, .slice c ln cc] 90)
 have hA1 := hA.below hB
 unfold hasB
 go_enter Tryz.func97, Tryz.ntmps97
 go_wp2
 go_loop [5] (fun i => ∃ k : Nat, k ≤ l.length ∧ i = .int .i64 k ∧ Hid (∀ j, j < k → ∀ x, l[j]? = some x → (x.name.toList == s.toList) = false)) (fun i => l.length - (intOf i).toNat)
 case atStart => exact ⟨0, by omega, rfl, fun j hj => by omega⟩
 case round =>
  obtain ⟨k, hk, rfl, hall⟩ := hrel
  by_cases hlt : k < l.length
  ·
   obtain ⟨x, hx⟩ : ∃ x, l[k]? = some x := ⟨_, List.getElem?_eq_getElem hlt⟩
   obtain ⟨b', o, rfl, hc⟩ := hA1.at (i := k) (r := x.cs) (by rw [List.getElem?_map, hx]; rfl)
   have c0 : (w.alloc (.cells #[.slice (some ⟨b', o, none⟩) l.length ca, .slice b zn cb, .slice c ln cc] 90)).cell? ⟨b', o + k * 9, none⟩ = some (.string x.name) := hc 0 _ rfl
   clear hc
   cases hb : (x.name.toList == s.toList)
   ·
    have HR : Hid (∀ j, j < k + 1 → ∀ x, l[j]? = some x → (x.name.toList == s.toList) = false) := fun j hj y hy => by
     by_cases e : j = k
     ·
      subst e; rw [hx] at hy; obtain rfl := Option.some.inj hy; exact hb
     ·
      exact hall.out j (by omega) y hy
    generalize x.name = nm at *
    go_wp2
    go_round
    case rel => exact ⟨k + 1, by omega, by go_num, HR⟩
    case measure => simp [intOf]; omega
   ·
    have HR : Hid ((l.any fun x => x.name.toList == s.toList) = true) := any_yes hx hb
    generalize x.name = nm at *
    go_wp2
    go_ret
    exact ⟨ret_bool HR.out.symm, hB⟩
  ·
   have e : k = l.length := by omega
   subst e
   have HR : Hid ((l.any fun x => x.name.toList == s.toList) = false) := any_no hall.out
   go_wp2
   go_ret
   exact ⟨ret_bool HR.out.symm, hB⟩
end Go.Proofs.YtcelbkmnbjcjhaaGreat
namespace Go.Proofs.YtcelbkmnbjcjhaaGreat
open Go.RowKit

/-- an era, as the model asks of it. -/
def eraM (rs : List RuleD) (e : EraD) : Bool := (e.rules.toList.isEmpty || (decide (e.save = 0) && hasB rs e.rules)) && (isB e.offset (-86400) 86400 && (isB e.save (-7200) 7200 && (fmtB e.format && (isB e.until_ (-62135596800) 253402300799 && ofB e.of))))
set_option maxHeartbeats 400000 in
theorem spec_l01TimeZ (n : Int) (w : World) :
  Calls Tryz.prog 48 #[.int .i64 n] w fun e w' => e = .returned (.bool (isB n (-62135596800) 253402300799)) ∧ w' = w := by
 go_enter Tryz.func48, Tryz.ntmps48
 go_wp2_with (go_at_call 27; refine (spec_l01Is _ _ _ _).mono ?_; rintro e w' ⟨rfl, rfl⟩)
 go_ret
 exact ⟨rfl, rfl⟩
set_option maxHeartbeats 2000000 in
theorem spec_l02Era (r : RelD) (v : Value) (e : EraD) (w : World) (hv : RelAt w v r) (ok : e.ok) (hl : r.rules.length ≤ 1048576) :
  Calls Tryz.prog 81 #[v, e.v] w fun x w' => x = .returned (.bool (eraM r.rules e)) ∧ Below w.heap.size w w' := by
 have hB0 := fun o o2 => ((Below.refl w.heap.size w).alloc (Nat.le_refl _) o).alloc (by simp) o2
 have hR := fun s o o2 => spec_l02Rules r v s ((w.alloc o).alloc o2) (hv.below (hB0 o o2)) hl
 obtain ⟨a, b, c, ca, cb, cc, rfl, _, _, _⟩ := hv.form
 generalize r.rules.length = rn at *
 generalize r.zones.length = zn at *
 generalize r.links.length = ln at *
 clear hv
 obtain ⟨offset, rules, save, format, until_, of⟩ := e
 obtain ⟨k1, k2, k3⟩ := ok
 simp only [EraD.v, eraM] at *
 have h1 := fun w => spec_l01Is offset (-86400) 86400 w
 have h2 := fun w => spec_l02Save save w
 have h3 := fun w => spec_l02Format format w k2
 have h4 := fun w => spec_l01TimeZ until_ w
 have h5 := fun w => spec_l02Of of w
 have hR1 := hR rules
 clear hR
 generalize hasB r.rules rules = q at *
 generalize isB offset (-86400) 86400 = b1 at *
 generalize isB save (-7200) 7200 = b2 at *
 generalize fmtB format = b3 at *
 generalize isB until_ (-62135596800) 253402300799 = b4 at *
 generalize ofB of = b5 at *
 cases he : rules.toList.isEmpty
 ·
  by_cases hs : save = 0
  ·
   subst hs
   cases q
   ·
    go_enter Tryz.func81, Tryz.ntmps81
    go_wp2_with fail
    refine (hR1 _ _).mono ?_
    rintro e w1 ⟨rfl, hb1⟩
    go_wp2
    go_ret
    exact ⟨ret_bool (by simp), (hB0 _ _).trans (hb1.mono (by simp; omega))⟩
   ·
    go_enter Tryz.func81, Tryz.ntmps81
    go_wp2_with fail
    refine (hR1 _ _).mono ?_
    rintro e w1 ⟨rfl, hb1⟩
    obtain ⟨hc, _⟩ := bcell hb1
    have hlt : w.heap.size + 1 < w1.heap.size := by have := hb1.size; simp at this; omega
    have hB1 := (hB0 _ _).trans (hb1.mono (by simp; omega))
    go_wp2_with fail
    refine (h1 _).mono ?_
    rintro e w9 ⟨rfl, rfl⟩
    cases b1
    case false =>
     go_wp2
     go_ret
     exact ⟨ret_bool (by simp), hB1⟩
    go_wp2_with fail
    refine (h2 _).mono ?_
    rintro e w9 ⟨rfl, rfl⟩
    cases b2
    case false =>
     go_wp2
     go_ret
     exact ⟨ret_bool (by simp), hB1⟩
    go_wp2_with fail
    refine (h3 _).mono ?_
    rintro e w9 ⟨rfl, rfl⟩
    cases b3
    case false =>
     go_wp2
     go_ret
     exact ⟨ret_bool (by simp), hB1⟩
    go_wp2_with fail
    refine (h4 _).mono ?_
    rintro e w9 ⟨rfl, rfl⟩
    cases b4
    case false =>
     go_wp2
     go_ret
     exact ⟨ret_bool (by simp), hB1⟩
    go_wp2_with fail
    refine (h5 _).mono ?_
    rintro e w9 ⟨rfl, rfl⟩
    go_wp2
    go_ret
    exact ⟨ret_bool (by simp), hB1⟩
  ·
   have hs' : (save != 0) = true := by simpa using hs
   go_enter Tryz.func81, Tryz.ntmps81
   go_wp2
   go_ret
   exact ⟨ret_bool (by simp [hs]), hB0 _ _⟩
 ·
  go_enter Tryz.func81, Tryz.ntmps81
  go_wp2_with fail
  refine (h1 _).mono ?_
  rintro e w9 ⟨rfl, rfl⟩
  cases b1
  case false =>
   go_wp2
   go_ret
   exact ⟨ret_bool (by simp), hB0 _ _⟩
  go_wp2_with fail
  refine (h2 _).mono ?_
  rintro e w9 ⟨rfl, rfl⟩
  cases b2
  case false =>
   go_wp2
   go_ret
   exact ⟨ret_bool (by simp), hB0 _ _⟩
  go_wp2_with fail
  refine (h3 _).mono ?_
  rintro e w9 ⟨rfl, rfl⟩
  cases b3
  case false =>
   go_wp2
   go_ret
   exact ⟨ret_bool (by simp), hB0 _ _⟩
  go_wp2_with fail
  refine (h4 _).mono ?_
  rintro e w9 ⟨rfl, rfl⟩
  cases b4
  case false =>
   go_wp2
   go_ret
   exact ⟨ret_bool (by simp), hB0 _ _⟩
  go_wp2_with fail
  refine (h5 _).mono ?_
  rintro e w9 ⟨rfl, rfl⟩
  go_wp2
  go_ret
  exact ⟨ret_bool (by simp), hB0 _ _⟩
end Go.Proofs.YtcelbkmnbjcjhaaGreat
namespace Go.Proofs.YtcelbkmnbjcjhaaGreat
open Go.RowKit

/-- a list of texts in memory. -/
def StrsAt (w : World) (a : Option Addr) (ss : List ByteArray) : Prop :=
 ss = [] ∨ ∃ b o, a = some ⟨b, o, none⟩ ∧ ∀ i s, ss[i]? = some s → w.cell? ⟨b, o + i, none⟩ = some (.string s)
theorem StrsAt.at {w : World} {a : Option Addr} {ss : List ByteArray} (h : StrsAt w a ss) {i : Nat} {s : ByteArray} (hi : ss[i]? = some s) : ∃ b o, a = some ⟨b, o, none⟩ ∧ w.cell? ⟨b, o + i, none⟩ = some (.string s) := by
 rcases h with rfl | ⟨b, o, ha, hc⟩
 ·
  simp at hi
 ·
  exact ⟨b, o, ha, hc i s hi⟩
theorem StrsAt.below {w w' : World} {a : Option Addr} {ss : List ByteArray} (h : StrsAt w a ss) (hb : Below w.heap.size w w') : StrsAt w' a ss := by
 rcases h with h | ⟨b, o, ha, hc⟩
 ·
  exact .inl h
 ·
  exact .inr ⟨b, o, ha, fun i s hi => by
   have := hc i s hi
   rw [(bcell hb).1 _ _ (World.block_lt_of_cell? _ _ this)]; exact this⟩
theorem StrsAt.take {w : World} {a : Option Addr} {ss : List ByteArray} (h : StrsAt w a ss) (n : Nat) : StrsAt w a (ss.take n) := by
 rcases h with rfl | ⟨b, o, ha, hc⟩
 ·
  exact .inl (by simp)
 ·
  exact .inr ⟨b, o, ha, fun i s hi => hc i s (by rw [List.getElem?_take] at hi; split at hi <;> simp_all)⟩
def inB (ss : List ByteArray) (t : ByteArray) : Bool := ss.any fun s => s.toList == t.toList
set_option maxHeartbeats 2000000 in
theorem spec_l02In (l : List ByteArray) (a : Option Addr) (cap : Nat) (t : ByteArray) (w : World) (hA : StrsAt w a l) (hl : l.length ≤ 1048576) :
  Calls Tryz.prog 70 #[.slice a l.length cap, .string t] w fun e w' => e = .returned (.bool (inB l t)) ∧ w' = w := by
 unfold inB
 go_enter Tryz.func70, Tryz.ntmps70
 go_wp2
 go_loop [5] (fun i => ∃ k : Nat, k ≤ l.length ∧ i = .int .i64 k ∧ Hid (∀ j, j < k → ∀ x, l[j]? = some x → (x.toList == t.toList) = false)) (fun i => l.length - (intOf i).toNat)
 case atStart => exact ⟨0, by omega, rfl, fun j hj => by omega⟩
 case round =>
  obtain ⟨k, hk, rfl, hall⟩ := hrel
  by_cases hlt : k < l.length
  ·
   obtain ⟨x, hx⟩ : ∃ x, l[k]? = some x := ⟨_, List.getElem?_eq_getElem hlt⟩
   obtain ⟨b, o, rfl, c0⟩ := hA.at hx
   cases hb : (x.toList == t.toList)
   ·
    have HR : Hid (∀ j, j < k + 1 → ∀ x, l[j]? = some x → (x.toList == t.toList) = false) := fun j hj y hy => by
     by_cases e : j = k
     ·
      subst e; rw [hx] at hy; obtain rfl := Option.some.inj hy; exact hb
     ·
      exact hall.out j (by omega) y hy
    go_wp2
    go_round
    case rel => exact ⟨k + 1, by omega, by go_num, HR⟩
    case measure => simp [intOf]; omega
   ·
    have HR : Hid ((l.any fun x => x.toList == t.toList) = true) := any_yes hx hb
    go_wp2
    go_ret
    exact ⟨ret_bool HR.out.symm, rfl⟩
  ·
   have e : k = l.length := by omega
   subst e
   have HR : Hid ((l.any fun x => x.toList == t.toList) = false) := any_no hall.out
   go_wp2
   go_ret
   exact ⟨ret_bool HR.out.symm, rfl⟩
end Go.Proofs.YtcelbkmnbjcjhaaGreat
namespace Go.Proofs.YtcelbkmnbjcjhaaGreat
open Go.RowKit

end Go.Proofs.YtcelbkmnbjcjhaaGreat
namespace Go.Proofs.YtcelbkmnbjcjhaaGreat
open Go.RowKit

/-- is there a zone of a name? -/
def hasZ (l : List ZoneD) (s : ByteArray) : Bool := l.any fun x => x.name.toList == s.toList
end Go.Proofs.YtcelbkmnbjcjhaaGreat
namespace Go.Proofs.YtcelbkmnbjcjhaaGreat
open Go.RowKit

end Go.Proofs.YtcelbkmnbjcjhaaGreat
namespace Go.Proofs.YtcelbkmnbjcjhaaGreat
open Go.RowKit

/-- the rules of an era are there, if it names some. -/
def thereB (rs : List RuleD) (e : EraD) : Bool := e.rules.toList.isEmpty || hasB rs e.rules
end Go.Proofs.YtcelbkmnbjcjhaaGreat
namespace Go.Proofs.YtcelbkmnbjcjhaaGreat
open Go.RowKit

theorem hasB_name {rs : List RuleD} {s : ByteArray} (hr : rs.all ruleB = true) (h : hasB rs s = true) : nameB s = true := by
 unfold hasB at h
 obtain ⟨x, hx, he⟩ := List.any_eq_true.mp h
 have h1 := List.all_eq_true.mp hr x hx
 unfold ruleB at h1
 simp only [Bool.and_eq_true] at h1
 have e : x.name = s := toList_inj (beq_iff_eq.mp he)
 rw [← e]; exact h1.1
theorem era_same {rs : List RuleD} (hr : rs.all ruleB = true) (e : EraD) : (eraP e = true ∧ thereB rs e = true) ↔ eraM rs e = true := by
 unfold eraP thereB eraM erB isB
 cases he : e.rules.toList.isEmpty
 ·
  cases hh : hasB rs e.rules
  ·
   simp
  ·
   have hn := hasB_name hr hh
   rw [hn]
   simp only [Bool.and_eq_true, decide_eq_true_eq, Bool.or_eq_true, Bool.false_eq_true, if_false, false_or, true_and, and_true]
   constructor
   ·
    rintro ⟨a, b, c, d, f, g, h⟩
    exact ⟨c, ⟨a, b⟩, by omega, d, ⟨f, g⟩, h⟩
   ·
    rintro ⟨c, ⟨a, b⟩, _, d, ⟨f, g⟩, h⟩
    exact ⟨a, b, c, d, f, g, h⟩
 ·
  simp only [Bool.and_eq_true, decide_eq_true_eq, Bool.or_eq_true, if_true, true_or, true_and, and_true]
  constructor
  ·
   rintro ⟨a, b, c, d, f, g, h⟩
   exact ⟨⟨a, b⟩, c, d, ⟨f, g⟩, h⟩
  ·
   rintro ⟨⟨a, b⟩, c, d, ⟨f, g⟩, h⟩
   exact ⟨a, b, c, d, f, g, h⟩
/-- what is asked of the era at a place. -/
structure StepM (rs : List RuleD) (es : List EraD) (k : Nat) (e : EraD) : Prop where
 era : eraM rs e = true
 up : ∀ j p, k = j + 1 → es[j]? = some p → p.until_ < e.until_
 last : e.until_ = 253402300799 ↔ k + 1 = es.length
 of : k + 1 = es.length → e.of.toList = [119]
structure ZoneM (rs : List RuleD) (z : ZoneD) : Prop where
 name : nameB z.name = true
 len : 1 ≤ z.eras.length ∧ z.eras.length ≤ 8
 steps : ∀ k e, z.eras[k]? = some e → StepM rs z.eras k e
theorem up_of {es : List EraD} (h : upB es = true) {i : Nat} {x y : EraD} (hx : es[i]? = some x) (hy : es[i + 1]? = some y) : x.until_ < y.until_ := by
 by_cases hn : x.until_ < y.until_
 ·
  exact hn
 ·
  rw [up_no hx hy hn] at h; cases h
theorem eraM_until {rs : List RuleD} {e : EraD} (h : eraM rs e = true) : e.until_ ≤ 253402300799 := by
 unfold eraM isB at h
 simp only [Bool.and_eq_true, decide_eq_true_eq] at h
 exact h.2.2.2.2.1.2
theorem zone_same {rs : List RuleD} (hr : rs.all ruleB = true) (z : ZoneD) : (zoneP z = true ∧ z.eras.all (thereB rs) = true) ↔ ZoneM rs z := by
 obtain ⟨nm, es⟩ := z
 unfold zoneP
 simp only [Bool.and_eq_true, decide_eq_true_eq]
 constructor
 ·
  rintro ⟨⟨h1, h2, h3, h4, h5⟩, h6⟩
  have hE : ∀ k e, es[k]? = some e → eraM rs e = true := fun k e hk => (era_same hr e).mp ⟨List.all_eq_true.mp h3 e (List.mem_of_getElem? hk), List.all_eq_true.mp h6 e (List.mem_of_getElem? hk)⟩
  have hla : ∀ k e, es[k]? = some e → k + 1 = es.length → e.until_ = 253402300799 ∧ e.of.toList = [119] := by
   intro k e hk hl
   unfold laB2 at h5
   rw [show es.length - 1 = k by omega, hk] at h5
   simp only [Bool.and_eq_true, beq_iff_eq] at h5
   exact h5
  refine ⟨h1, h2, fun k e hk => ⟨hE k e hk, ?_, ⟨fun hu => ?_, fun hl => (hla k e hk hl).1⟩, fun hl => (hla k e hk hl).2⟩⟩
  ·
   rintro j p rfl hp
   exact up_of h4 hp hk
  ·
   have hkl : k < es.length := (List.getElem?_eq_some_iff.mp hk).1
   by_cases hl : k + 1 = es.length
   ·
    exact hl
   ·
    obtain ⟨y, hy⟩ : ∃ y, es[k + 1]? = some y := ⟨_, List.getElem?_eq_getElem (by omega)⟩
    have := up_of h4 hk hy
    have := eraM_until (hE _ y hy)
    omega
 ·
  rintro ⟨h1, h2, hs⟩
  simp only at h1 h2 hs
  have hE : ∀ e ∈ es, eraP e = true ∧ thereB rs e = true := fun e he => by
   obtain ⟨k, hk⟩ := List.getElem?_of_mem he
   exact (era_same hr e).mpr (hs k e hk).era
  refine ⟨⟨h1, h2, List.all_eq_true.mpr fun e he => (hE e he).1, up_yes fun i x y hx hy => (hs _ y hy).up i x rfl hx, ?_⟩, List.all_eq_true.mpr fun e he => (hE e he).2⟩
  obtain ⟨y, hy⟩ : ∃ y, es[es.length - 1]? = some y := ⟨_, List.getElem?_eq_getElem (by omega)⟩
  have hS := hs _ y hy
  unfold laB2
  rw [hy]
  simp only [Bool.and_eq_true, beq_iff_eq]
  exact ⟨hS.last.mpr (by omega), hS.of (by omega)⟩
end Go.Proofs.YtcelbkmnbjcjhaaGreat
namespace Go.Proofs.YtcelbkmnbjcjhaaGreat
open Go.RowKit

def stepMB (rs : List RuleD) (es : List EraD) (k : Nat) (e : EraD) : Bool :=
 eraM rs e && ((k == 0) || (match es[k - 1]? with | some p => decide (p.until_ < e.until_) | none => true)) && (decide (e.until_ = 253402300799) == decide (k + 1 = es.length)) && (!decide (k + 1 = es.length) || e.of.toList == [119])
theorem stepMB_iff {rs : List RuleD} {es : List EraD} {k : Nat} {e : EraD} : stepMB rs es k e = true ↔ StepM rs es k e := by
 unfold stepMB
 simp only [Bool.and_eq_true, Bool.or_eq_true, beq_iff_eq, Bool.not_eq_true', decide_eq_false_iff_not, decide_eq_decide]
 constructor
 ·
  rintro ⟨⟨⟨h1, h2⟩, h3⟩, h4⟩
  refine ⟨h1, ?_, h3, ?_⟩
  ·
   rintro j p rfl hp
   rcases h2 with h2 | h2
   ·
    omega
   ·
    rw [show j + 1 - 1 = j by omega, hp] at h2
    exact of_decide_eq_true h2
  ·
   intro hk
   rcases h4 with h4 | h4
   ·
    exact absurd hk h4
   ·
    exact h4
 ·
  rintro ⟨h1, h2, h3, h4⟩
  refine ⟨⟨⟨h1, ?_⟩, h3⟩, ?_⟩
  ·
   by_cases hk : k = 0
   ·
    exact .inl hk
   ·
    refine .inr ?_
    cases hp : es[k - 1]? with
    | none => rfl
    | some p => exact decide_eq_true (h2 (k - 1) p (by omega) hp)
  ·
   by_cases hk : k + 1 = es.length
   ·
    exact .inr (h4 hk)
   ·
    exact .inl hk
def zoneMB (rs : List RuleD) (z : ZoneD) : Bool :=
 nameB z.name && decide (1 ≤ z.eras.length ∧ z.eras.length ≤ 8) && (List.range z.eras.length).all fun k => match z.eras[k]? with | some e => stepMB rs z.eras k e | none => true
theorem zoneMB_iff {rs : List RuleD} {z : ZoneD} : zoneMB rs z = true ↔ ZoneM rs z := by
 unfold zoneMB
 simp only [Bool.and_eq_true, decide_eq_true_eq, List.all_eq_true, List.mem_range]
 constructor
 ·
  rintro ⟨⟨h1, h2⟩, h3⟩
  refine ⟨h1, h2, fun k e hk => ?_⟩
  have := h3 k (List.getElem?_eq_some_iff.mp hk).1
  rw [hk] at this
  exact stepMB_iff.mp this
 ·
  rintro ⟨h1, h2, h3⟩
  refine ⟨⟨h1, h2⟩, fun k hk => ?_⟩
  cases he : z.eras[k]? with
  | none => rfl
  | some e => exact stepMB_iff.mpr (h3 k e he)
theorem zoneM_no {rs : List RuleD} {z : ZoneD} (h : ¬ ZoneM rs z) : zoneMB rs z = false := by
 cases hb : zoneMB rs z
 ·
  rfl
 ·
  exact absurd (zoneMB_iff.mp hb) h
theorem zoneM_yes {rs : List RuleD} {z : ZoneD} (h : ZoneM rs z) : zoneMB rs z = true := zoneMB_iff.mpr h
end Go.Proofs.YtcelbkmnbjcjhaaGreat
namespace Go.Proofs.YtcelbkmnbjcjhaaGreat
open Go.RowKit

theorem hasZ_name {zs : List ZoneD} {s : ByteArray} (hz : ∀ z ∈ zs, nameB z.name = true) (h : hasZ zs s = true) : nameB s = true := by
 unfold hasZ at h
 obtain ⟨x, hx, he⟩ := List.any_eq_true.mp h
 rw [← toList_inj (beq_iff_eq.mp he)]
 exact hz x hx
theorem links_same {zs : List ZoneD} {ls : List LinkD} (hz : ∀ z ∈ zs, nameB z.name = true) : (ls.all linkB = true ∧ (ls.all fun x => hasZ zs x.to_) = true) ↔ ∀ x ∈ ls, nameB x.name = true ∧ hasZ zs x.to_ = true := by
 simp only [List.all_eq_true]
 unfold linkB
 simp only [Bool.and_eq_true]
 constructor
 ·
  rintro ⟨h1, h2⟩ x hx
  exact ⟨(h1 x hx).2, h2 x hx⟩
 ·
  intro h
  exact ⟨fun x hx => ⟨hasZ_name hz (h x hx).2, (h x hx).1⟩, fun x hx => (h x hx).2⟩
/-- the zones of a release, where its rules are right: what the program asks is what the model asks. -/
theorem zones_same {rs : List RuleD} {zs : List ZoneD} (hr : rs.all ruleB = true) : (zs.all zoneP = true ∧ (zs.all fun z => z.eras.all (thereB rs)) = true) ↔ ∀ z ∈ zs, ZoneM rs z := by
 simp only [List.all_eq_true (l := zs)]
 exact ⟨fun h z hz => (zone_same hr z).mp ⟨h.1 z hz, h.2 z hz⟩, fun h => ⟨fun z hz => ((zone_same hr z).mpr (h z hz)).1, fun z hz => ((zone_same hr z).mpr (h z hz)).2⟩⟩
end Go.Proofs.YtcelbkmnbjcjhaaGreat
