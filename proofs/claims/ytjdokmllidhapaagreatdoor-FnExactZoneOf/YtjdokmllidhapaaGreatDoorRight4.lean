/- What is asked of an era and of a link: the program's. -/
import Derived.Test.YtjdokmllidhapaaGreatDoorRight3
import Derived.Test.YtjdokmllidhapaaGreatDoorRelEra
import Derived.Test.YtjdokmllidhapaaGreatDoorRelLink
namespace Go.Proofs.YtjdokmllidhapaaGreatDoor
open Go.RowKit

/-- a save, or the rules' name. -/
def erB (e : EraD) : Bool := if e.rules.toList.isEmpty = true then isB e.save (-7200) 7200 else nameB e.rules && decide (e.save = 0)
set_option maxHeartbeats 1000000 in
theorem impl_eraRulesRight (e : EraD) (w : World) (ok : e.ok) :
    Calls Tryz.prog 208 #[e.v] w fun x w' => x = .returned (.bool (erB e)) ∧ Below w.heap.size w w' := by
  obtain ⟨offset, rules, save, format, until_, of⟩ := e
  obtain ⟨k1, k2, k3⟩ := ok
  simp only [EraD.v, erB] at *
  have h1 := fun w => impl_saveRight save w
  have h2 := fun w => impl_NameRight rules w k1
  generalize isB save (-7200) 7200 = b1 at *
  generalize nameB rules = b2 at *
  cases he : rules.toList.isEmpty
  · simp only [Bool.false_eq_true, if_false]
    go_enter Tryz.func208, Tryz.ntmps208
    go_wp2_with fail
    refine (h2 _).mono ?_
    rintro e w1 ⟨rfl, rfl⟩
    cases b2
    · go_wp2
      go_ret
      exact ⟨ret_bool (by simp), (Below.refl _ _).alloc (Nat.le_refl _) _⟩
    · go_wp2
      go_ret
      exact ⟨ret_bool (by simp; rfl), (Below.refl _ _).alloc (Nat.le_refl _) _⟩
  · simp only [if_true]
    go_enter Tryz.func208, Tryz.ntmps208
    go_wp2_with fail
    refine (h1 _).mono ?_
    rintro e w1 ⟨rfl, rfl⟩
    go_wp2
    go_ret
    exact ⟨rfl, (Below.refl _ _).alloc (Nat.le_refl _) _⟩
def eraP (e : EraD) : Bool := decide (-86400 ≤ e.offset) && (decide (e.offset ≤ 86400) && (erB e && (fmtB e.format && (decide (-62135596800 ≤ e.until_) && (decide (e.until_ ≤ 253402300799) && ofB e.of)))))
set_option maxHeartbeats 400000 in
theorem impl_isTimeR (n : Int) (w : World) :
    Calls Tryz.prog 210 #[.int .i64 n] w fun e w' => e = .returned (.bool (isB n (-62135596800) 253402300799)) ∧ w' = w := by
  by_cases h : -62135596800 ≤ n
  · go_enter Tryz.func210, Tryz.ntmps210
    go_wp2
    go_ret
    exact ⟨ret_bool (by unfold isB; simp [h]), rfl⟩
  · go_enter Tryz.func210, Tryz.ntmps210
    go_wp2
    go_ret
    exact ⟨ret_bool (isB_f (by omega)).symm, rfl⟩
set_option maxHeartbeats 1000000 in
theorem impl_eraRight (e : EraD) (w : World) (ok : e.ok) :
    Calls Tryz.prog 139 #[e.v] w fun x w' => x = .returned (.bool (eraP e)) ∧ Below w.heap.size w w' := by
  have h1 := fun w => impl_eraRulesRight e w ok
  unfold eraP
  generalize erB e = b1 at *
  obtain ⟨offset, rules, save, format, until_, of⟩ := e
  obtain ⟨k1, k2, k3⟩ := ok
  simp only [EraD.v] at *
  have h2 := fun w => impl_formatRight format w k2
  have h3 := fun w => impl_ofRight of w
  have h4 := fun w => impl_isTimeR until_ w
  generalize fmtB format = b2 at *
  generalize ofB of = b3 at *
  have hB0 := fun o => (Below.refl w.heap.size w).alloc (Nat.le_refl _) o
  go_enter Tryz.func139, Tryz.ntmps139
  by_cases g1 : -86400 ≤ offset
  case neg =>
    go_wp2
    go_ret
    exact ⟨ret_bool (by simp; intros; omega), hB0 _⟩
  by_cases g2 : offset ≤ 86400
  case neg =>
    go_wp2
    go_ret
    exact ⟨ret_bool (by simp; intros; omega), hB0 _⟩
  go_wp2_with fail
  refine (h1 _).mono ?_
  rintro e w1 ⟨rfl, hb1⟩
  obtain ⟨hc, _⟩ := bcell hb1
  have hlt : w.heap.size < w1.heap.size := by have := hb1.size; simp at this; omega
  have hB1 := (hB0 _).trans (hb1.mono (by simp))
  cases b1
  case false =>
    go_wp2
    go_ret
    exact ⟨ret_bool (by simp), hB1⟩
  go_wp2_with fail
  refine (h2 _).mono ?_
  rintro e w9 ⟨rfl, rfl⟩
  cases b2
  case false =>
    go_wp2
    go_ret
    exact ⟨ret_bool (by simp), hB1⟩
  by_cases g34 : -62135596800 ≤ until_ ∧ until_ ≤ 253402300799
  case neg =>
    rw [isB_f g34] at h4
    go_wp2_with fail
    refine (h4 _).mono ?_
    rintro e w8 ⟨rfl, rfl⟩
    go_wp2
    go_ret
    exact ⟨ret_bool (by simp; intros; omega), hB1⟩
  rw [isB_t g34.1 g34.2] at h4
  obtain ⟨g3, g4⟩ := g34
  go_wp2_with fail
  refine (h4 _).mono ?_
  rintro e w8 ⟨rfl, rfl⟩
  go_wp2_with fail
  refine (h3 _).mono ?_
  rintro e w9 ⟨rfl, rfl⟩
  go_wp2
  go_ret
  exact ⟨ret_bool (by simp [*]), hB1⟩
def linkB (l : LinkD) : Bool := nameB l.to_ && nameB l.name
set_option maxHeartbeats 1000000 in
theorem impl_linkRight (l : LinkD) (w : World) (ok : l.ok) :
    Calls Tryz.prog 74 #[l.v] w fun x w' => x = .returned (.bool (linkB l)) ∧ Below w.heap.size w w' := by
  obtain ⟨to_, name⟩ := l
  obtain ⟨k1, k2⟩ := ok
  simp only [LinkD.v, linkB] at *
  have h1 := fun w => impl_NameRight to_ w k1
  have h2 := fun w => impl_NameRight name w k2
  generalize nameB to_ = b1 at *
  generalize nameB name = b2 at *
  go_enter Tryz.func74, Tryz.ntmps74
  go_wp2_with fail
  refine (h1 _).mono ?_
  rintro e w1 ⟨rfl, rfl⟩
  cases b1
  case false =>
    go_wp2
    go_ret
    exact ⟨ret_bool (by simp), (Below.refl _ _).alloc (Nat.le_refl _) _⟩
  go_wp2_with fail
  refine (h2 _).mono ?_
  rintro e w1 ⟨rfl, rfl⟩
  go_wp2
  go_ret
  exact ⟨ret_bool (by simp), (Below.refl _ _).alloc (Nat.le_refl _) _⟩
end Go.Proofs.YtjdokmllidhapaaGreatDoor
