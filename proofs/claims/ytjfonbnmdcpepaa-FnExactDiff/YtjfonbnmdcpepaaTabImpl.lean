/- Is a table right: the program's. -/
import Derived.Test.YtjfonbnmdcpepaaTabMath
import Derived.Laws.EntriesVeiled
namespace Go.Proofs.Ytjfonbnmdcpepaa
open Go.RowKit

set_option maxHeartbeats 400000 in
theorem impl_saveRightT (n : Int) (w : World) :
    Calls Try.prog 77 #[.int .i64 n] w fun e w' => e = .returned (.bool (isB n (-7200) 7200)) ∧ w' = w := by
  by_cases h : -7200 ≤ n
  · go_enter Try.func77, Try.ntmps77
    go_wp2
    go_ret
    exact ⟨ret_bool (by unfold isB; simp [h]), rfl⟩
  · go_enter Try.func77, Try.ntmps77
    go_wp2
    go_ret
    exact ⟨ret_bool (isB_f (by omega)).symm, rfl⟩
set_option maxHeartbeats 400000 in
theorem spec_l02SaveT (n : Int) (w : World) :
    Calls Try.prog 49 #[.int .i64 n] w fun e w' => e = .returned (.bool (isB n (-7200) 7200)) ∧ w' = w := by
  go_enter Try.func49, Try.ntmps49
  go_wp2_with (go_at_call 48; refine (spec_l01Is _ _ _ _).mono ?_; rintro e w' ⟨rfl, rfl⟩)
  go_ret
  exact ⟨rfl, rfl⟩
set_option maxHeartbeats 1000000 in
theorem impl_turnRight (t : TurnD) (w : World) (ok : t.ok) :
    Calls Try.prog 47 #[t.v] w fun e w' => e = .returned (.bool (turnB t)) ∧ Below w.heap.size w w' := by
  obtain ⟨at_, offset, save, abbr⟩ := t
  unfold TurnD.ok maxLen at ok
  have hS := fun w => impl_saveRightT save w
  have N1 := @turn_no1 ⟨at_, offset, save, abbr⟩
  have N2 := @turn_no2 ⟨at_, offset, save, abbr⟩
  have N3 := @turn_no3 ⟨at_, offset, save, abbr⟩
  have Y := @turn_yes ⟨at_, offset, save, abbr⟩
  generalize turnB ⟨at_, offset, save, abbr⟩ = b at *
  simp only [TurnD.v] at *
  by_cases h1 : -100000 ≤ offset
  · by_cases h2 : offset ≤ 100000
    · have h12 := isB_t h1 h2
      cases h3 : isB save (-7200) 7200
      · have HR : Hid (b = false) := N2 h3
        rw [h3] at hS
        clear N1 N2 N3 Y h12 h3
        go_enter Try.func47, Try.ntmps47
        go_wp2_with (go_at_call 77; refine (hS _).mono ?_; rintro e w' ⟨rfl, rfl⟩)
        go_ret
        exact ⟨ret_bool HR.out.symm, (Below.refl _ _).alloc (Nat.le_refl _) _⟩
      · rw [h3] at hS
        have HR : Hid (b = decide (abbr.size ≤ 20)) := by
          by_cases h4 : abbr.size ≤ 20
          · exact (Y h12 h3 h4).trans (decide_eq_true h4).symm
          · exact (N3 h4).trans (decide_eq_false h4).symm
        clear N1 N2 N3 Y h12 h3
        go_enter Try.func47, Try.ntmps47
        go_wp2_with (go_at_call 77; refine (hS _).mono ?_; rintro e w' ⟨rfl, rfl⟩)
        go_ret
        exact ⟨ret_bool (by rw [HR.out]; simp; omega), (Below.refl _ _).alloc (Nat.le_refl _) _⟩
    · have HR : Hid (b = false) := N1 (isB_f (by simp; omega))
      clear N1 N2 N3 Y
      go_enter Try.func47, Try.ntmps47
      go_wp2_with (go_at_call 77; refine (hS _).mono ?_; rintro e w' ⟨rfl, rfl⟩)
      go_ret
      exact ⟨ret_bool HR.out.symm, (Below.refl _ _).alloc (Nat.le_refl _) _⟩
  · have HR : Hid (b = false) := N1 (isB_f (by simp; omega))
    clear N1 N2 N3 Y
    go_enter Try.func47, Try.ntmps47
    go_wp2_with (go_at_call 77; refine (hS _).mono ?_; rintro e w' ⟨rfl, rfl⟩)
    go_ret
    exact ⟨ret_bool HR.out.symm, (Below.refl _ _).alloc (Nat.le_refl _) _⟩
theorem allT_no {α : Type} {l : List α} {p : α → Bool} {k : Nat} {x : α} (hk : l[k]? = some x) (h : p x = false) : l.all p = false := by
  rw [List.all_eq_false]
  exact ⟨x, List.mem_of_getElem? hk, by simp [h]⟩
theorem allT_yes {α : Type} {l : List α} {p : α → Bool} (h : ∀ j, j < l.length → ∀ x, l[j]? = some x → p x = true) : l.all p = true := by
  rw [List.all_eq_true]
  intro x hx
  obtain ⟨j, hj⟩ := List.getElem?_of_mem hx
  exact h j (List.getElem?_eq_some_iff.mp hj).1 x hj
set_option maxHeartbeats 2000000 in
theorem impl_allTurn (l : List TurnD) (a : Option Addr) (cap : Nat) (w : World) (hA : SeqAt w a 4 (l.map TurnD.cs)) (hok : ∀ r ∈ l, r.ok) (hl : l.length ≤ 1048576) :
    Calls Try.prog 46 #[.slice a l.length cap, .func (.func 47) #[] #[]] w fun e w' => e = .returned (.bool (l.all turnB)) ∧ Below w.heap.size w w' := by
  go_enter Try.func46, Try.ntmps46
  go_wp2
  go_loopw [9] (fun i wr => ∃ k : Nat, k ≤ l.length ∧ i = .int .i64 k ∧ Hid (∀ j, j < k → ∀ x, l[j]? = some x → turnB x = true) ∧ Below w.heap.size w wr) (fun i _ => l.length - (intOf i).toNat)
  case atStart => exact ⟨0, by omega, rfl, fun j hj => by omega, Below.refl _ _⟩
  case round =>
    obtain ⟨k, hk, rfl, hall, hB⟩ := hrel
    by_cases hlt : k < l.length
    · obtain ⟨r, hr⟩ : ∃ r, l[k]? = some r := ⟨_, List.getElem?_eq_getElem hlt⟩
      have hrow : (l.map TurnD.cs)[k]? = some r.cs := by rw [List.getElem?_map, hr]; rfl
      obtain ⟨b, o, rfl, hc⟩ := (hA.below hB).at (i := k) hrow
      have ok := hok r (List.mem_of_getElem? hr)
      have hS := fun w => impl_turnRight r w ok
      have c0 : wr.cell? ⟨b, o + k * 4, none⟩ = some (.int .i64 r.at_) := hc 0 _ rfl
      have c1 := hc 1 _ rfl
      have c2 := hc 2 _ rfl
      have c3 := hc 3 _ rfl
      clear hc
      unfold TurnD.v at hS
      cases hb : turnB r
      · have HR : Hid (l.all turnB = false) := allT_no hr hb
        rw [hb] at hS
        clear hb
        go_wp2_with fail
        refine (hS _).mono ?_
        rintro e w2 ⟨rfl, hb2⟩
        go_wp2
        go_ret
        exact ⟨ret_bool HR.out.symm, (hB.alloc hB.size _).trans (hb2.mono (by simp; have := hB.size; omega))⟩
      · have HR : Hid (∀ j, j < k + 1 → ∀ x, l[j]? = some x → turnB x = true) := fun j hj x hx => by
          by_cases e : j = k
          · subst e; rw [hr] at hx; obtain rfl := Option.some.inj hx; exact hb
          · exact hall.out j (by omega) x hx
        rw [hb] at hS
        clear hb
        go_wp2_with fail
        refine (hS _).mono ?_
        rintro e w2 ⟨rfl, hb2⟩
        go_wp2
        go_roundw
        case rel => exact ⟨k + 1, by omega, by go_num, HR, (hB.alloc hB.size _).trans (hb2.mono (by simp; have := hB.size; omega))⟩
        case measure => simp [intOf]; omega
    · have e : k = l.length := by omega
      subst e
      have HR : Hid (l.all turnB = true) := allT_yes hall.out
      go_wp2
      go_ret
      exact ⟨ret_bool HR.out.symm, hB⟩
set_option maxRecDepth 20000 in
set_option maxHeartbeats 2000000 in
theorem impl_TableRight (l : List TurnD) (v : Value) (w : World) (hv : TabAt w v l) (hok : ∀ r ∈ l, r.ok) (hl : l.length ≤ 1048576) :
    Calls Try.prog 13 #[v] w fun e w' => e = .returned (.bool (tabB l)) ∧ Below w.heap.size w w' := by
  obtain ⟨a, cap, rfl, hA⟩ := hv
  have hB0 := fun o => (Below.refl w.heap.size w).alloc (Nat.le_refl _) o
  by_cases hl0 : l.length < 1
  · rw [tab_no1 (by omega)]
    go_enter Try.func13, Try.ntmps13
    go_wp2
    go_ret
    exact ⟨rfl, hB0 _⟩
  by_cases hl8 : 600 < l.length
  · rw [tab_no1 (by omega)]
    go_enter Try.func13, Try.ntmps13
    go_wp2
    go_ret
    exact ⟨rfl, hB0 _⟩
  have h2 := fun w (h : SeqAt w a 4 (l.map TurnD.cs)) => impl_allTurn l a cap w h hok (by omega)
  cases ha : l.all turnB
  · rw [tab_no2 ha]
    rw [ha] at h2
    clear ha
    go_enter Try.func13, Try.ntmps13
    go_wp2_with fail
    refine (h2 _ (hA.below (hB0 _))).mono ?_
    rintro e w1 ⟨rfl, hb1⟩
    go_wp2
    go_ret
    exact ⟨rfl, (hB0 _).trans (hb1.mono (by simp))⟩
  rw [ha] at h2
  have HZ : Hid (upT l = true → tabB l = endsT l) := fun h => tab_ends (by omega) ha h
  have HN : Hid (upT l = false → tabB l = false) := fun h => tab_no3 h
  clear ha
  generalize tabB l = zb at *
  go_enter Try.func13, Try.ntmps13
  go_wp2_with fail
  refine (h2 _ (hA.below (hB0 _))).mono ?_
  rintro e w1 ⟨rfl, hb1⟩
  obtain ⟨hc, _⟩ := bcell hb1
  have hB1 := (hB0 _).trans (hb1.mono (by simp))
  have x1 : w1.cell? ⟨w.heap.size, 0, none⟩ = some (.slice a l.length cap) := (hc _ _ (by simp)).trans (by simp [go_sem])
  have hA1 := hA.below hB1
  clear hc hb1 h2
  obtain ⟨n, hlen⟩ : ∃ n, l.length = n + 1 := ⟨l.length - 1, by omega⟩
  go_wp2
  go_loopw [22] (fun i wr => ∃ k : Nat, k ≤ n ∧ i = .int .i64 k ∧ Hid (∀ j, j < k → ∀ x y, l[j]? = some x → l[j + 1]? = some y → x.at_ < y.at_) ∧ Below w1.heap.size w1 wr) (fun i _ => n - (intOf i).toNat)
  case atStart => exact ⟨0, by omega, rfl, fun j hj => by omega, Below.refl _ _⟩
  case round =>
    obtain ⟨k, hk, rfl, hall, hB⟩ := hrel
    have y1 : wr.cell? ⟨w.heap.size, 0, none⟩ = some (.slice a l.length cap) := by rw [(bcell hB).1 _ _ (World.block_lt_of_cell? _ _ x1)]; exact x1
    have hBB := hB1.trans (hB.mono hB1.size)
    by_cases hlt : k < n
    · obtain ⟨r, hr⟩ : ∃ r, l[k]? = some r := ⟨_, List.getElem?_eq_getElem (by omega)⟩
      obtain ⟨r2, hr2⟩ : ∃ r, l[k + 1]? = some r := ⟨_, List.getElem?_eq_getElem (by omega)⟩
      obtain ⟨b, o, rfl, hc⟩ := (hA1.below hB).at (i := k) (r := r.cs) (by rw [List.getElem?_map, hr]; rfl)
      obtain ⟨b', o', he, hd⟩ := (hA1.below hB).at (i := k + 1) (r := r2.cs) (by rw [List.getElem?_map, hr2]; rfl)
      injection he with he
      injection he with e1 e2
      subst e1 e2
      have c4 : wr.cell? ⟨b, o + k * 4, none⟩ = some (.int .i64 r.at_) := hc 0 _ rfl
      have d4 : wr.cell? ⟨b, o + (k + 1) * 4, none⟩ = some (.int .i64 r2.at_) := hd 0 _ rfl
      clear hc hd
      by_cases hu : r.at_ < r2.at_
      · have HR : Hid (∀ j, j < k + 1 → ∀ x y, l[j]? = some x → l[j + 1]? = some y → x.at_ < y.at_) := fun j hj x y hx hy => by
          by_cases e : j = k
          · subst e; rw [hr] at hx; rw [hr2] at hy; obtain rfl := Option.some.inj hx; obtain rfl := Option.some.inj hy; exact hu
          · exact hall.out j (by omega) x y hx hy
        go_wp2_with fail
        go_quiet (fail)
        go_wp2
        go_roundw
        case rel => exact ⟨k + 1, by omega, by go_num, HR, below_drewN hB _⟩
        case measure => simp [intOf]; omega
      · have HR : Hid (zb = false) := HN.out (upT_no hr hr2 hu)
        go_wp2_with fail
        go_quiet (fail)
        go_wp2
        go_ret
        exact ⟨ret_bool HR.out.symm, below_drewN hBB _⟩
    · have e : k = n := by omega
      subst e
      obtain ⟨r, hr⟩ : ∃ r, l[k]? = some r := ⟨_, List.getElem?_eq_getElem (by omega)⟩
      obtain ⟨f, hf⟩ : ∃ r, l[0]? = some r := ⟨_, List.getElem?_eq_getElem (by omega)⟩
      obtain ⟨b, o, rfl, hc⟩ := (hA1.below hB).at (i := k) (r := r.cs) (by rw [List.getElem?_map, hr]; rfl)
      obtain ⟨b', o', he, hd⟩ := (hA1.below hB).at (i := 0) (r := f.cs) (by rw [List.getElem?_map, hf]; rfl)
      injection he with he
      injection he with e1 e2
      subst e1 e2
      have c4 : wr.cell? ⟨b, o + k * 4, none⟩ = some (.int .i64 r.at_) := hc 0 _ rfl
      have d4 : wr.cell? ⟨b, o, none⟩ = some (.int .i64 f.at_) := by simpa using hd 0 _ rfl
      clear hc hd
      have HR : Hid (zb = ((f.at_ == -62135596800) && decide (r.at_ ≤ 253402300799))) := by
        simp only [Hid]
        rw [HZ.out (upT_yes fun i x y hx hy => hall.out i (by have := (List.getElem?_eq_some_iff.mp hy).1; omega) x y hx hy)]
        exact ends_of hlen hf hr
      cases g : (f.at_ == -62135596800)
      · rw [g] at HR
        go_wp2
        go_ret
        exact ⟨ret_bool HR.out.symm, hBB⟩
      · rw [g] at HR
        go_wp2
        go_ret
        exact ⟨ret_bool (by rw [HR.out]; simp), hBB⟩
end Go.Proofs.Ytjfonbnmdcpepaa
