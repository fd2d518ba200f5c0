/- What is asked of a zone: the program's. -/
import Derived.Test.YtjdokmllidhapaaGreatDoorRight5
import Derived.Test.YtjdokmllidhapaaGreatDoorRelZone
namespace Go.Proofs.YtjdokmllidhapaaGreatDoor
open Go.RowKit

/-- the untils rise, from one on. -/
def upB : List EraD → Bool
  | [] => true
  | [_] => true
  | x :: y :: l => decide (x.until_ < y.until_) && upB (y :: l)
theorem up_no {es : List EraD} : ∀ {i : Nat} {x y : EraD}, es[i]? = some x → es[i + 1]? = some y → ¬ x.until_ < y.until_ → upB es = false := by
  induction es with
  | nil => intro i x y h; simp at h
  | cons a l ih =>
    intro i x y hx hy hn
    match l, i with
    | [], _ => simp at hy
    | b :: l, 0 =>
      simp at hx hy
      subst hx hy
      simp [upB, hn]
    | b :: l, i + 1 =>
      have := ih (i := i) (x := x) (y := y) (by simpa using hx) (by simpa using hy) hn
      simp only [upB, this, Bool.and_false]
theorem up_yes {es : List EraD} (h : ∀ i x y, es[i]? = some x → es[i + 1]? = some y → x.until_ < y.until_) : upB es = true := by
  induction es with
  | nil => rfl
  | cons a l ih =>
    match l with
    | [] => rfl
    | b :: l =>
      have h0 := h 0 a b rfl rfl
      have := ih fun i x y hx hy => h (i + 1) x y (by simpa using hx) (by simpa using hy)
      simp only [upB, this, decide_eq_true h0, Bool.and_true]
def laB2 (es : List EraD) : Bool := match es[es.length - 1]? with
  | some e => (e.until_ == 253402300799) && (e.of.toList == [119])
  | none => false
def zoneP (z : ZoneD) : Bool := nameB z.name && (decide (1 ≤ z.eras.length ∧ z.eras.length ≤ 8) && (z.eras.all eraP && (upB z.eras && laB2 z.eras)))
theorem zone_no1 {z : ZoneD} (h : nameB z.name = false) : zoneP z = false := by unfold zoneP; rw [h]; rfl
theorem zone_no2 {z : ZoneD} (h : ¬ (1 ≤ z.eras.length ∧ z.eras.length ≤ 8)) : zoneP z = false := by unfold zoneP; rw [decide_eq_false h]; simp
theorem zone_no3 {z : ZoneD} (h : z.eras.all eraP = false) : zoneP z = false := by unfold zoneP; rw [h]; simp
theorem zone_no4 {z : ZoneD} (h : upB z.eras = false) : zoneP z = false := by unfold zoneP; rw [h]; simp
theorem zone_yes {z : ZoneD} (h1 : nameB z.name = true) (h2 : 1 ≤ z.eras.length ∧ z.eras.length ≤ 8) (h3 : z.eras.all eraP = true) (h4 : upB z.eras = true) : zoneP z = laB2 z.eras := by unfold zoneP; rw [h1, decide_eq_true h2, h3, h4]; simp
set_option maxHeartbeats 2000000 in
theorem impl_zoneRight (z : ZoneD) (v : Value) (w : World) (hv : EraSl w v z.eras) (hm : z.ok) :
    Calls Tryz.prog 72 #[.agg #[.string z.name, v]] w fun e w' => e = .returned (.bool (zoneP z)) ∧ Below w.heap.size w w' := by
  obtain ⟨a, cap, rfl, hA⟩ := hv
  obtain ⟨m1, m2, m3⟩ := hm
  have h1 := fun w => impl_NameRight z.name w m1
  have hB0 := fun o => (Below.refl w.heap.size w).alloc (Nat.le_refl _) o
  unfold maxLen at m2
  cases hn : nameB z.name
  · rw [zone_no1 hn]
    rw [hn] at h1
    generalize z.name = nm at *
    clear hn
    go_enter Tryz.func72, Tryz.ntmps72
    go_wp2_with (go_at_call 133; refine (h1 _).mono ?_; rintro e w' ⟨rfl, rfl⟩)
    go_ret
    exact ⟨rfl, hB0 _⟩
  rw [hn] at h1
  by_cases hl0 : z.eras.length < 1
  · rw [zone_no2 (by omega)]
    go_enter Tryz.func72, Tryz.ntmps72
    go_wp2_with (go_at_call 133; refine (h1 _).mono ?_; rintro e w' ⟨rfl, rfl⟩)
    go_ret
    exact ⟨rfl, hB0 _⟩
  by_cases hl8 : 8 < z.eras.length
  · rw [zone_no2 (by omega)]
    go_enter Tryz.func72, Tryz.ntmps72
    go_wp2_with (go_at_call 133; refine (h1 _).mono ?_; rintro e w' ⟨rfl, rfl⟩)
    go_ret
    exact ⟨rfl, hB0 _⟩
  have h2 := fun w (h : SeqAt w a 6 (z.eras.map EraD.cs)) => impl_allEra z.eras a cap w h m3 (by omega)
  cases ha : z.eras.all eraP
  · rw [zone_no3 ha]
    rw [ha] at h2
    clear ha
    go_enter Tryz.func72, Tryz.ntmps72
    go_wp2_with fail
    refine (h1 _).mono ?_
    rintro e w1 ⟨rfl, rfl⟩
    go_wp2_with fail
    refine (h2 _ (hA.below (hB0 _))).mono ?_
    rintro e w1 ⟨rfl, hb1⟩
    go_wp2
    go_ret
    exact ⟨rfl, (hB0 _).trans (hb1.mono (by simp))⟩
  rw [ha] at h2
  have HZ : Hid (upB z.eras = true → zoneP z = laB2 z.eras) := fun h => zone_yes hn (by omega) ha h
  have HN : Hid (upB z.eras = false → zoneP z = false) := fun h => zone_no4 h
  clear hn ha
  generalize zoneP z = zb at *
  go_enter Tryz.func72, Tryz.ntmps72
  go_wp2_with fail
  refine (h1 _).mono ?_
  rintro e w1 ⟨rfl, rfl⟩
  go_wp2_with fail
  refine (h2 _ (hA.below (hB0 _))).mono ?_
  rintro e w1 ⟨rfl, hb1⟩
  obtain ⟨hc, _⟩ := bcell hb1
  have hB1 := (hB0 _).trans (hb1.mono (by simp))
  have x1 : w1.cell? ⟨w.heap.size, 1, none⟩ = some (.slice a z.eras.length cap) := (hc _ _ (by simp)).trans (by simp [go_sem])
  have hA1 := hA.below hB1
  clear hc hb1 h1 h2
  obtain ⟨n, hlen⟩ : ∃ n, z.eras.length = n + 1 := ⟨z.eras.length - 1, by omega⟩
  go_wp2
  go_loopw [28] (fun i wr => ∃ k : Nat, k ≤ n ∧ i = .int .i64 k ∧ Hid (∀ j, j < k → ∀ x y, z.eras[j]? = some x → z.eras[j + 1]? = some y → x.until_ < y.until_) ∧ Below w1.heap.size w1 wr) (fun i _ => n - (intOf i).toNat)
  case atStart => exact ⟨0, by omega, rfl, fun j hj => by omega, Below.refl _ _⟩
  case round =>
    obtain ⟨k, hk, rfl, hall, hB⟩ := hrel
    have y1 : wr.cell? ⟨w.heap.size, 1, none⟩ = some (.slice a z.eras.length cap) := by rw [(bcell hB).1 _ _ (World.block_lt_of_cell? _ _ x1)]; exact x1
    have hBB := hB1.trans (hB.mono hB1.size)
    by_cases hlt : k < n
    · obtain ⟨r, hr⟩ : ∃ r, z.eras[k]? = some r := ⟨_, List.getElem?_eq_getElem (by omega)⟩
      obtain ⟨r2, hr2⟩ : ∃ r, z.eras[k + 1]? = some r := ⟨_, List.getElem?_eq_getElem (by omega)⟩
      obtain ⟨b, o, rfl, hc⟩ := (hA1.below hB).at (i := k) (r := r.cs) (by rw [List.getElem?_map, hr]; rfl)
      obtain ⟨b', o', he, hd⟩ := (hA1.below hB).at (i := k + 1) (r := r2.cs) (by rw [List.getElem?_map, hr2]; rfl)
      injection he with he
      injection he with e1 e2
      subst e1 e2
      have c4 := hc 4 _ rfl
      have d4 := hd 4 _ rfl
      clear hc hd
      by_cases hu : r.until_ < r2.until_
      · have HR : Hid (∀ j, j < k + 1 → ∀ x y, z.eras[j]? = some x → z.eras[j + 1]? = some y → x.until_ < y.until_) := fun j hj x y hx hy => by
          by_cases e : j = k
          · subst e; rw [hr] at hx; rw [hr2] at hy; obtain rfl := Option.some.inj hx; obtain rfl := Option.some.inj hy; exact hu
          · exact hall.out j (by omega) x y hx hy
        go_wp2_with fail
        go_quiet (fail)
        go_wp2
        go_roundw
        case rel => exact ⟨k + 1, by omega, by go_num, HR, below_drewN hB _⟩
        case measure => simp [intOf]; omega
      · have HR : Hid (zb = false) := HN.out (up_no hr hr2 hu)
        go_wp2_with fail
        go_quiet (fail)
        go_wp2
        go_ret
        exact ⟨ret_bool HR.out.symm, below_drewN hBB _⟩
    · have e : k = n := by omega
      subst e
      obtain ⟨r, hr⟩ : ∃ r, z.eras[k]? = some r := ⟨_, List.getElem?_eq_getElem (by omega)⟩
      obtain ⟨b, o, rfl, hc⟩ := (hA1.below hB).at (i := k) (r := r.cs) (by rw [List.getElem?_map, hr]; rfl)
      have c4 := hc 4 _ rfl
      have c5 := hc 5 _ rfl
      clear hc
      have HR : Hid (zb = ((r.until_ == 253402300799) && (r.of.toList == [119]))) := by
        simp only [Hid]
        rw [HZ.out (up_yes fun i x y hx hy => hall.out i (by have := (List.getElem?_eq_some_iff.mp hy).1; omega) x y hx hy)]
        unfold laB2
        rw [show z.eras.length - 1 = k by omega, hr]
      cases g : (r.until_ == 253402300799)
      · rw [g] at HR
        go_wp2
        go_ret
        exact ⟨ret_bool HR.out.symm, hBB⟩
      · rw [g] at HR
        go_wp2
        go_ret
        exact ⟨ret_bool (by rw [HR.out]; simp), hBB⟩
end Go.Proofs.YtjdokmllidhapaaGreatDoor
