/- The turn of an instant: the program's search, and the model's. -/
import Derived.Test.YtjfonbnmdcpepaaTabSpec
namespace Go.Proofs.Ytjfonbnmdcpepaa
open Go.RowKit Go.Sort

/-- is the turn at a place behind an instant? -/
def behB (l : List TurnD) (n : Int) (i : Nat) : Bool := match l[i]? with
  | some t => decide (n < t.at_)
  | none => true
theorem beh_some {l : List TurnD} {n : Int} {i : Nat} {t : TurnD} (h : l[i]? = some t) : behB l n i = decide (n < t.at_) := by unfold behB; rw [h]
/-- how many are not. -/
def cntT (l : List TurnD) (n : Int) : Nat := (List.range l.length).countP fun i => !behB l n i
theorem beh_mono {l : List TurnD} (h : upT l = true) {n : Int} (a b : Nat) (hab : a ≤ b) (hb : b < l.length) (hp : behB l n a = true) : behB l n b = true := by
  obtain ⟨x, hx⟩ : ∃ x, l[a]? = some x := ⟨_, List.getElem?_eq_getElem (by omega)⟩
  obtain ⟨y, hy⟩ : ∃ y, l[b]? = some y := ⟨_, List.getElem?_eq_getElem hb⟩
  rw [beh_some hx] at hp
  rw [beh_some hy]
  have := upT_le2 h hab hx hy
  have := of_decide_eq_true hp
  exact decide_eq_true (by omega)
theorem cnt_cut {l : List TurnD} {n : Int} (m : Nat) (hm : m ≤ l.length) (h1 : ∀ i, i < m → behB l n i = false) (h2 : ∀ i, m ≤ i → i < l.length → behB l n i = true) : cntT l n = m :=
  countP_cut _ m _ hm (fun i hi => by rw [h1 i hi]; rfl) (fun i a b => by rw [h2 i a b]; rfl)
/-- where a search ends. -/
theorem cnt_at {l : List TurnD} (h : upT l = true) {n : Int} {k : Nat} {x : TurnD} (hx : l[k]? = some x) (h1 : x.at_ ≤ n) (h2 : ∀ y, l[k + 1]? = some y → n < y.at_) : cntT l n = k + 1 := by
  have hk := (List.getElem?_eq_some_iff.mp hx).1
  refine cnt_cut (k + 1) (by omega) (fun i hi => ?_) (fun i a b => ?_)
  · obtain ⟨y, hy⟩ : ∃ y, l[i]? = some y := ⟨_, List.getElem?_eq_getElem (by omega)⟩
    rw [beh_some hy]
    have := upT_le2 h (show i ≤ k by omega) hy hx
    exact decide_eq_false (by omega)
  · obtain ⟨y, hy⟩ : ∃ y, l[k + 1]? = some y := ⟨_, List.getElem?_eq_getElem (by omega)⟩
    exact beh_mono h (k + 1) i a b (by rw [beh_some hy]; exact decide_eq_true (h2 y hy))
theorem cnt_pos {l : List TurnD} {n : Int} {a : TurnD} (ha : l[0]? = some a) (h : a.at_ ≤ n) : 1 ≤ cntT l n := by
  have hk := (List.getElem?_eq_some_iff.mp ha).1
  exact List.countP_pos_iff.mpr ⟨0, List.mem_range.mpr hk, by rw [beh_some ha, decide_eq_false (by omega)]; rfl⟩
theorem cnt_le (l : List TurnD) (n : Int) : cntT l n ≤ l.length := by
  have := List.countP_le_length (l := List.range l.length) (p := fun i => !behB l n i)
  rw [List.length_range] at this
  exact this
set_option maxHeartbeats 1000000 in
theorem impl_behind (l : List TurnD) (a : Option Addr) (cap pt pa : Nat) (n : Int) (i : Nat) (w : World) (hA : SeqAt w a 4 (l.map TurnD.cs)) (hi : i < l.length) (_hl : l.length ≤ 1048576) (ht : w.cell? ⟨pt, 0, none⟩ = some (.slice a l.length cap)) (ha : w.cell? ⟨pa, 0, none⟩ = some (.int .i64 n)) :
    Calls Try.prog 45 #[.int .i64 i, .pointer (some ⟨pt, 0, none⟩), .pointer (some ⟨pa, 0, none⟩)] w fun e w' => e = .returned (.bool (behB l n i)) ∧ Below w.heap.size w w' := by
  obtain ⟨x, hx⟩ : ∃ x, l[i]? = some x := ⟨_, List.getElem?_eq_getElem hi⟩
  obtain ⟨b, o, rfl, hc⟩ := hA.at (i := i) (r := x.cs) (by rw [List.getElem?_map, hx]; rfl)
  have c0 : w.cell? ⟨b, o + i * 4, none⟩ = some (.int .i64 x.at_) := hc 0 _ rfl
  have HR : Hid (behB l n i = decide (n < x.at_)) := beh_some hx
  clear hc
  generalize behB l n i = q at *
  go_enter Try.func45, Try.ntmps45
  go_wp2_with fail
  go_quiet (fail)
  go_wp2
  go_ret
  exact ⟨ret_bool HR.out.symm, below_drewN (Below.refl _ _) _⟩
set_option maxHeartbeats 2000000 in
theorem sort_SearchT (l : List TurnD) (a : Option Addr) (cap pt pa : Nat) (n : Int) (w : World) (hA : SeqAt w a 4 (l.map TurnD.cs)) (hl : l.length ≤ 1048576) (hu : upT l = true) (ht : w.cell? ⟨pt, 0, none⟩ = some (.slice a l.length cap)) (ha : w.cell? ⟨pa, 0, none⟩ = some (.int .i64 n)) :
    Calls Try.prog 44 #[.int .i64 l.length, .func (.func 45) #[] #[.pointer (some ⟨pt, 0, none⟩), .pointer (some ⟨pa, 0, none⟩)]] w fun e w' => e = .returned (.int .i64 (cntT l n)) ∧ Below w.heap.size w w' := by
  have HC : Hid (∀ m, m ≤ l.length → (∀ i, i < m → behB l n i = false) → (∀ i, m ≤ i → i < l.length → behB l n i = true) → cntT l n = m) := fun m h1 h2 h3 => cnt_cut m h1 h2 h3
  have HM : Hid (∀ a b, a ≤ b → b < l.length → behB l n a = true → behB l n b = true) := fun a b h1 h2 h3 => beh_mono hu a b h1 h2 h3
  clear hu
  generalize cntT l n = c at *
  go_enter Try.func44, Try.ntmps44
  go_wp2
  go_loopw [5, 6] (fun s5 s6 wr => ∃ lo hi : Nat, lo ≤ hi ∧ hi ≤ l.length ∧ s5 = .int .i64 lo ∧ s6 = .int .i64 hi ∧ Hid (∀ t, t < lo → behB l n t = false) ∧ Hid (∀ t, hi ≤ t → t < l.length → behB l n t = true) ∧ Below w.heap.size w wr) (fun s5 s6 _ => (intOf s6).toNat - (intOf s5).toNat)
  case atStart => exact ⟨0, l.length, by omega, by omega, rfl, rfl, fun t ht => by omega, fun t h1 h2 => by omega, Below.refl _ _⟩
  case round =>
    obtain ⟨lo, hi, hlh, hhl, rfl, rfl, h1, h2, hB⟩ := hrel
    by_cases hlt : lo < hi
    · have hS := impl_behind l a cap pt pa n ((lo + hi) / 2) wr (hA.below hB) (by omega) hl ((bcell hB).1 _ _ (World.block_lt_of_cell? _ _ ht) |>.trans ht) ((bcell hB).1 _ _ (World.block_lt_of_cell? _ _ ha) |>.trans ha)
      rw [show (((lo + hi) / 2 : Nat) : Int) = ((lo : Int) + (hi : Int)) / 2 by omega] at hS
      cases hp : behB l n ((lo + hi) / 2)
      · have HR : Hid (∀ t, t < (lo + hi) / 2 + 1 → behB l n t = false) := fun t ht => by
          cases h : behB l n t with
          | false => rfl
          | true => have := HM.out t ((lo + hi) / 2) (by omega) (by omega) h; rw [hp] at this; cases this
        rw [hp] at hS
        clear hp
        go_wp2_with fail
        refine hS.mono ?_
        rintro e w2 ⟨rfl, hb2⟩
        go_wp2
        go_roundw
        case rel => exact ⟨(lo + hi) / 2 + 1, hi, by omega, hhl, by rw [show ((lo : Int) + (hi : Int)) / 2 + 1 = (((lo + hi) / 2 + 1 : Nat) : Int) by omega], rfl, HR, h2, hB.trans (hb2.mono hB.size)⟩
        case measure => simp [intOf]; omega
      · have HR : Hid (∀ t, (lo + hi) / 2 ≤ t → t < l.length → behB l n t = true) := fun t ha hb => HM.out _ t ha hb hp
        rw [hp] at hS
        clear hp
        go_wp2_with fail
        refine hS.mono ?_
        rintro e w2 ⟨rfl, hb2⟩
        go_wp2
        go_roundw
        case rel => exact ⟨lo, (lo + hi) / 2, by omega, by omega, rfl, by rw [show ((lo : Int) + (hi : Int)) / 2 = (((lo + hi) / 2 : Nat) : Int) by omega], h1, HR, hB.trans (hb2.mono hB.size)⟩
        case measure => simp [intOf]; omega
    · obtain rfl : hi = lo := by omega
      have HR : Hid (c = hi) := HC.out hi hhl h1.out h2.out
      go_wp2
      go_ret
      exact ⟨ret_int (by rw [HR.out]), hB⟩
end Go.Proofs.Ytjfonbnmdcpepaa
