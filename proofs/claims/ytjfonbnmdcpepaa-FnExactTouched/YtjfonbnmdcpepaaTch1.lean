/- Has some span an instant from one to another: the program's and the model's. -/
import Derived.Test.YtjfonbnmdcpepaaRelSpan
import Derived.Lib.MinMax
namespace Go.Proofs.Ytjfonbnmdcpepaa
open Go.RowKit

def hitB (f t : Int) (s : SpanD) : Bool := decide (max s.lo f ≤ min s.hi t)
def touchD (l : List SpanD) (f t : Int) : Bool := if l.length ≤ 400 then l.any (hitB f t) else false
theorem touch_no {l : List SpanD} {f t : Int} (h : ¬ l.length ≤ 400) : touchD l f t = false := by unfold touchD; rw [if_neg h]
theorem touch_hit {l : List SpanD} {f t : Int} (h : l.length ≤ 400) {k : Nat} {x : SpanD} (hx : l[k]? = some x) (hh : hitB f t x = true) : touchD l f t = true := by
  unfold touchD; rw [if_pos h, List.any_eq_true]; exact ⟨x, List.mem_of_getElem? hx, hh⟩
theorem touch_none {l : List SpanD} {f t : Int} (h : l.length ≤ 400) (hh : ∀ (k : Nat) x, l[k]? = some x → hitB f t x = false) : touchD l f t = false := by
  unfold touchD; rw [if_pos h, List.any_eq_false]
  intro x hx
  obtain ⟨k, hk⟩ := List.getElem?_of_mem hx
  rw [hh k x hk]; simp
set_option maxHeartbeats 400000 in
theorem spec_l01Max (a b : Int) (w : World) : Calls Try.prog 69 #[.int .i64 a, .int .i64 b] w fun e w' => e = .returned (.int .i64 (max a b)) ∧ w' = w := by
  by_cases h : b < a
  · go_enter Try.func69, Try.ntmps69
    go_wp2
    go_ret
    exact ⟨ret_int (by omega), rfl⟩
  · go_enter Try.func69, Try.ntmps69
    go_wp2
    go_ret
    exact ⟨ret_int (by omega), rfl⟩
set_option maxHeartbeats 400000 in
theorem spec_l01Min (a b : Int) (w : World) : Calls Try.prog 70 #[.int .i64 a, .int .i64 b] w fun e w' => e = .returned (.int .i64 (min a b)) ∧ w' = w := by
  by_cases h : a < b
  · go_enter Try.func70, Try.ntmps70
    go_wp2
    go_ret
    exact ⟨ret_int (by omega), rfl⟩
  · go_enter Try.func70, Try.ntmps70
    go_wp2
    go_ret
    exact ⟨ret_int (by omega), rfl⟩
set_option maxHeartbeats 2000000 in
theorem impl_Touched (l : List SpanD) (a : Option Addr) (cap : Nat) (f t : Int) (w : World) (hA : SeqAt w a 2 (l.map SpanD.cs)) (hl : l.length ≤ 1048576) :
    Calls Try.prog 34 #[.slice a l.length cap, .int .i64 f, .int .i64 t] w fun e w' => e = .returned (.bool (touchD l f t)) ∧ Below w.heap.size w w' := by
  by_cases h4 : l.length ≤ 400
  · have HY := fun k x => touch_hit (f := f) (t := t) h4 (k := k) (x := x)
    have HN := touch_none (f := f) (t := t) h4
    generalize touchD l f t = z at *
    go_enter Try.func34, Try.ntmps34
    go_wp2
    go_loopw [14] (fun s wr => ∃ i : Nat, i ≤ l.length ∧ s = .int .i64 i ∧ Hid (∀ k, k < i → ∀ x, l[k]? = some x → hitB f t x = false) ∧ Below w.heap.size w wr) (fun s _ => l.length - (intOf s).toNat)
    case atStart => exact ⟨0, by omega, rfl, fun k hk => by omega, Below.refl _ _⟩
    case round =>
      obtain ⟨i, hi, rfl, HS, hB⟩ := hrel
      by_cases hlt : i < l.length
      · obtain ⟨x, hx⟩ : ∃ x, l[i]? = some x := ⟨_, List.getElem?_eq_getElem hlt⟩
        obtain ⟨b, o, rfl, hc⟩ := (hA.below hB).at (i := i) (r := x.cs) (by rw [List.getElem?_map, hx]; rfl)
        have c0 : wr.cell? ⟨b, o + i * 2, none⟩ = some (.int .i64 x.lo) := hc 0 _ rfl
        have c1 : wr.cell? ⟨b, o + i * 2 + 1, none⟩ = some (.int .i64 x.hi) := hc 1 _ rfl
        clear hc
        by_cases hh : max x.lo f ≤ min x.hi t
        · have HR : Hid (z = true) := HY i x hx (decide_eq_true hh)
          clear HY HN HS hx
          go_wp2
          go_ret
          exact ⟨ret_bool HR.out.symm, hB.alloc hB.size _⟩
        · have HR : Hid (∀ k, k < i + 1 → ∀ x, l[k]? = some x → hitB f t x = false) := fun k hk y hy => by
            by_cases e : k = i
            · subst e; rw [hx] at hy; obtain rfl := Option.some.inj hy; exact decide_eq_false hh
            · exact HS.out k (by omega) y hy
          clear HY HN HS hx
          go_wp2
          go_roundw
          case rel => exact ⟨i + 1, by omega, by go_num, HR, hB.alloc hB.size _⟩
          case measure => simp [intOf]; omega
      · obtain rfl : i = l.length := by omega
        have HR : Hid (z = false) := HN fun k x hx => HS.out k (List.getElem?_eq_some_iff.mp hx).1 x hx
        go_wp2
        go_ret
        exact ⟨ret_bool HR.out.symm, hB⟩
  · rw [touch_no h4]
    go_enter Try.func34, Try.ntmps34
    go_wp2
    go_ret
    exact ⟨rfl, Below.refl _ _⟩
set_option maxHeartbeats 2000000 in
theorem spec_Touched (l : List SpanD) (a : Option Addr) (cap : Nat) (f t : Int) (w : World) (hA : SeqAt w a 2 (l.map SpanD.cs)) (hl : l.length ≤ 1048576) :
    Calls Try.prog 32 #[.slice a l.length cap, .int .i64 f, .int .i64 t] w fun e w' => e = .returned (.bool (touchD l f t)) ∧ Below w.heap.size w w' := by
  by_cases h4 : l.length ≤ 400
  · have HY := fun k x => touch_hit (f := f) (t := t) h4 (k := k) (x := x)
    have HN := touch_none (f := f) (t := t) h4
    generalize touchD l f t = z at *
    go_enter Try.func32, Try.ntmps32
    go_wp2
    go_loopw [7] (fun s wr => ∃ i : Nat, i ≤ l.length ∧ s = .int .i64 i ∧ Hid (∀ k, k < i → ∀ x, l[k]? = some x → hitB f t x = false) ∧ Below w.heap.size w wr) (fun s _ => l.length - (intOf s).toNat)
    case atStart => exact ⟨0, by omega, rfl, fun k hk => by omega, Below.refl _ _⟩
    case round =>
      obtain ⟨i, hi, rfl, HS, hB⟩ := hrel
      by_cases hlt : i < l.length
      · obtain ⟨x, hx⟩ : ∃ x, l[i]? = some x := ⟨_, List.getElem?_eq_getElem hlt⟩
        obtain ⟨b, o, rfl, hc⟩ := (hA.below hB).at (i := i) (r := x.cs) (by rw [List.getElem?_map, hx]; rfl)
        have c0 : wr.cell? ⟨b, o + i * 2, none⟩ = some (.int .i64 x.lo) := hc 0 _ rfl
        have c1 : wr.cell? ⟨b, o + i * 2 + 1, none⟩ = some (.int .i64 x.hi) := hc 1 _ rfl
        clear hc
        have hM := fun w => spec_l01Max x.lo f w
        have hN := fun w => spec_l01Min x.hi t w
        by_cases hh : max x.lo f ≤ min x.hi t
        · have HR : Hid (z = true) := HY i x hx (decide_eq_true hh)
          clear HY HN HS hx
          generalize max x.lo f = p at *
          generalize min x.hi t = q at *
          go_wp2_with fail
          go_quiet ((first | (go_at_call 69; exact Calls.quiet_of_same (hM _)) | (go_at_call 70; exact Calls.quiet_of_same (hN _))))
          go_wp2
          go_ret
          exact ⟨ret_bool HR.out.symm, below_drewN hB _⟩
        · have HR : Hid (∀ k, k < i + 1 → ∀ x, l[k]? = some x → hitB f t x = false) := fun k hk y hy => by
            by_cases e : k = i
            · subst e; rw [hx] at hy; obtain rfl := Option.some.inj hy; exact decide_eq_false hh
            · exact HS.out k (by omega) y hy
          clear HY HN HS hx
          generalize max x.lo f = p at *
          generalize min x.hi t = q at *
          go_wp2_with fail
          go_quiet ((first | (go_at_call 69; exact Calls.quiet_of_same (hM _)) | (go_at_call 70; exact Calls.quiet_of_same (hN _))))
          go_wp2
          go_roundw
          case rel => exact ⟨i + 1, by omega, by go_num, HR, below_drewN hB _⟩
          case measure => simp [intOf]; omega
      · obtain rfl : i = l.length := by omega
        have HR : Hid (z = false) := HN fun k x hx => HS.out k (List.getElem?_eq_some_iff.mp hx).1 x hx
        go_wp2
        go_ret
        exact ⟨ret_bool HR.out.symm, hB⟩
  · rw [touch_no h4]
    go_enter Try.func32, Try.ntmps32
    go_wp2
    go_ret
    exact ⟨rfl, Below.refl _ _⟩
end Go.Proofs.Ytjfonbnmdcpepaa
