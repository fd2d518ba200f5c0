/- The instants at which the clock shows a wall time: the model's. -/
import Derived.Test.YtjfonbnmdcpepaaStr4
namespace Go.Proofs.Ytjfonbnmdcpepaa
open Go.RowKit

theorem own_emptyI (w : World) (t : TypeId) : (w.alloc (.cells #[] t)).ownsRow w.heap.size t 1 (.slice (some ⟨w.heap.size, 0, none⟩) 0 0) 0 [] :=
  ⟨rfl, .inr ⟨w.heap.size, 0, #[], rfl, Nat.le_refl _, World.alloc_heap_new w _, Nat.le_refl _, by unfold maxLen; omega, rfl, rfl⟩⟩
theorem owns_mono {w : World} {base base' : Nat} {e : TypeId} {size : Nat} {v : Value} {n : Nat} {xs : List Value} (h : w.ownsRow base e size v n xs) (hb : base' ≤ base) : w.ownsRow base' e size v n xs := by
  refine ⟨h.1, ?_⟩
  rcases h.2 with h | ⟨g, cap, cur, e1, e2, e3⟩
  · exact .inl h
  · exact .inr ⟨g, cap, cur, e1, by omega, e3⟩
set_option maxRecDepth 20000 in
set_option maxHeartbeats 4000000 in
theorem spec_l04Instants (l : List TurnD) (v : Value) (m : Int) (hT : TabR l) (m1 : -62135596800 ≤ m) (m2 : m ≤ 253402300799) (w : World) (hv : TabAt w v l) :
    Calls Try.prog 52 #[v, .int .i64 m] w fun e W' => ∃ v', e = .returned v' ∧ W'.ownsRow w.heap.size 2 1 v' (instL l m).length ((instL l m).map (Value.int .i64)) ∧ Below w.heap.size w W' := by
  have hlen := hT.len
  obtain ⟨i0, hi, hz0, hz1, hz2⟩ := info_parts info64
  obtain ⟨a, cap, rfl, hA⟩ := hv
  obtain ⟨f, hf⟩ : ∃ x, l[0]? = some x := ⟨_, List.getElem?_eq_getElem (by omega)⟩
  obtain ⟨b, o, rfl, hd⟩ := hA.at (i := 0) (r := f.cs) (by rw [List.getElem?_map, hf]; rfl)
  have hbl : b < w.heap.size := World.block_lt_of_cell? _ _ (hd 0 _ rfl)
  clear hd hf
  have hcells : ∀ (wr : World), Below w.heap.size w wr → ∀ (k : Nat) (x : TurnD), l[k]? = some x → wr.cell? ⟨b, o + k * 4, none⟩ = some (.int .i64 x.at_) ∧ wr.cell? ⟨b, o + k * 4 + 1, none⟩ = some (.int .i64 x.offset) := fun wr hB k x hx => by
    obtain ⟨b', o', he, hc⟩ := hA.at (i := k) (r := x.cs) (by rw [List.getElem?_map, hx]; rfl)
    injection he with he
    injection he with u1 u2
    subst u1 u2
    exact ⟨(hB.cell (p := ⟨b, _, none⟩) hbl).trans (hc 0 _ rfl), (hB.cell (p := ⟨b, _, none⟩) hbl).trans (hc 1 _ rfl)⟩
  have HI : Hid (instL l m = shownL m (uptoS l l.length)) := rfl
  go_enter Try.func52, Try.ntmps52
  go_wp2
  obtain ⟨wA, hwA⟩ : ∃ wA, (w.alloc (.cells #[.slice (some ⟨b, o, none⟩) l.length cap] 25)) = wA := ⟨_, rfl⟩
  have hsA : wA.heap.size = w.heap.size + 1 := by rw [← hwA]; simp
  have hBA : Below w.heap.size w wA := by rw [← hwA]; exact (Below.refl _ w).alloc (Nat.le_refl _) _
  have cB : wA.cell? ⟨w.heap.size, 0, none⟩ = some (.slice (some ⟨b, o, none⟩) l.length cap) := by rw [← hwA]; simp [go_sem]
  have hE := own_emptyI wA 2
  rw [hsA] at hE
  rw [hwA]
  go_loopw [5, 6] (fun s5 s6 wr => ∃ k : Nat, k ≤ l.length ∧ s6 = .int .i64 k ∧ wr.ownsRow (w.heap.size + 1) 2 1 s5 (shownL m (uptoS l k)).length ((shownL m (uptoS l k)).map (Value.int .i64)) ∧ Below (w.heap.size + 1) wA wr) (fun _ s6 _ => l.length - (intOf s6).toNat)
  case atStart => exact ⟨0, by omega, rfl, hE, (Below.refl _ _).alloc (by omega) _⟩
  case round =>
    obtain ⟨k, hk, rfl, hown, hB⟩ := hrel
    have hsW := hB.size
    have hBw := hBA.trans (hB.mono (show w.heap.size ≤ w.heap.size + 1 by omega))
    have cBr : wr.cell? ⟨w.heap.size, 0, none⟩ = some (.slice (some ⟨b, o, none⟩) l.length cap) := (hB.cell (p := ⟨w.heap.size, 0, none⟩) (show w.heap.size < w.heap.size + 1 by omega)).trans cB
    have hsl := shownL_le m (uptoS l k)
    rw [uptoS_length] at hsl
    by_cases hlt : k < l.length
    · obtain ⟨x, hx⟩ : ∃ x, l[k]? = some x := ⟨_, List.getElem?_eq_getElem hlt⟩
      obtain ⟨c0, c1⟩ := hcells wr hBw k x hx
      obtain ⟨z1, z2⟩ := isB_of_t (off_of hT (List.mem_of_getElem? hx))
      by_cases hlt2 : k + 1 < l.length
      · obtain ⟨y, hy⟩ : ∃ y, l[k + 1]? = some y := ⟨_, List.getElem?_eq_getElem hlt2⟩
        have d0 := (hcells wr hBw (k + 1) y hy).1
        have y1 := hT.top _ y hy
        have y2 := at_low hT hy
        have HV : Hid ((strK l k).1.first = x.at_ ∧ (strK l k).1.last = y.at_ - 1 ∧ (strK l k).1.own = x.offset) := by
          simp only [Hid]; rw [strK_val hT hlt]; unfold strAt; rw [hx, hy]; exact ⟨rfl, rfl, rfl⟩
        clear hx hy hcells
        by_cases g1 : x.at_ ≤ m - x.offset
        · by_cases g2 : m - x.offset ≤ y.at_ - 1
          · have HS : Hid (shownL m (uptoS l (k + 1)) = shownL m (uptoS l k) ++ [m - x.offset]) := by simp only [Hid]; rw [uptoS_succ]; exact (shownL_hit (by rw [HV.out.1, HV.out.2.2]; exact g1) (by rw [HV.out.2.1, HV.out.2.2]; exact g2)).trans (by rw [HV.out.2.2])
            have HE1 : Hid (shownL m (uptoS l (k + 1)) = shownL m (uptoS l (k + 1))) := rfl
            obtain ⟨o, ho⟩ : ∃ o, shownL m (uptoS l k) = o := ⟨_, rfl⟩
            rw [ho] at hown HS hsl
            clear HE1 HV ho
            go_wp2_with (first
              | (at_builtin; refine wpList_append_own _ rfl _ _ 36 rfl (w.heap.size + 1) 2 i0 (.int .i64 0) 1 8 Try.underlying36 hi hz0 hz1 hz2 rfl (by decide) _ _ _ rfl (hown.alloc _) ⟨wr.heap.size, 0, none⟩ 1 1 [.int .i64 (m - x.offset)] rfl rfl ?c1 ?c2 ?c3 ?c4 ?c5 ?_)
              | fail)
            case c1 => exact cell_one_new _ _ _
            case c2 => intro u hu; simp at hu; subst hu; rfl
            case c3 => unfold maxLen; omega
            case c4 => omega
            case c5 => simp; omega
            · intro v' w1 hown' hgrow _
              have hB1 : Below (w.heap.size + 1) wA w1 := (hB.alloc (by omega) _).grown hgrow (by simp; omega) (fun j hj => (hown.lt j hj).1)
              have HO : Hid (w1.ownsRow (w.heap.size + 1) 2 1 v' (o ++ [m - x.offset]).length ((o ++ [m - x.offset]).map (Value.int .i64))) := by simpa [Hid] using hown'
              clear hgrow hown' hown
              go_wp2
              go_roundw
              case rel => exact ⟨k + 1, by omega, by go_num, by rw [HS.out]; exact HO.out, hB1⟩
              case measure => simp [intOf]; omega
          · have HS : Hid (shownL m (uptoS l (k + 1)) = shownL m (uptoS l k)) := by simp only [Hid]; rw [uptoS_succ]; exact (shownL_miss2 (by rw [HV.out.2.1, HV.out.2.2]; exact g2))
            clear HV
            go_wp2
            go_roundw
            case rel => exact ⟨k + 1, by omega, by go_num, by rw [HS.out]; exact hown, hB⟩
            case measure => simp [intOf]; omega
        · have HS : Hid (shownL m (uptoS l (k + 1)) = shownL m (uptoS l k)) := by simp only [Hid]; rw [uptoS_succ]; exact (shownL_miss1 (by rw [HV.out.1, HV.out.2.2]; exact g1))
          clear HV
          go_wp2
          go_roundw
          case rel => exact ⟨k + 1, by omega, by go_num, by rw [HS.out]; exact hown, hB⟩
          case measure => simp [intOf]; omega
      · have hy : l[k + 1]? = none := List.getElem?_eq_none (by omega)
        have HV : Hid ((strK l k).1.first = x.at_ ∧ (strK l k).1.last = 253402300799 ∧ (strK l k).1.own = x.offset) := by
          simp only [Hid]; rw [strK_val hT hlt]; unfold strAt; rw [hx, hy]; exact ⟨rfl, rfl, rfl⟩
        clear hx hy hcells
        by_cases g1 : x.at_ ≤ m - x.offset
        · by_cases g2 : m - x.offset ≤ 253402300799
          · have HS : Hid (shownL m (uptoS l (k + 1)) = shownL m (uptoS l k) ++ [m - x.offset]) := by simp only [Hid]; rw [uptoS_succ]; exact (shownL_hit (by rw [HV.out.1, HV.out.2.2]; exact g1) (by rw [HV.out.2.1, HV.out.2.2]; exact g2)).trans (by rw [HV.out.2.2])
            have HE1 : Hid (shownL m (uptoS l (k + 1)) = shownL m (uptoS l (k + 1))) := rfl
            obtain ⟨o, ho⟩ : ∃ o, shownL m (uptoS l k) = o := ⟨_, rfl⟩
            rw [ho] at hown HS hsl
            clear HE1 HV ho
            go_wp2_with (first
              | (at_builtin; refine wpList_append_own _ rfl _ _ 36 rfl (w.heap.size + 1) 2 i0 (.int .i64 0) 1 8 Try.underlying36 hi hz0 hz1 hz2 rfl (by decide) _ _ _ rfl (hown.alloc _) ⟨wr.heap.size, 0, none⟩ 1 1 [.int .i64 (m - x.offset)] rfl rfl ?d1 ?d2 ?d3 ?d4 ?d5 ?_)
              | fail)
            case d1 => exact cell_one_new _ _ _
            case d2 => intro u hu; simp at hu; subst hu; rfl
            case d3 => unfold maxLen; omega
            case d4 => omega
            case d5 => simp; omega
            · intro v' w1 hown' hgrow _
              have hB1 : Below (w.heap.size + 1) wA w1 := (hB.alloc (by omega) _).grown hgrow (by simp; omega) (fun j hj => (hown.lt j hj).1)
              have HO : Hid (w1.ownsRow (w.heap.size + 1) 2 1 v' (o ++ [m - x.offset]).length ((o ++ [m - x.offset]).map (Value.int .i64))) := by simpa [Hid] using hown'
              clear hgrow hown' hown
              go_wp2
              go_roundw
              case rel => exact ⟨k + 1, by omega, by go_num, by rw [HS.out]; exact HO.out, hB1⟩
              case measure => simp [intOf]; omega
          · have HS : Hid (shownL m (uptoS l (k + 1)) = shownL m (uptoS l k)) := by simp only [Hid]; rw [uptoS_succ]; exact (shownL_miss2 (by rw [HV.out.2.1, HV.out.2.2]; exact g2))
            clear HV
            go_wp2
            go_roundw
            case rel => exact ⟨k + 1, by omega, by go_num, by rw [HS.out]; exact hown, hB⟩
            case measure => simp [intOf]; omega
        · have HS : Hid (shownL m (uptoS l (k + 1)) = shownL m (uptoS l k)) := by simp only [Hid]; rw [uptoS_succ]; exact (shownL_miss1 (by rw [HV.out.1, HV.out.2.2]; exact g1))
          clear HV
          go_wp2
          go_roundw
          case rel => exact ⟨k + 1, by omega, by go_num, by rw [HS.out]; exact hown, hB⟩
          case measure => simp [intOf]; omega
    · obtain rfl : k = l.length := by omega
      go_wp2
      go_ret
      exact ⟨_, rfl, by rw [HI.out]; exact owns_mono hown (by omega), hBw⟩
end Go.Proofs.Ytjfonbnmdcpepaa
