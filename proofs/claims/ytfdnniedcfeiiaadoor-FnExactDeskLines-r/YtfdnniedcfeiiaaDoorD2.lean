/- The model's DeskLines. -/
import Derived.Test.YtfdnniedcfeiiaaDoorD1
import Derived.Laws.OwnMore
import Derived.Laws.NewBlocks
namespace Go.Proofs.YtfdnniedcfeiiaaDoor
open Go.RowKit

theorem lns_sz (s : ByteArray) : ∀ x ∈ lns s, x.size ≤ s.size := by
  have h : ∀ k, ∀ x ∈ (lfs s k).1, x.size ≤ s.size := by
    intro k
    induction k with
    | zero => simp [lfs]
    | succ k ih =>
      by_cases hc : byteAt s k = 10
      · rw [lfs_hit hc]
        intro x hx
        simp only [List.mem_append, List.mem_singleton] at hx
        rcases hx with hx | rfl
        · exact ih x hx
        · rw [ByteArray.size_extract]; omega
      · rw [lfs_miss hc]; exact ih
  intro x hx
  unfold lns at hx
  simp only [List.mem_append, List.mem_singleton] at hx
  rcases hx with hx | rfl
  · exact h _ x hx
  · rw [ByteArray.size_extract]; omega
structure SpSt (L : List ByteArray) (g : Nat) (w : World) (H : Nat) (k : Nat) (v : Value) (wr : World) : Prop where
  ex : ∃ gb cap, v = .slice (some ⟨gb, 0, none⟩) k cap ∧ wr.ownsRow w.heap.size 9 1 (.slice (some ⟨gb, 0, none⟩) k cap) k ((L.take k).map Value.string) ∧ (gb = w.heap.size ∨ H ≤ gb)
  bel : Below w.heap.size w wr
  sz : H ≤ wr.heap.size
  row : ∀ (i : Nat) x, L[i]? = some x → wr.cell? ⟨g, i, none⟩ = some (.string x)
theorem ext_some {s : ByteArray} {f : Nat} (h : f < s.size) : ¬ (s.extract f s.size).toList = [] := by
  intro e
  rw [ByteArray.toList_eq] at e
  have : (s.extract f s.size).size = 0 := by show (s.extract f s.size).data.size = 0; rw [← Array.length_toList, e]; rfl
  rw [ByteArray.size_extract] at this
  omega
theorem own_below {w w1 : World} {base : Nat} {e : TypeId} {size : Nat} {v : Value} {n : Nat} {xs : List Value} (h : w.ownsRow base e size v n xs) (hb : Below w.heap.size w w1) : w1.ownsRow base e size v n xs :=
  h.kept (row := none) ⟨hb.os, hb.tape, hb.output, hb.size, fun k hk _ => hb.block k hk⟩ (by cases v.ownBlock <;> simp)
theorem own_below2 {w : World} {b0 base : Nat} {e : TypeId} {size : Nat} {v : Value} {n : Nat} {xs : List Value} (h : w.ownsRow base e size v n xs) (hb : b0 ≤ base) : w.ownsRow b0 e size v n xs := by
  refine ⟨h.1, ?_⟩
  rcases h.2 with h | ⟨g, cap, cur, h1, h2, h3⟩
  · exact .inl h
  · exact .inr ⟨g, cap, cur, h1, by omega, h3⟩
set_option maxRecDepth 20000 in
set_option maxHeartbeats 4000000 in
theorem spec_DeskLines (s : ByteArray) (w : World) (hs : s.size ≤ 9223372036854775807) :
    Calls Tryd.prog 4 #[.string s] w (RowP (deskL s) w) := by
  obtain ⟨i0, hi, hz0, hz1, hz2⟩ := info9J
  by_cases hlong : s.size ≤ 8000
  · have hsp := fun w => spec_splitLf s w hlong
    have hln := fun x w hx => spec_l07Line x w hx
    have hb0 := lfs_bd s s.size
    have hlast := lns_last s
    have hat := fun (k : Nat) (x : ByteArray) (h : (lfs s s.size).1[k]? = some x) => lns_at h
    have hsx : ∀ (k : Nat) (x : ByteArray), (lfs s s.size).1[k]? = some x → x.size ≤ 8000 := fun k x h => by have := lns_sz s x (List.mem_of_getElem? (lns_at h)); omega
    have hyes := @deskL_yes s hlong
    have hB1 := @deskB_end s
    have hB2 := @deskB_many s
    have hB3 := fun (x : ByteArray) (k : Nat) => @deskB_line s x k
    have hB4 := @deskB_yes s
    have hex1 := @ext_nil s (lfs s s.size).2
    have hex2 := @ext_some s (lfs s s.size).2
    rw [lns_n] at hsp
    go_enter Tryd.func4, Tryd.ntmps4
    go_wp2_with fail
    refine (hsp _).mono ?_
    rintro e w1 ⟨v, rfl, hown, hb⟩
    obtain ⟨g, cap, rfl, hg1, hg2, hcell⟩ := row_cell (L := lns s) (by rw [lns_n]; exact hown) (by rw [lns_n]; omega)
    rw [lns_n]
    rw [World.size_alloc] at hg1
    have hbel : Below w.heap.size w w1 := ((Below.refl _ _).alloc (Nat.le_refl _) _).trans (hb.mono (by simp))
    have hown0 : w1.ownsRow w.heap.size 9 1 (.slice (some ⟨w.heap.size, 0, none⟩) 0 0) 0 [] := own_below (own_emptyJ w _) hb
    have hz := hcell _ _ hlast
    have hrow : ∀ (i : Nat) x, (lfs s s.size).1[i]? = some x → w1.cell? ⟨g, i, none⟩ = some (.string x) := fun i x hx => hcell i x (hat i x hx)
    have hH : w.heap.size + 1 ≤ w1.heap.size := by have := hb.size; simpa using this
    clear hcell hlast hat hown hb hsp
    generalize hfe : (lfs s s.size).2 = f at *
    generalize hLe : (lfs s s.size).1 = L at *
    have HLe : Hid ((lfs s s.size).1 = L) := hLe
    clear hLe hfe
    obtain ⟨n, hn⟩ : ∃ n, L.length = n := ⟨_, rfl⟩
    rw [hn] at hb0 hB2 hB4 hz ⊢
    have hn8 : n ≤ 8000 := by omega
    by_cases hf : f = s.size
    · rw [hex1 hf] at hz
      by_cases hm : n ≤ 40
      · have HB4 : Hid (L.all lineB = true → deskL s = L) := fun h => hyes (hB4 hf hm h)
        have HB3 : Hid (∀ (k : Nat) x, L[k]? = some x → lineB x = false → deskL s = []) := fun k x h1 h2 => deskL_no (hB3 x k h1 h2)
        have HX : Hid (∀ (k : Nat) x, L[k]? = some x → x.size ≤ 8000) := hsx
        have HN : Hid (L.length = n) := hn
        have S0 : SpSt L g w w1.heap.size 0 (.slice (some ⟨w.heap.size, 0, none⟩) 0 0) w1 := ⟨⟨_, _, rfl, by simpa using hown0, .inl rfl⟩, hbel, Nat.le_refl _, hrow⟩
        clear hyes hB1 hB2 hB3 hB4 hex1 hex2 hsx hf hn hrow hown0 hbel HLe hb0
        go_wp2
        go_loopw [3, 6] (fun v i wr => ∃ k : Nat, k ≤ n ∧ i = .int .i64 k ∧ SpSt L g w w1.heap.size k v wr ∧ Hid ((L.take k).all lineB = true)) (fun _ i _ => n - (intOf i).toNat)
        case atStart => exact ⟨0, by omega, rfl, S0, rfl⟩
        case round =>
          obtain ⟨k, hk, rfl, hst, HA⟩ := hrel
          obtain ⟨⟨gb, cb, rfl, hown, hgb⟩, hbel, hsz, hrow⟩ := hst
          clear S0
          by_cases hlt : k < n
          · obtain ⟨x, hx⟩ : ∃ x, L[k]? = some x := ⟨_, List.getElem?_eq_getElem (by have := HN.out; omega)⟩
            have cx := hrow k x hx
            have hx8 := HX.out k x hx
            have hln' := fun w => hln x w hx8
            have HRow : Hid (∀ (i : Nat) x, L[i]? = some x → wr.cell? ⟨g, i, none⟩ = some (.string x)) := hrow
            have HT : Hid ((L.take (k + 1)).map Value.string = (L.take k).map Value.string ++ [.string x]) := by
              simp only [Hid]; rw [List.take_add_one, hx]; simp
            cases hb : lineB x
            · have HE : Hid (deskL s = []) := HB3.out k x hx hb
              rw [hb] at hln'
              clear hx hrow hb hln
              go_wp2_with fail
              refine (hln' _).mono ?_
              rintro e w2 ⟨rfl, rfl⟩
              go_wp2
              go_ret
              exact ⟨_, rfl, by rw [HE.out]; exact own_below2 (own_emptyJ w2 _) hbel.size, hbel.alloc hbel.size _⟩
            · have HA1 : Hid ((L.take (k + 1)).all lineB = true) := all_take hx HA.out hb
              rw [hb] at hln'
              clear hx hrow hb hln HA
              go_wp2_with fail
              refine (hln' _).mono ?_
              rintro e w2 ⟨rfl, rfl⟩
              go_wp2_with (first
                | (at_builtin; refine wpList_append_lies _ rfl _ _ 22 rfl w.heap.size 9 i0 (.string ⟨#[]⟩) 1 16 Tryd.underlying22 hi hz0 hz1 hz2 rfl (by decide) _ _ _ rfl (hown.alloc _) ⟨w2.heap.size, 0, none⟩ 1 1 [.string x] rfl rfl ?c1 ?c2 (by omega) ?c3 ?c4 ?c5 _ rfl ?_)
                | fail)
              case c1 => exact cell_one_new _ _ _
              case c2 => intro u hu; simp at hu; subst hu; rfl
              case c3 => unfold maxLen; omega
              case c4 => omega
              case c5 => have := hbel.size; simp; omega
              · intro g2 cap2 w3 hown3 hgrow hat3 hlt3
                have S1 : SpSt L g w w1.heap.size (k + 1) (.slice (some ⟨g2, 0, none⟩) (k + 1) cap2) w3 := by
                  refine ⟨⟨g2, cap2, rfl, by rw [HT.out]; simpa using hown3, ?_⟩, (hbel.alloc hbel.size _).grown hgrow (by have := hbel.size; simp; omega) (own_blkJ hown), ?_, fun i y hy => ?_⟩
                  · rcases hat3 with h | h
                    · simp [Value.ownBlock] at h; subst h; exact hgb
                    · right; rw [h]; have := World.size_alloc w2; simp; omega
                  · have := hgrow.size; simp at this; omega
                  · refine hgrow.cell (a := ⟨g, i, none⟩) ?_ ?_
                    · rw [World.cell?_alloc_past _ _ _ (by show g < w2.heap.size; omega)]; exact HRow.out i y hy
                    · simp [Value.ownBlock]; omega
                clear hown3 hgrow hat3 hlt3 HRow HT
                go_wp2
                go_roundw
                case rel => exact ⟨k + 1, by omega, by go_num, S1, HA1⟩
                case measure => simp [intOf]; omega
          · have e : k = n := by omega
            subst e
            have HT : Hid (L.take k = L) := List.take_of_length_le (by have := HN.out; omega)
            go_wp2
            go_ret
            have hd := HB4.out (by rw [← HT.out]; exact HA.out)
            refine ⟨_, rfl, ?_, hbel⟩
            rw [hd, HN.out]
            rw [HT.out] at hown
            exact hown
      · have HE : Hid (deskL s = []) := deskL_no (hB2 hm)
        clear hyes hB1 hB2 hB3 hB4 hex1 hex2 hsx hf hn hrow HLe hb0
        go_wp2
        go_ret
        exact ⟨_, rfl, by rw [HE.out]; exact hown0, hbel⟩
    · have HE : Hid (deskL s = []) := deskL_no (hB1 hf)
      have hne := hex2 (by omega)
      clear hyes hB1 hB2 hB3 hB4 hex1 hex2 hsx hf hn hrow HLe hb0
      go_wp2
      go_ret
      exact ⟨_, rfl, by rw [HE.out]; exact hown0, hbel⟩
  · have HL : Hid (deskL s = []) := deskL_long hlong
    go_enter Tryd.func4, Tryd.ntmps4
    go_wp2
    go_ret
    exact ⟨_, rfl, by rw [HL.out]; exact own_emptyJ _ _, (Below.refl _ _).alloc (Nat.le_refl _) _⟩
end Go.Proofs.YtfdnniedcfeiiaaDoor
