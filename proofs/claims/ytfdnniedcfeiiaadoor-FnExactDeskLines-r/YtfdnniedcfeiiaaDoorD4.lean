/- The program's lines: a line that may not stand there panics. -/
import Derived.Test.YtfdnniedcfeiiaaDoorD2
import Derived.Test.YtfdnniedcfeiiaaDoorD3
namespace Go.Proofs.YtfdnniedcfeiiaaDoor
open Go.RowKit

/-- the error's variable, in memory. -/
def ErrAt (w : World) (p : Addr) : Prop := w.cell? ⟨0, 0, none⟩ = some (.iface 32 (.pointer (some p)))
/-- what the lines are, or the panic. -/
structure StandP (s : ByteArray) (p : Addr) (w : World) (e : Ending) (w' : World) : Prop where
  yes : deskB s = true → RowP (lfs s s.size).1 w e w'
  no : deskB s = false → e = .panicked [{ v := .iface 32 (.pointer (some p)), recovered := false }] ∧ Below w.heap.size w w'
theorem StandP.row {s : ByteArray} {p : Addr} {w : World} {e : Ending} {w' : World} (hb : deskB s = true) (h : RowP (lfs s s.size).1 w e w') : StandP s p w e w' := ⟨fun _ => h, fun h2 => by rw [hb] at h2; cases h2⟩
theorem StandP.pan {s : ByteArray} {p : Addr} {w w' : World} (hb : deskB s = false) (h : Below w.heap.size w w') : StandP s p w (.panicked [{ v := .iface 32 (.pointer (some p)), recovered := false }]) w' := ⟨fun h2 => (by rw [hb] at h2; cases h2), fun _ => ⟨rfl, h⟩⟩
theorem iterPos_of {w : World} {k : Nat} {s : ByteArray} {p : Nat} (h : w.heap[k]? = some (.stringIter s p)) : w.iterPos k = p := by unfold World.iterPos; rw [h]
theorem own_slice {w : World} {base : Nat} {e : TypeId} {size : Nat} {v : Value} {n : Nat} {xs : List Value} (h : w.ownsRow base e size v n xs) : ∃ a c, v = .slice a n c := by
  rcases h.2 with ⟨rfl, rfl⟩ | ⟨g, cap, cur, rfl, _⟩
  · exact ⟨_, _, rfl⟩
  · exact ⟨_, _, rfl⟩
structure StSt (s : ByteArray) (w : World) (pos : Nat) (v : Value) (n : Nat) (L : List Value) (wr : World) : Prop where
  own : wr.ownsRow (w.heap.size + 1) 9 1 v n L
  it : wr.heap[w.heap.size]? = some (.stringIter s pos)
  bel : Below w.heap.size w wr
theorem StSt.next {s : ByteArray} {w : World} {pos : Nat} {v : Value} {n : Nat} {L : List Value} {wr : World} (h : StSt s w pos v n L wr) (pos' : Nat) : StSt s w pos' v n L (wr.iterAt w.heap.size s pos') := by
  refine ⟨?_, Lib.iterAt_heap _ _ _ _ _ h.it, Lib.below_iterAt h.bel (Nat.le_refl _) _ _⟩
  refine ⟨h.own.1, ?_⟩
  rcases h.own.2 with h1 | ⟨g, cap, cur, h1, h2, h3, h4⟩
  · exact .inl h1
  · exact .inr ⟨g, cap, cur, h1, h2, by rw [Lib.iterAt_other _ _ _ _ _ (by omega)]; exact h3, h4⟩
theorem StSt.size {s : ByteArray} {w : World} {pos : Nat} {v : Value} {n : Nat} {L : List Value} {wr : World} (h : StSt s w pos v n L wr) : w.heap.size + 1 ≤ wr.heap.size := (Array.getElem?_eq_some_iff.1 h.it).1
theorem StSt.grown {s : ByteArray} {w : World} {pos n m : Nat} {v v' : Value} {L M : List Value} {wr w2 : World} (h : StSt s w pos v n L wr) (o : Obj) (hg : (wr.alloc o).grownBy w2 v.ownBlock) (hown : w2.ownsRow (w.heap.size + 1) 9 1 v' m M) : StSt s w pos v' m M w2 := by
  have hs := h.size
  refine ⟨hown, ?_, (h.bel.alloc h.bel.size _).grown hg (by simp; omega) fun k hk => by have := own_blkJ h.own k hk; omega⟩
  rw [hg.block _ (by simp; omega) (fun e => by have := own_blkJ h.own _ e.symm; omega)]
  have he : (wr.alloc o).heap[w.heap.size]? = wr.heap[w.heap.size]? := heap_alloc_old wr o (by omega)
  exact he.trans h.it
set_option maxRecDepth 20000 in
set_option maxHeartbeats 4000000 in
theorem impl_standing (s : ByteArray) (p : Addr) (w : World) (hs : s.size ≤ 8000) (hp : ErrAt w p) :
    Calls Tryd.prog 12 #[.string s] w (StandP s p w) := by
  obtain ⟨i0, hi, hz0, hz1, hz2⟩ := info9J
  have hln := fun x w hx => impl_lineRight x w hx
  have HG : Hid (∀ wr, Below w.heap.size w wr → wr.cell? ⟨0, 0, none⟩ = some (.iface 32 (.pointer (some p)))) := fun wr hb => by
    rw [hb.cell (p := ⟨0, 0, none⟩) (World.block_lt_of_cell? w _ hp)]; exact hp
  have S0 : StSt s w 0 (.slice none 0 0) 0 [] (w.iter s 0) := ⟨World.ownsRow_nil _ _ _ _, World.iter_heap _ _ _, (Below.refl _ _).alloc (Nat.le_refl _) _⟩
  clear hp
  go_enter Tryd.func12, Tryd.ntmps12
  go_wp2
  go_loopw [3, 4] (fun v f wr => ∃ pos : Nat, pos ≤ s.size ∧ f = .int .i64 (lfs s pos).2 ∧ StSt s w pos v (lfs s pos).1.length ((lfs s pos).1.map Value.string) wr ∧ (lfs s pos).1.length ≤ 40 ∧ Hid ((lfs s pos).1.all lineB = true)) (fun _ _ wr => s.size - wr.iterPos w.heap.size)
  case atStart => exact ⟨0, by omega, rfl, S0, by simp [lfs], rfl⟩
  case round =>
    obtain ⟨pos, hpos, rfl, hst, h40, HA⟩ := hrel
    have hbd := lfs_bd s pos
    have hip := iterPos_of hst.it
    clear S0
    by_cases hlt : pos < s.size
    · by_cases hc : byteAt s pos = 10
      · have hd := dec_lf hlt hc
        have hnx : ∀ ty, (Instr.next (.pointer (some ⟨w.heap.size, 0, none⟩)) true ty).run Tryd.prog wr = .ok (.tuple #[.bool true, .int .i64 pos, .int .i32 10]) (wr.iterAt w.heap.size s (pos + 1)) := fun ty => by
          have := Lib.run_next_any_at (P := Tryd.prog) wr w.heap.size s pos ty hst.it hlt
          rw [hd] at this; exact this
        have hst1 := hst.next (pos + 1)
        have HS : Hid (lfs s (pos + 1) = ((lfs s pos).1 ++ [s.extract (lfs s pos).2 pos], pos + 1)) := lfs_hit hc
        have HX : Hid (∀ w, Calls Tryd.prog 14 #[.string (s.extract (lfs s pos).2 pos)] w fun e w' => e = .returned (.bool (lineB (s.extract (lfs s pos).2 pos))) ∧ w' = w) := fun w => hln _ w (by rw [ByteArray.size_extract]; omega)
        have cG := HG.out _ hst1.bel
        have HIP : Hid (wr.iterPos w.heap.size = pos) := hip
        have H41 : Hid ((lfs s pos).1.length = 40 → deskB s = false) := desk_41 hlt hc
        have HBad : Hid (lineB (s.extract (lfs s pos).2 pos) = false → deskB s = false) := desk_bad hlt hc
        clear hst hln hd hip hc
        generalize hwe : wr.iterAt w.heap.size s (pos + 1) = wn at *
        generalize (lfs s pos).2 = f at *
        generalize (lfs s pos).1 = L at *
        obtain ⟨n, hn⟩ : ∃ n, L.length = n := ⟨_, rfl⟩
        have HN : Hid (L.length = n) := hn
        rw [hn] at h40 H41 hst1 hbd
        clear hn
        obtain ⟨a3, c3, e3⟩ := own_slice hst1.own
        subst e3
        by_cases h4 : n = 40
        · have hb := H41.out h4
          subst h4
          go_wp2
          exact ⟨rfl, StandP.pan hb hst1.bel⟩
        · have h4' : ¬ ((n : Int) = 40) := by omega
          cases hl : lineB (s.extract f pos)
          · have hb := HBad.out hl
            rw [hl] at HX
            have HX' := HX.out
            go_wp2_with fail
            refine (HX' _).mono ?_
            rintro e w2 ⟨rfl, h2⟩
            subst h2
            go_wp2
            exact ⟨rfl, StandP.pan hb hst1.bel⟩
          · rw [hl] at HX
            have HX' := HX.out
            have hown := hst1.own
            have HA1 : Hid ((L ++ [s.extract f pos]).all lineB = true) := by simp only [Hid]; rw [List.all_append, HA.out]; simp [hl]
            have HST : Hid (StSt s w (pos + 1) _ n (L.map Value.string) wn) := hst1
            have hsz := hst1.size
            clear hst1 HA H41 HBad hl cG
            go_wp2_with fail
            refine (HX' _).mono ?_
            rintro e w2 ⟨rfl, h2⟩
            subst h2
            go_wp2_with (first
              | (at_builtin; refine wpList_append_own _ rfl _ _ 22 rfl (w.heap.size + 1) 9 i0 (.string ⟨#[]⟩) 1 16 Tryd.underlying22 hi hz0 hz1 hz2 rfl (by decide) _ _ _ rfl (hown.alloc _) ⟨w2.heap.size, 0, none⟩ 1 1 [.string (s.extract f pos)] rfl rfl ?c1 ?c2 ?c3 ?c4 ?c5 ?_)
              | fail)
            case c1 => exact cell_one_new _ _ _
            case c2 => intro u hu; simp at hu; subst hu; rfl
            case c3 => unfold maxLen; omega
            case c4 => omega
            case c5 => simp; omega
            · intro v' w3 hown' hgrow _
              have S1 : Hid (StSt s w (pos + 1) v' (L ++ [s.extract f pos]).length ((L ++ [s.extract f pos]).map Value.string) w3) := by
                have := HST.out.grown _ hgrow hown'
                simp only [Hid, List.length_append, HN.out, List.length_singleton, List.map_append, List.map_cons, List.map_nil]
                exact this
              have H40 : Hid ((L ++ [s.extract f pos]).length ≤ 40) := by simp only [Hid, List.length_append, HN.out, List.length_singleton]; omega
              clear hown' hgrow hown HST
              go_wp2
              go_roundw
              case rel => exact ⟨pos + 1, by omega, by rw [HS.out]; go_num, by rw [HS.out]; exact S1.out, by rw [HS.out]; exact H40.out, by rw [HS.out]; exact HA1⟩
              case measure => rw [iterPos_of S1.out.it, HIP.out]; omega
      · obtain ⟨d1, d2, d3, d4, d5⟩ := dec_other hlt hc
        have hnx : ∀ ty, (Instr.next (.pointer (some ⟨w.heap.size, 0, none⟩)) true ty).run Tryd.prog wr = .ok (.tuple #[.bool true, .int .i64 pos, .int .i32 (Utf8.decode s pos).1]) (wr.iterAt w.heap.size s (pos + (Utf8.decode s pos).2)) := fun ty => Lib.run_next_any_at (P := Tryd.prog) wr w.heap.size s pos ty hst.it hlt
        have S1 : Hid (StSt s w (pos + (Utf8.decode s pos).2) u3 (lfs s (pos + (Utf8.decode s pos).2)).1.length ((lfs s (pos + (Utf8.decode s pos).2)).1.map Value.string) (wr.iterAt w.heap.size s (pos + (Utf8.decode s pos).2))) := by simp only [Hid]; rw [d5]; exact hst.next _
        have HIP : Hid (wr.iterPos w.heap.size = pos) := hip
        have HD : Hid (lfs s (pos + (Utf8.decode s pos).2) = lfs s pos) := d5
        have hne : ¬ (((Utf8.decode s pos).1 : Int) = 10) := by omega
        clear hst hln d5 hip hc
        generalize (Utf8.decode s pos).1 = r at *
        generalize (Utf8.decode s pos).2 = d at *
        generalize wr.iterAt w.heap.size s (pos + d) = wn at *
        go_wp2
        go_roundw
        case rel => exact ⟨pos + d, by omega, by rw [HD.out], S1.out, by rw [HD.out]; exact h40, by rw [HD.out]; exact HA⟩
        case measure => rw [iterPos_of S1.out.it, HIP.out]; omega
    · have e : pos = s.size := by omega
      subst e
      have hnx : ∀ ty, (Instr.next (.pointer (some ⟨w.heap.size, 0, none⟩)) true ty).run Tryd.prog wr = .ok (.tuple #[.bool false]) wr := fun ty => Lib.run_next_end_at (P := Tryd.prog) wr w.heap.size s s.size ty hst.it hlt
      have cG := HG.out _ hst.bel
      by_cases hf : (lfs s s.size).2 = s.size
      · have hb := deskB_yes hf h40 HA.out
        obtain ⟨a3, c3, e3⟩ := own_slice hst.own
        subst e3
        have HRH : Hid (StandP s p w (.returned (.slice a3 (lfs s s.size).1.length c3)) wr) := StandP.row hb ⟨_, rfl, own_below2 hst.own (by omega), hst.bel⟩
        clear hst hip hln HA hbd
        generalize (lfs s s.size).2 = f at *
        generalize (lfs s s.size).1 = L at *
        subst hf
        go_wp2
        go_ret
        exact HRH.out
      · have hb := deskB_end hf
        have hB := hst.bel
        clear hst hip hln HA
        have hlt2 : (lfs s s.size).2 < s.size := by omega
        generalize (lfs s s.size).2 = f at *
        generalize (lfs s s.size).1 = L at *
        go_wp2
        exact ⟨rfl, StandP.pan hb hB⟩
end Go.Proofs.YtfdnniedcfeiiaaDoor
