/- The model's reader at a line: a link, or none of these. -/
import Derived.Test.YtcelbkmnbjcjhaaRd10w
namespace Go.Proofs.Ytcelbkmnbjcjhaa
open Go.RowKit Go.Sort

set_option maxHeartbeats 2000000 in
theorem rd_lineNone (B p K b n cap : Nat) (rv zv lv : Value) (R : RelD) (evs : List Value) (w : World) (h : RdV w B p rv zv lv false R evs K) (s0 : ByteArray) (hn : 1 ≤ n) (c0 : w.cell? ⟨b, 0, none⟩ = some (.string s0)) (h0 : (s0.toList == [82, 117, 108, 101]) = false) (h1 : (s0.toList == [90, 111, 110, 101]) = false) (h2 : (s0.toList == [76, 105, 110, 107]) = false) :
    Calls Try.prog 56 #[.pointer (some ⟨p, 0, none⟩), .slice (some ⟨b, 0, none⟩) n cap] w fun e w' => LineP B p K w e w' := by
  have c3 := h.c3
  have HP : Hid (LineP B p K w (.returned (.bool false)) w) := ⟨⟨_, _, _, _, _, _, _, rfl, h.more, Below.refl _ _⟩⟩
  clear h
  go_enter Try.func56, Try.ntmps56
  go_wp2
  go_ret
  exact HP.out
set_option maxHeartbeats 2000000 in
theorem rd_lineLink0 (B p K b n cap : Nat) (rv zv lv : Value) (R : RelD) (evs : List Value) (w : World) (h : RdV w B p rv zv lv false R evs K) (s0 : ByteArray) (hn : 1 ≤ n) (hn2 : n ≤ 8001) (hn3 : n ≠ 3) (c0 : w.cell? ⟨b, 0, none⟩ = some (.string s0)) (h0 : (s0.toList == [82, 117, 108, 101]) = false) (h1 : (s0.toList == [90, 111, 110, 101]) = false) (h2 : (s0.toList == [76, 105, 110, 107]) = true) :
    Calls Try.prog 56 #[.pointer (some ⟨p, 0, none⟩), .slice (some ⟨b, 0, none⟩) n cap] w fun e w' => LineP B p K w e w' := by
  have c3 := h.c3
  have hg : ((n : Int) != 3) = true := by simp; omega
  have HP : Hid (LineP B p K w (.returned (.bool false)) w) := ⟨⟨_, _, _, _, _, _, _, rfl, h.more, Below.refl _ _⟩⟩
  clear h
  go_enter Try.func56, Try.ntmps56
  go_wp2
  go_ret
  exact HP.out
set_option maxRecDepth 20000 in
set_option maxHeartbeats 4000000 in
theorem rd_lineLink (B p K b cap : Nat) (rv zv lv : Value) (R : RelD) (evs : List Value) (w : World) (h : RdV w B p rv zv lv false R evs K) (hB : B ≤ w.heap.size) (hK : K ≤ 8001) (tb : ∃ cs, w.heap[b]? = some (.cells cs 9 (0, 0))) (s0 s1 s2 : ByteArray) (c0 : w.cell? ⟨b, 0, none⟩ = some (.string s0)) (c1 : w.cell? ⟨b, 1, none⟩ = some (.string s1)) (c2 : w.cell? ⟨b, 2, none⟩ = some (.string s2)) (z1 : s1.size ≤ 8000) (z2 : s2.size ≤ 8000) (h0 : (s0.toList == [82, 117, 108, 101]) = false) (h1 : (s0.toList == [90, 111, 110, 101]) = false) (h2 : (s0.toList == [76, 105, 110, 107]) = true) :
    Calls Try.prog 56 #[.pointer (some ⟨p, 0, none⟩), .slice (some ⟨b, 0, none⟩) 3 cap] w fun e w' => LineP B p K w e w' := by
  obtain ⟨i0, hi, hz0, hz1, hz2⟩ := infoLink
  have c3 := h.c3
  obtain ⟨ra, rc, hrv⟩ := own_shape h.ll
  subst hrv
  obtain ⟨N, hN⟩ : ∃ N, R.links.length = N := ⟨_, rfl⟩
  have hRR : w.ownsRow B 105 2 (.slice ra N rc) N (R.links.map LinkD.cs).flatten := by have := h.ll; rw [hN] at this; exact this
  have hN8 : N ≤ 8001 := by have := h.sz.2.2; omega
  have q0 : w.cell? ⟨p, 2, none⟩ = some (.slice ra N rc) := by have := h.c2; rw [hN] at this; exact this
  have qf : w.frozen? ⟨p, 2, none⟩ = false := fz_of h.tp 2
  have hne : some p ≠ (Value.slice ra N rc).ownBlock := sepT hRR h.tp tne2
  have HD : Hid (RdV w B p rv zv (.slice ra N rc) false R evs K) := by have := h; rw [hN] at this; exact this
  have HN : Hid (R.links.length = N) := hN
  have ba : ∀ o, Below w.heap.size w (w.drew.alloc o) := fun o => (show Below w.heap.size w w.drew from below_drew w).alloc (Nat.le_refl _) o
  have hplt : p < w.heap.size := World.block_lt_of_cell? _ _ q0
  have hbp : p ≠ b := tp_ne h.tp tb (by decide)
  have hbs : some b ≠ (Value.slice ra N rc).ownBlock := sepT hRR tb (by decide)
  have hN1 := fun w => spec_NameRight s1 w (by unfold maxLen; omega)
  have hN2 := fun w => spec_NameRight s2 w (by unfold maxLen; omega)
  clear h hN tb
  go_enter Try.func56, Try.ntmps56
  go_upto_region 22 with fail
  go_region_law (refine step_append_lies _ (by rfl) (.tmp 129) (.tmp 137) 68 (by rfl) B 105 i0 (.agg #[.string ⟨#[]⟩, .string ⟨#[]⟩]) 2 32 Try.underlying68 hi hz0 hz1 hz2 rfl (by omega) (.slice ra N rc) N (R.links.map LinkD.cs).flatten (by rfl) (World.ownsRow.alloc (w := w.drew) hRR _) ⟨w.heap.size, 0, none⟩ 1 1 [.string s1, .string s2] (by rfl) rfl (cells_new _ _ _) (by intro u hu; simp at hu; rcases hu with rfl | rfl <;> rfl) (by omega) (by unfold maxLen; omega) (by omega) (by simp; omega) _ rfl ?_; intro g1 cap1 w2 hown1 hgrow hat hlt1; have r1 := hgrow.cell (a := ⟨p, 2, none⟩) (bkeep (w1 := w) q0 (ba _)) hne; have r2 := (hgrow.frozen_far ⟨p, 2, none⟩ (by simp; omega) hne).trans (((bcell (ba _)).2 _ _ hplt).trans qf))
  all_goals
    have h3 := (HD.out.below (ba _)).addLink (x := ⟨s1, s2⟩) hgrow (by rw [HN.out]; exact hown1) ⟨z1, z2⟩
    have hb3 := (bel_grown (((ba _).mono hB)) hgrow (World.ownsRow.alloc (w := w.drew) hRR _) (Nat.le_refl _) (by simp; omega)).setCell (p := ⟨p, 2, none⟩) HD.out.hp (.slice (some ⟨g1, 0, none⟩) (N + 1) cap1)
    have HP : Hid (∀ k, LineP B p K w (.returned (.bool k)) (w2.setCell ⟨p, 2, none⟩ (.slice (some ⟨g1, 0, none⟩) (N + 1) cap1))) := fun k => ⟨⟨k, _, _, _, _, _, _, rfl, h3, hb3⟩⟩
    have e1 : (w2.setCell ⟨p, 2, none⟩ (.slice (some ⟨g1, 0, none⟩) (N + 1) cap1)).cell? ⟨b, 1, none⟩ = some (.string s1) := by rw [World.cell?_setCell_other _ _ _ _ (by simp <;> omega)]; exact hgrow.cell (a := ⟨b, 1, none⟩) (bkeep (w1 := w) c1 (ba _)) hbs
    have e2 : (w2.setCell ⟨p, 2, none⟩ (.slice (some ⟨g1, 0, none⟩) (N + 1) cap1)).cell? ⟨b, 2, none⟩ = some (.string s2) := by rw [World.cell?_setCell_other _ _ _ _ (by simp <;> omega)]; exact hgrow.cell (a := ⟨b, 2, none⟩) (bkeep (w1 := w) c2 (ba _)) hbs
    clear h3 hb3 hgrow hat hlt1 r1 r2 hown1
    generalize w2.setCell ⟨p, 2, none⟩ (.slice (some ⟨g1, 0, none⟩) (N + 1) cap1) = w3 at *
    go_wp2_with fail
    refine (hN1 _).mono ?_
    rintro e w4 ⟨rfl, hw4⟩
    have hw4 := hw4.symm
    subst hw4
    cases hk : nameB s1 with
    | false =>
      go_wp2
      go_ret
      exact HP.out _
    | true =>
      go_wp2_with fail
      refine (hN2 _).mono ?_
      rintro e w4 ⟨rfl, hw4⟩
      have hw4 := hw4.symm
      subst hw4
      go_wp2
      go_ret
      exact HP.out _
end Go.Proofs.Ytcelbkmnbjcjhaa
