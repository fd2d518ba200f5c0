/- Packed: Rd10 Rd11. -/
import Derived.Test.YtcelbkmnbjcjhaaGreatRd6d
import Derived.Test.YtcelbkmnbjcjhaaGreatRd8d
import Derived.Test.YtcelbkmnbjcjhaaGreatRdCd
import Derived.Test.YtcelbkmnbjcjhaaGreatRelAd
import Derived.Deep.RegionLaw
namespace Go.Proofs.YtcelbkmnbjcjhaaGreat
open Go.RowKit Go.Sort

/-- what a line leaves. -/
structure LineP (B p K : Nat) (w : World) (e : Ending) (w' : World) : Prop where
 ex : ∃ (ok : Bool) (rv zv lv : Value) (more : Bool) (R : RelD) (evs : List Value), e = .returned (.bool ok) ∧ RdV w' B p rv zv lv more R evs (K + 1) ∧ Below B w w'
theorem own_shape {w : World} {base : Nat} {e : TypeId} {size : Nat} {v : Value} {n : Nat} {xs : List Value} (h : w.ownsRow base e size v n xs) : ∃ a cap, v = .slice a n cap := by
 rcases h.2 with ⟨rfl, rfl⟩ | ⟨g, cap, cur, rfl, _⟩
 ·
  exact ⟨none, 0, rfl⟩
 ·
  exact ⟨_, cap, rfl⟩
theorem bel_grown {B : Nat} {w w1 w2 : World} {v : Value} {base : Nat} {e : TypeId} {size n : Nat} {xs : List Value} (hb : Below B w w1) (hg : w1.grownBy w2 v.ownBlock) (ho : w1.ownsRow base e size v n xs) (hB : B ≤ base) (hs : B ≤ w1.heap.size) : Below B w w2 :=
 hb.grown hg hs (fun k hk => Nat.le_trans hB (World.ownsRow.lt ho k hk).1)
set_option maxRecDepth 20000 in
set_option maxHeartbeats 4000000 in
theorem rd_lineRule (B p K b n cap : Nat) (rv zv lv : Value) (R : RelD) (evs : List Value) (w : World) (h : RdV w B p rv zv lv false R evs K) (hB : B ≤ w.heap.size) (hK : K ≤ 8001) (hW : WrdAt w b 0 n) (hn : 1 ≤ n) (s0 : ByteArray) (c0 : w.cell? ⟨b, 0, none⟩ = some (.string s0)) (h0 : (s0.toList == [82, 117, 108, 101]) = true) :
  Calls Tryz.prog 63 #[.pointer (some ⟨p, 0, none⟩), .slice (some ⟨b, 0, none⟩) n cap] w fun e w' => LineP B p K w e w' := by
 obtain ⟨i0, hi, hz0, hz1, hz2⟩ := infoRule
 have c3 := h.c3
 go_enter Tryz.func63, Tryz.ntmps63
 go_wp2_with fail
 refine (rd_ReadRule b 0 n cap _ hW).mono ?_
 rintro e w1 hP
 obtain ⟨⟨n0, l0, h0, m0, o0, a0, f0, v0, e0⟩, kx, rfl, hX8, hb1⟩ := hP.ex
 unfold RuleD.v
 have h1 := h.below hb1
 clear hP c3 c0
 go_upto_region 10 with fail
 obtain ⟨wv, hwv⟩ : ∃ x : World, (w1.alloc (.cells #[.string n0, .int .i64 l0, .int .i64 h0, .int .i64 m0, .string o0, .int .i64 a0, .string f0, .int .i64 v0, .string e0] 117)) = x := ⟨_, rfl⟩
 have hbv : Below w1.heap.size w1 wv := by rw [← hwv]; exact (Below.refl _ _).alloc (Nat.le_refl _) _
 have k0 : wv.cell? ⟨w1.heap.size, 0, none⟩ = some (.string n0) := by rw [← hwv]; simp [go_sem]
 have k1 : wv.cell? ⟨w1.heap.size, 1, none⟩ = some (.int .i64 l0) := by rw [← hwv]; simp [go_sem]
 have k2 : wv.cell? ⟨w1.heap.size, 2, none⟩ = some (.int .i64 h0) := by rw [← hwv]; simp [go_sem]
 have k3 : wv.cell? ⟨w1.heap.size, 3, none⟩ = some (.int .i64 m0) := by rw [← hwv]; simp [go_sem]
 have k4 : wv.cell? ⟨w1.heap.size, 4, none⟩ = some (.string o0) := by rw [← hwv]; simp [go_sem]
 have k5 : wv.cell? ⟨w1.heap.size, 5, none⟩ = some (.int .i64 a0) := by rw [← hwv]; simp [go_sem]
 have k6 : wv.cell? ⟨w1.heap.size, 6, none⟩ = some (.string f0) := by rw [← hwv]; simp [go_sem]
 have k7 : wv.cell? ⟨w1.heap.size, 7, none⟩ = some (.int .i64 v0) := by rw [← hwv]; simp [go_sem]
 have k8 : wv.cell? ⟨w1.heap.size, 8, none⟩ = some (.string e0) := by rw [← hwv]; simp [go_sem]
 have h2 := h1.below hbv
 have hBv : B ≤ wv.heap.size := Nat.le_trans hB (Nat.le_trans hb1.size hbv.size)
 have hbw : Below B w wv := (hb1.mono hB).trans (hbv.mono (Nat.le_trans hB hb1.size))
 rw [hwv]
 clear hwv
 obtain ⟨ra, rc, hrv⟩ := own_shape h2.rr
 subst hrv
 obtain ⟨N, hN⟩ : ∃ N, R.rules.length = N := ⟨_, rfl⟩
 have hRR : wv.ownsRow B 117 9 (.slice ra N rc) N (R.rules.map RuleD.cs).flatten := by have := h2.rr; rw [hN] at this; exact this
 have hN8 : N ≤ 8001 := by have := h2.sz.1; omega
 have q0 : wv.cell? ⟨p, 0, none⟩ = some (.slice ra N rc) := by have := h2.c0; rw [hN] at this; exact this
 have qf : wv.frozen? ⟨p, 0, none⟩ = false := fz_of h2.tp 0
 have hne : some p ≠ (Value.slice ra N rc).ownBlock := sepT hRR h2.tp tne1
 have HD : Hid (RdV wv B p (.slice ra N rc) zv lv false R evs K) := by have := h2; rw [hN] at this; exact this
 have HN : Hid (R.rules.length = N) := hN
 have ba : ∀ o, Below wv.heap.size wv (wv.drew.alloc o) := fun o => (show Below wv.heap.size wv wv.drew from below_drew wv).alloc (Nat.le_refl _) o
 have hplt : p < wv.heap.size := World.block_lt_of_cell? _ _ q0
 clear h2 h1 h hb1 hbv hN
 go_region_law (refine step_append_lies _ (by rfl) (.tmp 71) (.tmp 73) 86 (by rfl) B 117 i0 (.agg #[.string ⟨#[]⟩, .int .i64 0, .int .i64 0, .int .i64 0, .string ⟨#[]⟩, .int .i64 0, .string ⟨#[]⟩, .int .i64 0, .string ⟨#[]⟩]) 9 104 Tryz.underlying86 hi hz0 hz1 hz2 rfl (by omega) (.slice ra N rc) N (R.rules.map RuleD.cs).flatten (by rfl) (World.ownsRow.alloc (w := wv.drew) hRR _) ⟨wv.heap.size, 0, none⟩ 1 1 [.string n0, .int .i64 l0, .int .i64 h0, .int .i64 m0, .string o0, .int .i64 a0, .string f0, .int .i64 v0, .string e0] (by rfl) rfl (cells_new _ _ _) (by intro u hu; simp at hu; rcases hu with rfl | rfl | rfl | rfl | rfl | rfl | rfl | rfl | rfl <;> rfl) (by omega) (by unfold maxLen; omega) (by omega) (by simp; omega) _ rfl ?_; intro g1 cap1 w2 hown1 hgrow hat hlt1; have r1 := hgrow.cell (a := ⟨p, 0, none⟩) (bkeep (w1 := wv) q0 (ba _)) hne; have r2 := (hgrow.frozen_far ⟨p, 0, none⟩ (by simp; omega) hne).trans (((bcell (ba _)).2 _ _ hplt).trans qf))
 all_goals
  have h3 := (HD.out.below (ba _)).addRule (x := ⟨n0, l0, h0, m0, o0, a0, f0, v0, e0⟩) hgrow (by rw [HN.out]; exact hown1) hX8
  have hb3 := (bel_grown (hbw.trans ((ba _).mono hBv)) hgrow (World.ownsRow.alloc (w := wv.drew) hRR _) (Nat.le_refl _) (by simp; omega)).setCell (p := ⟨p, 0, none⟩) HD.out.hp (.slice (some ⟨g1, 0, none⟩) (N + 1) cap1)
  have HP : Hid (∀ k, LineP B p K w (.returned (.bool k)) (w2.setCell ⟨p, 0, none⟩ (.slice (some ⟨g1, 0, none⟩) (N + 1) cap1))) := fun k => ⟨⟨k, _, _, _, _, _, _, rfl, h3, hb3⟩⟩
  clear h3 hb3 hgrow hat hlt1 r1 r2 hown1
  generalize w2.setCell ⟨p, 0, none⟩ (.slice (some ⟨g1, 0, none⟩) (N + 1) cap1) = w3 at *
  go_wp2
  go_ret
  exact HP.out _
end Go.Proofs.YtcelbkmnbjcjhaaGreat
namespace Go.Proofs.YtcelbkmnbjcjhaaGreat
open Go.RowKit Go.Sort

set_option maxHeartbeats 2000000 in
theorem rd_lineNone (B p K b n cap : Nat) (rv zv lv : Value) (R : RelD) (evs : List Value) (w : World) (h : RdV w B p rv zv lv false R evs K) (s0 : ByteArray) (hn : 1 ≤ n) (c0 : w.cell? ⟨b, 0, none⟩ = some (.string s0)) (h0 : (s0.toList == [82, 117, 108, 101]) = false) (h1 : (s0.toList == [90, 111, 110, 101]) = false) (h2 : (s0.toList == [76, 105, 110, 107]) = false) :
  Calls Tryz.prog 63 #[.pointer (some ⟨p, 0, none⟩), .slice (some ⟨b, 0, none⟩) n cap] w fun e w' => LineP B p K w e w' := by
 have c3 := h.c3
 have HP : Hid (LineP B p K w (.returned (.bool false)) w) := ⟨⟨_, _, _, _, _, _, _, rfl, h.more, Below.refl _ _⟩⟩
 clear h
 go_enter Tryz.func63, Tryz.ntmps63
 go_wp2
 go_ret
 exact HP.out
set_option maxHeartbeats 2000000 in
theorem rd_lineLink0 (B p K b n cap : Nat) (rv zv lv : Value) (R : RelD) (evs : List Value) (w : World) (h : RdV w B p rv zv lv false R evs K) (s0 : ByteArray) (hn : 1 ≤ n) (hn2 : n ≤ 8001) (hn3 : n ≠ 3) (c0 : w.cell? ⟨b, 0, none⟩ = some (.string s0)) (h0 : (s0.toList == [82, 117, 108, 101]) = false) (h1 : (s0.toList == [90, 111, 110, 101]) = false) (h2 : (s0.toList == [76, 105, 110, 107]) = true) :
  Calls Tryz.prog 63 #[.pointer (some ⟨p, 0, none⟩), .slice (some ⟨b, 0, none⟩) n cap] w fun e w' => LineP B p K w e w' := by
 have c3 := h.c3
 have hg : ((n : Int) != 3) = true := by simp; omega
 have HP : Hid (LineP B p K w (.returned (.bool false)) w) := ⟨⟨_, _, _, _, _, _, _, rfl, h.more, Below.refl _ _⟩⟩
 clear h
 go_enter Tryz.func63, Tryz.ntmps63
 go_wp2
 go_ret
 exact HP.out
set_option maxRecDepth 20000 in
set_option maxHeartbeats 4000000 in
theorem rd_lineLink (B p K b cap : Nat) (rv zv lv : Value) (R : RelD) (evs : List Value) (w : World) (h : RdV w B p rv zv lv false R evs K) (hB : B ≤ w.heap.size) (hK : K ≤ 8001) (tb : ∃ cs, w.heap[b]? = some (.cells cs 9 (0, 0))) (s0 s1 s2 : ByteArray) (c0 : w.cell? ⟨b, 0, none⟩ = some (.string s0)) (c1 : w.cell? ⟨b, 1, none⟩ = some (.string s1)) (c2 : w.cell? ⟨b, 2, none⟩ = some (.string s2)) (z1 : s1.size ≤ 8000) (z2 : s2.size ≤ 8000) (h0 : (s0.toList == [82, 117, 108, 101]) = false) (h1 : (s0.toList == [90, 111, 110, 101]) = false) (h2 : (s0.toList == [76, 105, 110, 107]) = true) :
  Calls Tryz.prog 63 #[.pointer (some ⟨p, 0, none⟩), .slice (some ⟨b, 0, none⟩) 3 cap] w fun e w' => LineP B p K w e w' := by
 obtain ⟨i0, hi, hz0, hz1, hz2⟩ := infoLink
 have c3 := h.c3
 obtain ⟨ra, rc, hrv⟩ := own_shape h.ll
 subst hrv
 obtain ⟨N, hN⟩ : ∃ N, R.links.length = N := ⟨_, rfl⟩
 have hRR : w.ownsRow B 124 2 (.slice ra N rc) N (R.links.map LinkD.cs).flatten := by have := h.ll; rw [hN] at this; exact this
 have hN8 : N ≤ 8001 := by have := h.sz.2.2; omega
 have q0 : w.cell? ⟨p, 2, none⟩ = some (.slice ra N rc) := by have := h.c2; rw [hN] at this; exact this
 have qf : w.frozen? ⟨p, 2, none⟩ = false := fz_of h.tp 2
 have hne : some p ≠ (Value.slice ra N rc).ownBlock := sepT hRR h.tp tne2
 have HD : Hid (RdV w B p rv zv (.slice ra N rc) false R evs K) := by have := h; rw [hN] at this; exact this
 have HN : Hid (R.links.length = N) := hN
 have ba : ∀ o, Below w.heap.size w (w.drew.alloc o) := fun o => (show Below w.heap.size w w.drew from below_drew w).alloc (Nat.le_refl _) o
 have hplt : p < w.heap.size := World.block_lt_of_cell? _ _ q0
 have hbp : p ≠ b := tp_ne h.tp tb (by decide)
 have hbs : some b ≠ (Value.slice ra N rc).ownBlock := sepT hRR tb (by decide)
 have hN1 := fun w => spec_NameRight s1 w (by unfold maxLen; omega)
 have hN2 := fun w => spec_NameRight s2 w (by unfold maxLen; omega)
 clear h hN tb
 go_enter Tryz.func63, Tryz.ntmps63
 go_upto_region 22 with fail
 go_region_law (refine step_append_lies _ (by rfl) (.tmp 129) (.tmp 137) 88 (by rfl) B 124 i0 (.agg #[.string ⟨#[]⟩, .string ⟨#[]⟩]) 2 32 Tryz.underlying88 hi hz0 hz1 hz2 rfl (by omega) (.slice ra N rc) N (R.links.map LinkD.cs).flatten (by rfl) (World.ownsRow.alloc (w := w.drew) hRR _) ⟨w.heap.size, 0, none⟩ 1 1 [.string s1, .string s2] (by rfl) rfl (cells_new _ _ _) (by intro u hu; simp at hu; rcases hu with rfl | rfl <;> rfl) (by omega) (by unfold maxLen; omega) (by omega) (by simp; omega) _ rfl ?_; intro g1 cap1 w2 hown1 hgrow hat hlt1; have r1 := hgrow.cell (a := ⟨p, 2, none⟩) (bkeep (w1 := w) q0 (ba _)) hne; have r2 := (hgrow.frozen_far ⟨p, 2, none⟩ (by simp; omega) hne).trans (((bcell (ba _)).2 _ _ hplt).trans qf))
 all_goals
  have h3 := (HD.out.below (ba _)).addLink (x := ⟨s1, s2⟩) hgrow (by rw [HN.out]; exact hown1) ⟨z1, z2⟩
  have hb3 := (bel_grown (((ba _).mono hB)) hgrow (World.ownsRow.alloc (w := w.drew) hRR _) (Nat.le_refl _) (by simp; omega)).setCell (p := ⟨p, 2, none⟩) HD.out.hp (.slice (some ⟨g1, 0, none⟩) (N + 1) cap1)
  have HP : Hid (∀ k, LineP B p K w (.returned (.bool k)) (w2.setCell ⟨p, 2, none⟩ (.slice (some ⟨g1, 0, none⟩) (N + 1) cap1))) := fun k => ⟨⟨k, _, _, _, _, _, _, rfl, h3, hb3⟩⟩
  have e1 : (w2.setCell ⟨p, 2, none⟩ (.slice (some ⟨g1, 0, none⟩) (N + 1) cap1)).cell? ⟨b, 1, none⟩ = some (.string s1) := by rw [World.cell?_setCell_other _ _ _ _ (by simp <;> omega)]; exact hgrow.cell (a := ⟨b, 1, none⟩) (bkeep (w1 := w) c1 (ba _)) hbs
  have e2 : (w2.setCell ⟨p, 2, none⟩ (.slice (some ⟨g1, 0, none⟩) (N + 1) cap1)).cell? ⟨b, 2, none⟩ = some (.string s2) := by rw [World.cell?_setCell_other _ _ _ _ (by simp <;> omega)]; exact hgrow.cell (a := ⟨b, 2, none⟩) (bkeep (w1 := w) c2 (ba _)) hbs
  clear h3 hb3 hgrow hat hlt1 r1 r2 hown1
  generalize w2.setCell ⟨p, 2, none⟩ (.slice (some ⟨g1, 0, none⟩) (N + 1) cap1) = w3 at *
  go_wp2_with fail
  refine (hN1 _).mono ?_
  rintro e w4 ⟨rfl, hw4⟩
  have hw4 := hw4.symm
  subst hw4
  cases hk : nameB s1 with
  | false =>
   go_wp2
   go_ret
   exact HP.out _
  | true =>
   go_wp2_with fail
   refine (hN2 _).mono ?_
   rintro e w4 ⟨rfl, hw4⟩
   have hw4 := hw4.symm
   subst hw4
   go_wp2
   go_ret
   exact HP.out _
end Go.Proofs.YtcelbkmnbjcjhaaGreat
