/- The model's reader at a line: another era of the last zone. -/
import Derived.Test.YtcelbkmnbjcjhaaGreatRdHd
import Derived.Test.YtcelbkmnbjcjhaaGreatRdCd
import Derived.Deep.Cut
namespace Go.Proofs.YtcelbkmnbjcjhaaGreat
open Go.RowKit Go.Sort

theorem last_of_len {α : Type} {l : List α} (h : 1 ≤ l.length) : ∃ a x, l = a ++ [x] := by
 rcases List.eq_nil_or_concat l with rfl | ⟨a, x, rfl⟩
 ·
  simp at h
 ·
  exact ⟨a, x, by simp⟩
set_option maxRecDepth 20000 in
set_option maxHeartbeats 60000000 in
theorem rd_lineMore (B p K b n cap : Nat) (rv zv lv : Value) (R : RelD) (evs : List Value) (w : World) (h : RdV w B p rv zv lv true R evs K) (hB : B ≤ w.heap.size) (hK : K ≤ 8001) (hn2 : n ≤ 8001) (hcap : n ≤ cap) (hW : WrdAt w b 0 n) :
  Calls Tryz.prog 63 #[.pointer (some ⟨p, 0, none⟩), .slice (some ⟨b, 0, none⟩) n cap] w fun e w' => LineP B p K w e w' := by
 obtain ⟨i0, hi, hz0, hz1, hz2⟩ := infoEra
 obtain ⟨Rs, zones, Ls⟩ := R
 obtain ⟨Zs, z, rfl⟩ := last_of_len (h.mo rfl)
 obtain ⟨Es, ev, rfl⟩ := last_of_len (l := evs) (by rw [h.el]; simp)
 have hel : Es.length = Zs.length := by have := h.el; simpa using this
 have c3 := h.c3
 go_enter Tryz.func63, Tryz.ntmps63
 go_wp2_with fail
 refine (rd_ReadEra b 0 n cap _ hn2 hcap hW).mono ?_
 rintro e w1 hP
 obtain ⟨⟨e0, e1, e2, e3, e4, e5⟩, m2, kx, rfl, hX8, hb1⟩ := hP.ex
 unfold EraD.v
 have h1 := h.below hb1
 clear hP c3
 go_upto_region 3 with fail
 obtain ⟨wv, hwv⟩ : ∃ x : World, (w1.alloc (.cells #[.int .i64 e0, .string e1, .int .i64 e2, .string e3, .int .i64 e4, .string e5] 130)) = x := ⟨_, rfl⟩
 have hbv : Below w1.heap.size w1 wv := by rw [← hwv]; exact (Below.refl _ _).alloc (Nat.le_refl _) _
 have k0 : wv.cell? ⟨w1.heap.size, 0, none⟩ = some (.int .i64 e0) := by rw [← hwv]; simp [go_sem]
 have k1 : wv.cell? ⟨w1.heap.size, 1, none⟩ = some (.string e1) := by rw [← hwv]; simp [go_sem]
 have k2 : wv.cell? ⟨w1.heap.size, 2, none⟩ = some (.int .i64 e2) := by rw [← hwv]; simp [go_sem]
 have k3 : wv.cell? ⟨w1.heap.size, 3, none⟩ = some (.string e3) := by rw [← hwv]; simp [go_sem]
 have k4 : wv.cell? ⟨w1.heap.size, 4, none⟩ = some (.int .i64 e4) := by rw [← hwv]; simp [go_sem]
 have k5 : wv.cell? ⟨w1.heap.size, 5, none⟩ = some (.string e5) := by rw [← hwv]; simp [go_sem]
 have h2 := h1.below hbv
 have hBv : B ≤ wv.heap.size := Nat.le_trans hB (Nat.le_trans hb1.size hbv.size)
 have hbw : Below B w wv := (hb1.mono hB).trans (hbv.mono (Nat.le_trans hB hb1.size))
 rw [hwv]
 clear hwv
 obtain ⟨L, hL⟩ : ∃ L, Zs.length = L := ⟨_, rfl⟩
 obtain ⟨M, hM⟩ : ∃ M, z.eras.length = M := ⟨_, rfl⟩
 have hzz : wv.ownsRow B 121 2 zv (L + 1) (zrows (Zs ++ [z]) (Es ++ [ev])).flatten := by have := h2.zz; rw [← hL]; simpa using this
 obtain ⟨gz, cz, hzv, _, _⟩ := hzz.form (by omega)
 subst hzv
 obtain ⟨hev, hM1, hMK⟩ := h2.ee Zs.length z ev (by simp) (by rw [← hel]; simp)
 rw [hM] at hev hM1 hMK
 obtain ⟨ge, ce, hvv, _, _⟩ := hev.form (by omega)
 subst hvv
 have hL8 : L ≤ 8001 := by have := h2.sz.2.1; simp at this; omega
 have q0 : wv.cell? ⟨p, 1, none⟩ = some (.slice (some ⟨gz, 0, none⟩) (L + 1) cz) := h2.c1
 have qz : wv.cell? ⟨gz, L * 2 + 1, none⟩ = some (.slice (some ⟨ge, 0, none⟩) M ce) := by
  rw [hzz.cellAt (L * 2 + 1) (by omega), zrows_snoc hel, List.flatten_append, List.getElem?_append_right (by rw [zrows_len _ _ hel]; omega), zrows_len _ _ hel, hL]
  rw [show L * 2 + 1 - L * 2 = 1 by omega]
  rfl
 have zf : wv.frozen? ⟨gz, L * 2 + 1, none⟩ = false := hzz.frozenAt _
 have hne : some p ≠ (Value.slice (some ⟨ge, 0, none⟩) M ce).ownBlock := sepT hev h2.tp tne4
 have hgz : ∃ cur, wv.heap[gz]? = some (.cells cur 121 (0, 0)) := own_at hzz rfl
 have hnz : some gz ≠ (Value.slice (some ⟨ge, 0, none⟩) M ce).ownBlock := sepT hev hgz (Ne.symm tne0)
 have hpg : p ≠ gz := tp_ne h2.tp hgz (Ne.symm tne3)
 have HD : Hid (RdV wv B p rv (.slice (some ⟨gz, 0, none⟩) (Zs.length + 1) cz) lv true ⟨Rs, Zs ++ [z], Ls⟩ (Es ++ [.slice (some ⟨ge, 0, none⟩) M ce]) K) := by have := h2; rw [← hL] at this; exact this
 have HL : Hid (Zs.length = L) := hL
 have HM : Hid (z.eras.length = M) := hM
 have Hel : Hid (Es.length = Zs.length) := hel
 have ba : ∀ o, Below wv.heap.size wv (wv.drew.alloc o) := fun o => (show Below wv.heap.size wv wv.drew from below_drew wv).alloc (Nat.le_refl _) o
 have hBz : B ≤ gz := (World.ownsRow.lt hzz gz rfl).1
 have hzlt : gz < wv.heap.size := World.block_lt_of_cell? _ _ qz
 clear h2 h1 h hb1 hbv hL hM hel hgz
 have hLa : (0 : Int) ≤ (L : Int) := by omega
 have hLb : (L : Int) < (L : Int) + 1 := by omega
 have q0a : (wv.alloc (.cells #[.int .i64 e0, .string e1, .int .i64 e2, .string e3, .int .i64 e4, .string e5] 130)).cell? ⟨p, 1, none⟩ = some (.slice (some ⟨gz, 0, none⟩) (L + 1) cz) := bkeep (w1 := wv) q0 ((Below.refl _ _).alloc (Nat.le_refl _) _)
 have qza : (wv.alloc (.cells #[.int .i64 e0, .string e1, .int .i64 e2, .string e3, .int .i64 e4, .string e5] 130)).cell? ⟨gz, L * 2 + 1, none⟩ = some (.slice (some ⟨ge, 0, none⟩) M ce) := bkeep (w1 := wv) qz ((Below.refl _ _).alloc (Nat.le_refl _) _)
 go_upto_region 4 with fail
 go_region_law (refine step_append_lies _ (by rfl) (.tmp 45) (.tmp 47) 119 (by rfl) B 130 i0 (.agg #[.int .i64 0, .string ⟨#[]⟩, .int .i64 0, .string ⟨#[]⟩, .int .i64 0, .string ⟨#[]⟩]) 6 72 Tryz.underlying119 hi hz0 hz1 hz2 rfl (by omega) (.slice (some ⟨ge, 0, none⟩) M ce) M (z.eras.map EraD.cs).flatten (by rfl) (World.ownsRow.alloc (w := wv.drew) hev _) ⟨wv.heap.size, 0, none⟩ 1 1 [.int .i64 e0, .string e1, .int .i64 e2, .string e3, .int .i64 e4, .string e5] (by rfl) rfl (cells_new _ _ _) (by intro u hu; simp at hu; rcases hu with rfl | rfl | rfl | rfl | rfl | rfl <;> rfl) (by omega) (by unfold maxLen; omega) (by omega) (by simp; omega) _ rfl ?_; intro g1 cap1 w2 hown1 hgrow hat hlt1; have r3 := hgrow.cell (a := ⟨p, 1, none⟩) (bkeep (w1 := wv) q0 (ba _)) hne; have r1 := hgrow.cell (a := ⟨gz, L * 2 + 1, none⟩) (bkeep (w1 := wv) qz (ba _)) hnz; have r2 := (hgrow.frozen_far ⟨gz, L * 2 + 1, none⟩ (by simp; omega) hnz).trans (((bcell (ba _)).2 _ _ hzlt).trans zf))
 all_goals
  have h3 := (HD.out.below (ba (.cells #[.int .i64 e0, .string e1, .int .i64 e2, .string e3, .int .i64 e4, .string e5] 130))).addEra (m2 := m2) (E := ⟨e0, e1, e2, e3, e4, e5⟩) Hel.out hgrow (by rw [HM.out]; exact hown1) hat rfl hX8
  rw [HL.out, HM.out] at h3
  have hb2 := (bel_grown (hbw.trans ((ba (.cells #[.int .i64 e0, .string e1, .int .i64 e2, .string e3, .int .i64 e4, .string e5] 130)).mono hBv)) hgrow (World.ownsRow.alloc (w := wv.drew) hev _) (Nat.le_refl _) (by simp; omega)).setCell (p := ⟨gz, L * 2 + 1, none⟩) hBz (.slice (some ⟨g1, 0, none⟩) (M + 1) cap1)
  have hb3 := hb2.setCell (p := ⟨p, 3, none⟩) HD.out.hp (.bool m2)
  obtain ⟨d0, d1, d2, d3, dt⟩ := (HD.out.below (ba (.cells #[.int .i64 e0, .string e1, .int .i64 e2, .string e3, .int .i64 e4, .string e5] 130))).cells hgrow hne
  have x3 : (w2.setCell ⟨gz, L * 2 + 1, none⟩ (.slice (some ⟨g1, 0, none⟩) (M + 1) cap1)).cell? ⟨p, 3, none⟩ = some (.bool true) := by rw [World.cell?_setCell_other _ _ _ _ (by simp <;> omega)]; exact d3
  have f3 : (w2.setCell ⟨gz, L * 2 + 1, none⟩ (.slice (some ⟨g1, 0, none⟩) (M + 1) cap1)).frozen? ⟨p, 3, none⟩ = false := by rw [World.frozen?_setCell]; exact fz_of dt 3
  have HP : Hid (∀ k, LineP B p K w (.returned (.bool k)) ((w2.setCell ⟨gz, L * 2 + 1, none⟩ (.slice (some ⟨g1, 0, none⟩) (M + 1) cap1)).setCell ⟨p, 3, none⟩ (.bool m2))) := fun k => ⟨⟨k, _, _, _, _, _, _, rfl, h3, hb3⟩⟩
  clear h3 hb2 hb3 hgrow hat hlt1 r1 r2 r3 hown1 d0 d1 d2 d3 dt
  generalize w2.setCell ⟨gz, L * 2 + 1, none⟩ (.slice (some ⟨g1, 0, none⟩) (M + 1) cap1) = w3 at *
  go_wp2
  go_ret
  exact HP.out _
end Go.Proofs.YtcelbkmnbjcjhaaGreat
