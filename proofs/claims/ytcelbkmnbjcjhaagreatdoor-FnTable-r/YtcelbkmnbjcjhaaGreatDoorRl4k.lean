/- The model's drawings of a release and a name. -/
import Derived.Test.YtcelbkmnbjcjhaaGreatDoorRl3k
namespace Go.Proofs.YtcelbkmnbjcjhaaGreatDoor
open Go.RowKit Go.Sort

structure DlAt (w : World) (a : Option Addr) (len cap : Nat) (q : Nat) (rv zv lv : Value) (R : RelD) (evs : List Value) (W : World) : Prop where
 src : SrcAt (w.heap.size + 1) a len cap [] W
 bel : Below w.heap.size w W
 c0 : W.cell? ⟨q, 0, none⟩ = some rv
 c1 : W.cell? ⟨q, 1, none⟩ = some zv
 c2 : W.cell? ⟨q, 2, none⟩ = some lv
 r0 : W.cell? ⟨w.heap.size, 0, none⟩ = some (.slice none 0 0)
 r1 : W.cell? ⟨w.heap.size, 1, none⟩ = some (.slice none 0 0)
 r2 : W.cell? ⟨w.heap.size, 2, none⟩ = some (.slice none 0 0)
 rf : ∀ j, W.frozen? ⟨w.heap.size, j, none⟩ = false
 rl : RlV W (w.heap.size + 1 + 1) rv zv lv R evs
 hq : w.heap.size + 1 < q
section
variable {w W W1 : World} {a : Option Addr} {len cap q : Nat} {rv zv lv : Value} {R : RelD} {evs : List Value}

theorem DlAt.drawn (h : DlAt w a len cap q rv zv lv R evs W) (hS : SrcAt (w.heap.size + 1) a len cap [] W1) (hg : W.grownBy W1 (some (w.heap.size + 1))) : DlAt w a len cap q rv zv lv R evs W1 := by
 have hq := h.hq
 have hlt : w.heap.size < W.heap.size := World.block_lt_of_cell? _ _ h.r0
 have n1 : some q ≠ some (w.heap.size + 1) := by intro e; injection e with e; omega
 have n2 : some w.heap.size ≠ some (w.heap.size + 1) := by intro e; injection e with e; omega
 exact ⟨hS, h.bel.grown hg h.bel.size (fun k hk => by injection hk with hk; omega), hg.cell (a := ⟨q, 0, none⟩) h.c0 n1, hg.cell (a := ⟨q, 1, none⟩) h.c1 n1, hg.cell (a := ⟨q, 2, none⟩) h.c2 n1, hg.cell (a := ⟨w.heap.size, 0, none⟩) h.r0 n2, hg.cell (a := ⟨w.heap.size, 1, none⟩) h.r1 n2, hg.cell (a := ⟨w.heap.size, 2, none⟩) h.r2 n2, fun j => (hg.frozen_far ⟨w.heap.size, j, none⟩ hlt n2).trans (h.rf j), h.rl.grown hg (by omega), hq⟩
theorem DlAt.below (h : DlAt w a len cap q rv zv lv R evs W) (hb : Below W.heap.size W W1) : DlAt w a len cap q rv zv lv R evs W1 := by
 have hlt : w.heap.size < W.heap.size := World.block_lt_of_cell? _ _ h.r0
 exact ⟨h.src.grown hb, h.bel.trans (hb.mono h.bel.size), keepC hb h.c0, keepC hb h.c1, keepC hb h.c2, keepC hb h.r0, keepC hb h.r1, keepC hb h.r2, fun j => ((bcell hb).2 _ _ hlt).trans (h.rf j), h.rl.below hb, h.hq⟩
theorem DlAt.alloc (h : DlAt w a len cap q rv zv lv R evs W) (o : Obj) : DlAt w a len cap q rv zv lv R evs (W.alloc o) := h.below ((Below.refl _ _).alloc (Nat.le_refl _) o)
theorem DlAt.drew (h : DlAt w a len cap q rv zv lv R evs W) : DlAt w a len cap q rv zv lv R evs W.drew := h.below (below_drew W)
def lay3 (W : World) (r : Nat) (rv zv lv : Value) : World := ((W.setCell ⟨r, 0, none⟩ rv).setCell ⟨r, 1, none⟩ zv).setCell ⟨r, 2, none⟩ lv
theorem lay3_low {r B : Nat} {x y z : Value} (h : RlV W B rv zv lv R evs) (hr : r < B) : RlV (lay3 W r x y z) B rv zv lv R evs := ((h.setLow hr).setLow hr).setLow hr
theorem lay3_at {r : Nat} {x0 x1 x2 : Value} (rv zv lv : Value) (h0 : W.cell? ⟨r, 0, none⟩ = some x0) (h1 : W.cell? ⟨r, 1, none⟩ = some x1) (h2 : W.cell? ⟨r, 2, none⟩ = some x2) : (lay3 W r rv zv lv).cell? ⟨r, 0, none⟩ = some rv ∧ (lay3 W r rv zv lv).cell? ⟨r, 1, none⟩ = some zv ∧ (lay3 W r rv zv lv).cell? ⟨r, 2, none⟩ = some lv := by
 unfold lay3
 refine ⟨?_, ?_, ?_⟩
 ·
  rw [World.cell?_setCell_other _ _ _ _ (by simp), World.cell?_setCell_other _ _ _ _ (by simp)]; exact World.cell?_setCell_same _ _ _ h0
 ·
  rw [World.cell?_setCell_other _ _ _ _ (by simp)]; refine World.cell?_setCell_same _ _ _ (u := x1) ?_; rw [World.cell?_setCell_other _ _ _ _ (by simp)]; exact h1
 ·
  refine World.cell?_setCell_same _ _ _ (u := x2) ?_; rw [World.cell?_setCell_other _ _ _ _ (by simp), World.cell?_setCell_other _ _ _ _ (by simp)]; exact h2
theorem lay3_far {r b i : Nat} {rv zv lv : Value} (hne : b ≠ r) : (lay3 W r rv zv lv).cell? ⟨b, i, none⟩ = W.cell? ⟨b, i, none⟩ := by
 unfold lay3
 rw [World.cell?_setCell_other _ _ _ _ (by simp <;> omega), World.cell?_setCell_other _ _ _ _ (by simp <;> omega), World.cell?_setCell_other _ _ _ _ (by simp <;> omega)]
theorem lay3_bel {r : Nat} {rv zv lv : Value} (h : Below w.heap.size w W) (hr : w.heap.size ≤ r) : Below w.heap.size w (lay3 W r rv zv lv) := ((h.setCell hr _).setCell hr _).setCell hr _
end
structure DrawRP (w : World) (e : Ending) (w' : World) : Prop where
 ex : ∃ (rv zv lv : Value) (R : RelD) (evs : List Value) (nm : ByteArray), e = .returned (.tuple #[.agg #[rv, zv, lv], .string nm]) ∧ RlV w' (w.heap.size + 1) rv zv lv R evs ∧ nm.size ≤ 100 ∧ Below w.heap.size w w'
set_option linter.unusedSimpArgs false in
set_option maxRecDepth 20000 in
set_option maxHeartbeats 8000000 in
theorem draw_ZoneOf (a : Option Addr) (len cap : Nat) (w : World) (h : RowOf w a len) (hl : len ≤ 1048576) :
  Calls Tryz.prog 31 #[.slice a len cap] w (DrawRP w) := by
 have b0 := (Below.refl w.heap.size w).alloc (Nat.le_refl _) (.cells #[.slice none 0 0, .slice none 0 0, .slice none 0 0] 27)
 have x0 : (w.alloc (.cells #[.slice none 0 0, .slice none 0 0, .slice none 0 0] 27)).cell? ⟨w.heap.size, 0, none⟩ = some (.slice none 0 0) := by simp [go_sem]
 have x1 : (w.alloc (.cells #[.slice none 0 0, .slice none 0 0, .slice none 0 0] 27)).cell? ⟨w.heap.size, 1, none⟩ = some (.slice none 0 0) := by simp [go_sem]
 have x2 : (w.alloc (.cells #[.slice none 0 0, .slice none 0 0, .slice none 0 0] 27)).cell? ⟨w.heap.size, 2, none⟩ = some (.slice none 0 0) := by simp [go_sem]
 have y0 : ∀ j, (w.alloc (.cells #[.slice none 0 0, .slice none 0 0, .slice none 0 0] 27)).frozen? ⟨w.heap.size, j, none⟩ = false := fun j => by simp [go_sem]
 have h0 := h.grown b0
 clear h
 go_enter Tryz.func31, Tryz.ntmps31
 go_wp2_with fail
 refine (src_source a len cap _ h0 hl).mono ?_
 rintro e w1 ⟨rfl, S1, hb1⟩
 rw [World.size_alloc] at S1
 have B1 : Below w.heap.size w w1 := b0.trans (hb1.mono (by simp))
 have z1 : w.heap.size + 1 ≤ w1.heap.size := by have := hb1.size; simpa using this
 have X0 := keepC hb1 x0
 have X1 := keepC hb1 x1
 have X2 := keepC hb1 x2
 have Y0 : ∀ j, w1.frozen? ⟨w.heap.size, j, none⟩ = false := fun j => ((bcell hb1).2 w.heap.size j (by simp)).trans (y0 j)
 have p1 : w.heap.size + 1 < w1.heap.size := S1.lt
 clear hb1 b0 h0 x0 x1 x2 y0
 go_wp2_with fail
 refine (src_release (w.heap.size + 1) a len cap [] _ S1).mono ?_
 intro e w4 hs
 obtain ⟨rv, zv, lv, R, evs, rfl, L4, S4, g4⟩ := hs.ex
 clear hs S1
 obtain ⟨ra, cr, nr, rfl⟩ : ∃ b c n, rv = .slice b n c := by obtain ⟨b, c, h⟩ := own_shape L4.rr; exact ⟨b, c, _, h⟩
 obtain ⟨za, cz, nz, rfl⟩ : ∃ b c n, zv = .slice b n c := by obtain ⟨b, c, h⟩ := own_shape L4.zz; exact ⟨b, c, _, h⟩
 obtain ⟨la, cl, nl, rfl⟩ : ∃ b c n, lv = .slice b n c := by obtain ⟨b, c, h⟩ := own_shape L4.ll; exact ⟨b, c, _, h⟩
 have n2 : some w.heap.size ≠ some (w.heap.size + 1) := by intro e; injection e with e; omega
 have z4 := g4.size
 have b5 : Below w4.heap.size w4 (w4.alloc (.cells #[.slice ra nr cr, .slice za nz cz, .slice la nl cl] 27)) := (Below.refl _ _).alloc (Nat.le_refl _) _
 have B4 : Below w.heap.size w w4 := B1.grown g4 (by omega) (fun k hk => by injection hk with hk; omega)
 have A5 : DlAt w a len cap w4.heap.size (.slice ra nr cr) (.slice za nz cz) (.slice la nl cl) R evs (w4.alloc (.cells #[.slice ra nr cr, .slice za nz cz, .slice la nl cl] 27)) := by
  refine ⟨S4.grown b5, B4.trans (b5.mono B4.size), by simp [go_sem], by simp [go_sem], by simp [go_sem], keepC b5 (g4.cell (a := ⟨w.heap.size, 0, none⟩) X0 n2), keepC b5 (g4.cell (a := ⟨w.heap.size, 1, none⟩) X1 n2), keepC b5 (g4.cell (a := ⟨w.heap.size, 2, none⟩) X2 n2), fun j => ((bcell b5).2 _ _ (by omega)).trans ((g4.frozen_far ⟨w.heap.size, j, none⟩ (by show w.heap.size < w1.heap.size; omega) n2).trans (Y0 j)), (L4.mono (by omega)).below b5, by omega⟩
 have hq5 : w.heap.size + 1 < w4.heap.size := by omega
 clear S4 g4 L4 X0 X1 X2 Y0 B1 B4 b5 z4 z1 p1 n2
 obtain ⟨w5, hw5⟩ : ∃ x : World, x = w4.alloc (.cells #[.slice ra nr cr, .slice za nz cz, .slice la nl cl] 27) := ⟨_, rfl⟩
 have A5 : DlAt w a len cap w4.heap.size (.slice ra nr cr) (.slice za nz cz) (.slice la nl cl) R evs w5 := by rw [hw5]; exact A5
 go_wp2_with fail
 simp only [← hw5]
 clear hw5
 have c0 := A5.c0
 have c1 := A5.c1
 have c2 := A5.c2
 refine wp_region_noPanic ?_
 refine wp_region_held_drew (S := fun w' => w'.cell? ⟨w4.heap.size, 0, none⟩ = some (.slice ra nr cr) ∧ w'.cell? ⟨w4.heap.size, 1, none⟩ = some (.slice za nz cz) ∧ w'.cell? ⟨w4.heap.size, 2, none⟩ = some (.slice la nl cl)) (by kernel_rfl) ⟨(show w5.drew.cell? ⟨w4.heap.size, 0, none⟩ = _ from c0), (show w5.drew.cell? ⟨w4.heap.size, 1, none⟩ = _ from c1), (show w5.drew.cell? ⟨w4.heap.size, 2, none⟩ = _ from c2)⟩ (fun hHeld => ?_)
 have A6 := A5.drew
 clear A5 c0 c1 c2
 refine wpAnyH_take (i := 0) (v := ?v1) rfl (by kernel_rfl) (by kernel_rfl) (by kernel_rfl) (fun _ _ _ h => h) (Or.inl ⟨by kernel_rfl, ?y1⟩) hHeld ?z1
 case y1 => (intro wq hSw; (try dsimp only at hSw); go_simp; try with_reducible rfl)
 try simp only [Act.put, qq1, qq2, qq3]
 refine wpAnyH_take (i := 1) (v := ?v2) rfl (by kernel_rfl) (by kernel_rfl) (by kernel_rfl) (fun _ _ _ h => h) (Or.inl ⟨by kernel_rfl, ?y2⟩) hHeld ?z2
 case y2 => (intro wq hSw; (try dsimp only at hSw); go_simp; try with_reducible rfl)
 try simp only [Act.put, qq1, qq2, qq3]
 refine wpAnyH_ready (rs := [2]) (by kernel_rfl) (by simp) ?_
 refine AllReadyH.cons rfl (fun K hK => ?_) AllReadyH.nil
 go_simp
 have A7 := A6.alloc (.cells (([⟨#[69, 117, 47, 65]⟩, ⟨#[69, 117, 47, 66]⟩, ⟨#[85, 83, 47, 67]⟩, ⟨#[65, 108, 105, 97, 115]⟩, ⟨#[78, 111, 110, 101]⟩] : List ByteArray).map Value.string).toArray 9)
 have R7 : StrRow (w5.drew.alloc (.cells (([⟨#[69, 117, 47, 65]⟩, ⟨#[69, 117, 47, 66]⟩, ⟨#[85, 83, 47, 67]⟩, ⟨#[65, 108, 105, 97, 115]⟩, ⟨#[78, 111, 110, 101]⟩] : List ByteArray).map Value.string).toArray 9)) w5.heap.size 5 100 := str_row w5.drew ([⟨#[69, 117, 47, 65]⟩, ⟨#[69, 117, 47, 66]⟩, ⟨#[85, 83, 47, 67]⟩, ⟨#[65, 108, 105, 97, 115]⟩, ⟨#[78, 111, 110, 101]⟩] : List ByteArray) 9 (by decide)
 have bb : w5.heap.size ≠ w.heap.size + 1 := by have : w.heap.size + 1 < w5.heap.size := A6.src.lt; omega
 obtain ⟨bn, hbn⟩ : ∃ n, w5.heap.size = n := ⟨_, rfl⟩
 rw [hbn] at R7 bb ⊢
 refine hK.out _ _ ⟨A7.c0, A7.c1, A7.c2⟩ (fun hHeld => ?_)
 clear hK K hHeld
 try simp only [Act.put, qq1, qq2, qq3]
 refine wpAnyH_ready (rs := [3]) (by kernel_rfl) (by simp) ?_
 refine AllReadyH.cons rfl (fun K hK => ?_) AllReadyH.nil
 go_simp
 refine (src_pick (w.heap.size + 1) a len cap [] bn 5 100 _ A7.src R7 bb (by omega) (by omega)).mono ?_
 rintro e w8 ⟨nm, rfl, hnm, S8, g8⟩
 have A8 := A7.drawn S8 g8
 clear S8 g8 A7 A6 R7
 go_wp2_with fail
 refine hK.out _ _ ⟨A8.c0, A8.c1, A8.c2⟩ (fun hHeld => ?_)
 clear hK K
 try simp only [Act.put, qq1, qq2, qq3]
 have hH9 : (fun w' => w'.cell? ⟨w4.heap.size, 0, none⟩ = some (.slice ra nr cr) ∧ w'.cell? ⟨w4.heap.size, 1, none⟩ = some (.slice za nz cz) ∧ w'.cell? ⟨w4.heap.size, 2, none⟩ = some (.slice la nl cl)) (lay3 w8 w.heap.size (.slice ra nr cr) (.slice za nz cz) (.slice la nl cl)) := ⟨(lay3_far (by omega)).trans A8.c0, (lay3_far (by omega)).trans A8.c1, (lay3_far (by omega)).trans A8.c2⟩
 have r0 := A8.r0
 have r1 := A8.r1
 have r2 := A8.r2
 have f0 := A8.rf 0
 have f1 := A8.rf 1
 have f2 := A8.rf 2
 refine wpAnyH_ready (rs := [4]) (by kernel_rfl) (by simp) ?_
 refine AllReadyH.cons rfl (fun K hK => ?_) AllReadyH.nil
 go_simp
 unfold lay3 at hH9
 refine hK.out _ _ hH9 (fun hHeld => ?_)
 clear hK K hH9
 try simp only [Act.put, qq1, qq2, qq3]
 refine wpAnyH_take (i := 5) (v := ?v3) rfl (by kernel_rfl) (by kernel_rfl) (by kernel_rfl) (fun _ _ _ h => h) (Or.inl ⟨by kernel_rfl, ?y3⟩) hHeld ?z3
 case y3 => (intro wq hSw; (try dsimp only at hSw); go_simp; try with_reducible rfl)
 try simp only [Act.put, qq1, qq2, qq3]
 try simp only [Act.put, List.getElem_toArray, List.getElem_cons_succ, List.getElem_cons_zero, qq1, qq2, qq3]
 refine wpAnyH_done (by kernel_rfl) ?_ _
 refine NoPanic.normal ?_
 have t8 := lay3_at (.slice ra nr cr) (.slice za nz cz) (.slice la nl cl) r0 r1 r2
 have HE : Hid (DrawRP w (.returned (.tuple #[.agg #[(.slice ra nr cr), (.slice za nz cz), (.slice la nl cl)], .string nm])) (lay3 w8 w.heap.size (.slice ra nr cr) (.slice za nz cz) (.slice la nl cl))) := ⟨_, _, _, R, evs, nm, rfl, lay3_low (A8.rl.mono (by omega)) (by omega), hnm, lay3_bel A8.bel (Nat.le_refl _)⟩
 unfold lay3 at t8 HE
 obtain ⟨t0, t1, t2⟩ := t8
 clear hHeld
 go_wp2
 exact bodyPost_ret (v := .tuple #[.agg #[(.slice ra nr cr), (.slice za nz cz), (.slice la nl cl)], .string nm]) (by simp [results, Tryz.results31, go_sem, t0, t1, t2]) rfl HE.out
set_option linter.unusedSimpArgs false in
set_option maxRecDepth 20000 in
set_option maxHeartbeats 4000000 in
theorem draw_TableOf (a : Option Addr) (len cap : Nat) (w : World) (h : RowOf w a len) (hl : len ≤ 1048576) :
  Calls Tryz.prog 11 #[.slice a len cap] w (DrawRP w) := by
 have b0 := (Below.refl w.heap.size w).alloc (Nat.le_refl _) (.cells #[.slice none 0 0, .slice none 0 0, .slice none 0 0] 27)
 have x0 : (w.alloc (.cells #[.slice none 0 0, .slice none 0 0, .slice none 0 0] 27)).cell? ⟨w.heap.size, 0, none⟩ = some (.slice none 0 0) := by simp [go_sem]
 have x1 : (w.alloc (.cells #[.slice none 0 0, .slice none 0 0, .slice none 0 0] 27)).cell? ⟨w.heap.size, 1, none⟩ = some (.slice none 0 0) := by simp [go_sem]
 have x2 : (w.alloc (.cells #[.slice none 0 0, .slice none 0 0, .slice none 0 0] 27)).cell? ⟨w.heap.size, 2, none⟩ = some (.slice none 0 0) := by simp [go_sem]
 have y0 : ∀ j, (w.alloc (.cells #[.slice none 0 0, .slice none 0 0, .slice none 0 0] 27)).frozen? ⟨w.heap.size, j, none⟩ = false := fun j => by simp [go_sem]
 have h0 := h.grown b0
 clear h
 go_enter Tryz.func11, Tryz.ntmps11
 go_wp2_with fail
 refine (draw_ZoneOf a len cap _ h0 hl).mono ?_
 intro e w4 hd
 obtain ⟨rv, zv, lv, R, evs, nm, rfl, L4, hnm, hb⟩ := hd.ex
 rw [World.size_alloc] at L4
 clear hd
 obtain ⟨ra, cr, nr, rfl⟩ : ∃ b c n, rv = .slice b n c := by obtain ⟨b, c, h⟩ := own_shape L4.rr; exact ⟨b, c, _, h⟩
 obtain ⟨za, cz, nz, rfl⟩ : ∃ b c n, zv = .slice b n c := by obtain ⟨b, c, h⟩ := own_shape L4.zz; exact ⟨b, c, _, h⟩
 obtain ⟨la, cl, nl, rfl⟩ : ∃ b c n, lv = .slice b n c := by obtain ⟨b, c, h⟩ := own_shape L4.ll; exact ⟨b, c, _, h⟩
 have X0 := keepC hb x0
 have X1 := keepC hb x1
 have X2 := keepC hb x2
 have Y0 := ((bcell hb).2 w.heap.size 0 (by simp)).trans (y0 0)
 have Y1 := ((bcell hb).2 w.heap.size 1 (by simp)).trans (y0 1)
 have Y2 := ((bcell hb).2 w.heap.size 2 (by simp)).trans (y0 2)
 have B4 : Below w.heap.size w w4 := b0.trans (hb.mono (by simp))
 have t8 := lay3_at (.slice ra nr cr) (.slice za nz cz) (.slice la nl cl) X0 X1 X2
 have HE : Hid (DrawRP w (.returned (.tuple #[.agg #[.slice ra nr cr, .slice za nz cz, .slice la nl cl], .string nm])) (lay3 w4 w.heap.size (.slice ra nr cr) (.slice za nz cz) (.slice la nl cl))) := ⟨_, _, _, R, evs, nm, rfl, lay3_low (L4.mono (by omega)) (by omega), hnm, lay3_bel B4 (Nat.le_refl _)⟩
 unfold lay3 at t8 HE
 obtain ⟨t0, t1, t2⟩ := t8
 clear L4 hb B4 x0 x1 x2 y0 b0 h0
 go_wp2
 exact bodyPost_ret (v := .tuple #[.agg #[.slice ra nr cr, .slice za nz cz, .slice la nl cl], .string nm]) (by simp [results, Tryz.results11, go_sem, t0, t1, t2]) rfl HE.out
end Go.Proofs.YtcelbkmnbjcjhaaGreatDoor
