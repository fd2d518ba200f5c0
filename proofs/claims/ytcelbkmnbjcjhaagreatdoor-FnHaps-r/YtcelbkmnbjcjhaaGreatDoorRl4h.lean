/- The model's drawings of a release and a name. -/
import Derived.Test.YtcelbkmnbjcjhaaGreatDoorRl3h
namespace Go.Proofs.YtcelbkmnbjcjhaaGreatDoor
open Go.RowKit Go.Sort

structure DlAt (w : World) (a : Option Addr) (len cap : Nat) (q : Nat) (rv zv lv : Value) (R : RelD) (evs : List Value) (W : World) : Prop where
 src : SrcAt (w.heap.size + 1) a len cap [] W
 bel : Below w.heap.size w W
 c0 : W.cell? ⟨q, 0, none⟩ = some rv
 c1 : W.cell? ⟨q, 1, none⟩ = some zv
 c2 : W.cell? ⟨q, 2, none⟩ = some lv
 r0 : W.cell? ⟨w.heap.size, 0, none⟩ = some (.slice none 0 0)
 r1 : W.cell? ⟨w.heap.size, 1, none⟩ = some (.slice none 0 0)
 r2 : W.cell? ⟨w.heap.size, 2, none⟩ = some (.slice none 0 0)
 rf : ∀ j, W.frozen? ⟨w.heap.size, j, none⟩ = false
 rl : RlV W (w.heap.size + 1 + 1) rv zv lv R evs
 hq : w.heap.size + 1 < q
def IntRow (w : World) (b : Nat) (l : List Int) : Prop := ∀ i, i < l.length → w.cell? ⟨b, i, none⟩ = some (.int .i64 (l.getD i 0))
theorem IntRow.grown {w w' : World} {b p : Nat} {l : List Int} (h : IntRow w b l) (hg : w.grownBy w' (some p)) (hne : b ≠ p) : IntRow w' b l := fun i hi => hg.cell (a := ⟨b, i, none⟩) (h i hi) (by simp; omega)
theorem IntRow.below {w w' : World} {b : Nat} {l : List Int} (h : IntRow w b l) (hb : Below w.heap.size w w') : IntRow w' b l := fun i hi => keepC hb (h i hi)
theorem StrRow.below {w w' : World} {b n K : Nat} (h : StrRow w b n K) (hb : Below w.heap.size w w') : StrRow w' b n K := fun i hi => by
 obtain ⟨s, hs, hz⟩ := h i hi
 exact ⟨s, keepC hb hs, hz⟩
section
variable {w W W1 : World} {a : Option Addr} {len cap q : Nat} {rv zv lv : Value} {R : RelD} {evs : List Value}

theorem DlAt.drawn (h : DlAt w a len cap q rv zv lv R evs W) (hS : SrcAt (w.heap.size + 1) a len cap [] W1) (hg : W.grownBy W1 (some (w.heap.size + 1))) : DlAt w a len cap q rv zv lv R evs W1 := by
 have hq := h.hq
 have hlt : w.heap.size < W.heap.size := World.block_lt_of_cell? _ _ h.r0
 have n1 : some q ≠ some (w.heap.size + 1) := by intro e; injection e with e; omega
 have n2 : some w.heap.size ≠ some (w.heap.size + 1) := by intro e; injection e with e; omega
 exact ⟨hS, h.bel.grown hg h.bel.size (fun k hk => by injection hk with hk; omega), hg.cell (a := ⟨q, 0, none⟩) h.c0 n1, hg.cell (a := ⟨q, 1, none⟩) h.c1 n1, hg.cell (a := ⟨q, 2, none⟩) h.c2 n1, hg.cell (a := ⟨w.heap.size, 0, none⟩) h.r0 n2, hg.cell (a := ⟨w.heap.size, 1, none⟩) h.r1 n2, hg.cell (a := ⟨w.heap.size, 2, none⟩) h.r2 n2, fun j => (hg.frozen_far ⟨w.heap.size, j, none⟩ hlt n2).trans (h.rf j), h.rl.grown hg (by omega), hq⟩
theorem DlAt.below (h : DlAt w a len cap q rv zv lv R evs W) (hb : Below W.heap.size W W1) : DlAt w a len cap q rv zv lv R evs W1 := by
 have hlt : w.heap.size < W.heap.size := World.block_lt_of_cell? _ _ h.r0
 exact ⟨h.src.grown hb, h.bel.trans (hb.mono h.bel.size), keepC hb h.c0, keepC hb h.c1, keepC hb h.c2, keepC hb h.r0, keepC hb h.r1, keepC hb h.r2, fun j => ((bcell hb).2 _ _ hlt).trans (h.rf j), h.rl.below hb, h.hq⟩
theorem DlAt.alloc (h : DlAt w a len cap q rv zv lv R evs W) (o : Obj) : DlAt w a len cap q rv zv lv R evs (W.alloc o) := h.below ((Below.refl _ _).alloc (Nat.le_refl _) o)
theorem DlAt.drew (h : DlAt w a len cap q rv zv lv R evs W) : DlAt w a len cap q rv zv lv R evs W.drew := h.below (below_drew W)
def lay3 (W : World) (r : Nat) (rv zv lv : Value) : World := ((W.setCell ⟨r, 0, none⟩ rv).setCell ⟨r, 1, none⟩ zv).setCell ⟨r, 2, none⟩ lv
theorem lay3_low {r B : Nat} {x y z : Value} (h : RlV W B rv zv lv R evs) (hr : r < B) : RlV (lay3 W r x y z) B rv zv lv R evs := ((h.setLow hr).setLow hr).setLow hr
theorem lay3_at {r : Nat} {x0 x1 x2 : Value} (rv zv lv : Value) (h0 : W.cell? ⟨r, 0, none⟩ = some x0) (h1 : W.cell? ⟨r, 1, none⟩ = some x1) (h2 : W.cell? ⟨r, 2, none⟩ = some x2) : (lay3 W r rv zv lv).cell? ⟨r, 0, none⟩ = some rv ∧ (lay3 W r rv zv lv).cell? ⟨r, 1, none⟩ = some zv ∧ (lay3 W r rv zv lv).cell? ⟨r, 2, none⟩ = some lv := by
 unfold lay3
 refine ⟨?_, ?_, ?_⟩
 ·
  rw [World.cell?_setCell_other _ _ _ _ (by simp), World.cell?_setCell_other _ _ _ _ (by simp)]; exact World.cell?_setCell_same _ _ _ h0
 ·
  rw [World.cell?_setCell_other _ _ _ _ (by simp)]; refine World.cell?_setCell_same _ _ _ (u := x1) ?_; rw [World.cell?_setCell_other _ _ _ _ (by simp)]; exact h1
 ·
  refine World.cell?_setCell_same _ _ _ (u := x2) ?_; rw [World.cell?_setCell_other _ _ _ _ (by simp), World.cell?_setCell_other _ _ _ _ (by simp)]; exact h2
theorem lay3_far {r b i : Nat} {rv zv lv : Value} (hne : b ≠ r) : (lay3 W r rv zv lv).cell? ⟨b, i, none⟩ = W.cell? ⟨b, i, none⟩ := by
 unfold lay3
 rw [World.cell?_setCell_other _ _ _ _ (by simp <;> omega), World.cell?_setCell_other _ _ _ _ (by simp <;> omega), World.cell?_setCell_other _ _ _ _ (by simp <;> omega)]
theorem lay3_bel {r : Nat} {rv zv lv : Value} (h : Below w.heap.size w W) (hr : w.heap.size ≤ r) : Below w.heap.size w (lay3 W r rv zv lv) := ((h.setCell hr _).setCell hr _).setCell hr _
end
structure DlEnd (w : World) (rv zv lv : Value) (R : RelD) (evs : List Value) (u : World) : Prop where
 rl : RlV u (w.heap.size + 1) rv zv lv R evs
 bel : Below w.heap.size w u
 t0 : u.cell? ⟨w.heap.size, 0, none⟩ = some rv
 t1 : u.cell? ⟨w.heap.size, 1, none⟩ = some zv
 t2 : u.cell? ⟨w.heap.size, 2, none⟩ = some lv
theorem DlEnd.below {w u u' : World} {rv zv lv : Value} {R : RelD} {evs : List Value} (h : DlEnd w rv zv lv R evs u) (hb : Below u.heap.size u u') : DlEnd w rv zv lv R evs u' := ⟨h.rl.below hb, h.bel.trans (hb.mono h.bel.size), keepC hb h.t0, keepC hb h.t1, keepC hb h.t2⟩
theorem DlAt.laid {w W : World} {a : Option Addr} {len cap q : Nat} {rv zv lv : Value} {R : RelD} {evs : List Value} (h : DlAt w a len cap q rv zv lv R evs W) : DlEnd w rv zv lv R evs (lay3 W w.heap.size rv zv lv) := by
 obtain ⟨t0, t1, t2⟩ := lay3_at rv zv lv h.r0 h.r1 h.r2
 exact ⟨lay3_low (h.rl.mono (by omega)) (by omega), lay3_bel h.bel (Nat.le_refl _), t0, t1, t2⟩
theorem off_bd (m : Nat) (hm : m < 5) : -86400 ≤ ([0, 3600, -18000, 86400, 86401] : List Int).getD m 0 ∧ ([0, 3600, -18000, 86400, 86401] : List Int).getD m 0 ≤ 86401 := by
 rcases (show m = 0 ∨ m = 1 ∨ m = 2 ∨ m = 3 ∨ m = 4 by omega) with rfl | rfl | rfl | rfl | rfl <;> decide
structure DrawRP (w : World) (e : Ending) (w' : World) : Prop where
 ex : ∃ (rv zv lv : Value) (R : RelD) (evs : List Value) (nm : ByteArray), e = .returned (.tuple #[.agg #[rv, zv, lv], .string nm]) ∧ RlV w' (w.heap.size + 1) rv zv lv R evs ∧ nm.size ≤ 100 ∧ Below w.heap.size w w'
structure DrawHP (w : World) (e : Ending) (w' : World) : Prop where
 ex : ∃ (rv zv lv : Value) (R : RelD) (evs : List Value) (nm : ByteArray) (off : Int), e = .returned (.tuple #[.agg #[rv, zv, lv], .string nm, .int .i64 off]) ∧ RlV w' (w.heap.size + 1) rv zv lv R evs ∧ nm.size ≤ 100 ∧ -86400 ≤ off ∧ off ≤ 86401 ∧ Below w.heap.size w w'

set_option linter.unusedSimpArgs false in
set_option maxRecDepth 20000 in
set_option maxHeartbeats 8000000 in
theorem draw_ZoneOf (a : Option Addr) (len cap : Nat) (w : World) (h : RowOf w a len) (hl : len ≤ 1048576) :
  Calls Tryz.prog 31 #[.slice a len cap] w (DrawRP w) := by
 have b0 := (Below.refl w.heap.size w).alloc (Nat.le_refl _) (.cells #[.slice none 0 0, .slice none 0 0, .slice none 0 0] 27)
 have x0 : (w.alloc (.cells #[.slice none 0 0, .slice none 0 0, .slice none 0 0] 27)).cell? ⟨w.heap.size, 0, none⟩ = some (.slice none 0 0) := by simp [go_sem]
 have x1 : (w.alloc (.cells #[.slice none 0 0, .slice none 0 0, .slice none 0 0] 27)).cell? ⟨w.heap.size, 1, none⟩ = some (.slice none 0 0) := by simp [go_sem]
 have x2 : (w.alloc (.cells #[.slice none 0 0, .slice none 0 0, .slice none 0 0] 27)).cell? ⟨w.heap.size, 2, none⟩ = some (.slice none 0 0) := by simp [go_sem]
 have y0 : ∀ j, (w.alloc (.cells #[.slice none 0 0, .slice none 0 0, .slice none 0 0] 27)).frozen? ⟨w.heap.size, j, none⟩ = false := fun j => by simp [go_sem]
 have h0 := h.grown b0
 clear h
 go_enter Tryz.func31, Tryz.ntmps31
 go_wp2_with fail
 refine (src_source a len cap _ h0 hl).mono ?_
 rintro e w1 ⟨rfl, S1, hb1⟩
 rw [World.size_alloc] at S1
 have B1 : Below w.heap.size w w1 := b0.trans (hb1.mono (by simp))
 have z1 : w.heap.size + 1 ≤ w1.heap.size := by have := hb1.size; simpa using this
 have X0 := keepC hb1 x0
 have X1 := keepC hb1 x1
 have X2 := keepC hb1 x2
 have Y0 : ∀ j, w1.frozen? ⟨w.heap.size, j, none⟩ = false := fun j => ((bcell hb1).2 w.heap.size j (by simp)).trans (y0 j)
 have p1 : w.heap.size + 1 < w1.heap.size := S1.lt
 clear hb1 b0 h0 x0 x1 x2 y0
 go_wp2_with fail
 refine (src_release (w.heap.size + 1) a len cap [] _ S1).mono ?_
 intro e w4 hs
 obtain ⟨rv, zv, lv, R, evs, rfl, L4, S4, g4⟩ := hs.ex
 clear hs S1
 obtain ⟨ra, cr, nr, rfl⟩ : ∃ b c n, rv = .slice b n c := by obtain ⟨b, c, h⟩ := own_shape L4.rr; exact ⟨b, c, _, h⟩
 obtain ⟨za, cz, nz, rfl⟩ : ∃ b c n, zv = .slice b n c := by obtain ⟨b, c, h⟩ := own_shape L4.zz; exact ⟨b, c, _, h⟩
 obtain ⟨la, cl, nl, rfl⟩ : ∃ b c n, lv = .slice b n c := by obtain ⟨b, c, h⟩ := own_shape L4.ll; exact ⟨b, c, _, h⟩
 have n2 : some w.heap.size ≠ some (w.heap.size + 1) := by intro e; injection e with e; omega
 have z4 := g4.size
 have b5 : Below w4.heap.size w4 (w4.alloc (.cells #[.slice ra nr cr, .slice za nz cz, .slice la nl cl] 27)) := (Below.refl _ _).alloc (Nat.le_refl _) _
 have B4 : Below w.heap.size w w4 := B1.grown g4 (by omega) (fun k hk => by injection hk with hk; omega)
 have A5 : DlAt w a len cap w4.heap.size (.slice ra nr cr) (.slice za nz cz) (.slice la nl cl) R evs (w4.alloc (.cells #[.slice ra nr cr, .slice za nz cz, .slice la nl cl] 27)) := by
  refine ⟨S4.grown b5, B4.trans (b5.mono B4.size), by simp [go_sem], by simp [go_sem], by simp [go_sem], keepC b5 (g4.cell (a := ⟨w.heap.size, 0, none⟩) X0 n2), keepC b5 (g4.cell (a := ⟨w.heap.size, 1, none⟩) X1 n2), keepC b5 (g4.cell (a := ⟨w.heap.size, 2, none⟩) X2 n2), fun j => ((bcell b5).2 _ _ (by omega)).trans ((g4.frozen_far ⟨w.heap.size, j, none⟩ (by show w.heap.size < w1.heap.size; omega) n2).trans (Y0 j)), (L4.mono (by omega)).below b5, by omega⟩
 have hq5 : w.heap.size + 1 < w4.heap.size := by omega
 clear S4 g4 L4 X0 X1 X2 Y0 B1 B4 b5 z4 z1 p1 n2
 obtain ⟨w5, hw5⟩ : ∃ x : World, x = w4.alloc (.cells #[.slice ra nr cr, .slice za nz cz, .slice la nl cl] 27) := ⟨_, rfl⟩
 have A5 : DlAt w a len cap w4.heap.size (.slice ra nr cr) (.slice za nz cz) (.slice la nl cl) R evs w5 := by rw [hw5]; exact A5
 go_wp2_with fail
 simp only [← hw5]
 clear hw5
 have c0 := A5.c0
 have c1 := A5.c1
 have c2 := A5.c2
 refine wp_region_noPanic ?_
 refine wp_region_held_drew (S := fun w' => w'.cell? ⟨w4.heap.size, 0, none⟩ = some (.slice ra nr cr) ∧ w'.cell? ⟨w4.heap.size, 1, none⟩ = some (.slice za nz cz) ∧ w'.cell? ⟨w4.heap.size, 2, none⟩ = some (.slice la nl cl)) (by kernel_rfl) ⟨(show w5.drew.cell? ⟨w4.heap.size, 0, none⟩ = _ from c0), (show w5.drew.cell? ⟨w4.heap.size, 1, none⟩ = _ from c1), (show w5.drew.cell? ⟨w4.heap.size, 2, none⟩ = _ from c2)⟩ (fun hHeld => ?_)
 have A6 := A5.drew
 clear A5 c0 c1 c2
 refine wpAnyH_take (i := 0) (v := ?v1) rfl (by kernel_rfl) (by kernel_rfl) (by kernel_rfl) (fun _ _ _ h => h) (Or.inl ⟨by kernel_rfl, ?y1⟩) hHeld ?z1
 case y1 => (intro wq hSw; (try dsimp only at hSw); go_simp; try with_reducible rfl)
 try simp only [Act.put, qq1, qq2, qq3]
 refine wpAnyH_take (i := 1) (v := ?v2) rfl (by kernel_rfl) (by kernel_rfl) (by kernel_rfl) (fun _ _ _ h => h) (Or.inl ⟨by kernel_rfl, ?y2⟩) hHeld ?z2
 case y2 => (intro wq hSw; (try dsimp only at hSw); go_simp; try with_reducible rfl)
 try simp only [Act.put, qq1, qq2, qq3]
 refine wpAnyH_ready (rs := [2]) (by kernel_rfl) (by simp) ?_
 refine AllReadyH.cons rfl (fun K hK => ?_) AllReadyH.nil
 go_simp
 have A7 := A6.alloc (.cells (([⟨#[69, 117, 47, 65]⟩, ⟨#[69, 117, 47, 66]⟩, ⟨#[85, 83, 47, 67]⟩, ⟨#[65, 108, 105, 97, 115]⟩, ⟨#[78, 111, 110, 101]⟩] : List ByteArray).map Value.string).toArray 9)
 have R7 : StrRow (w5.drew.alloc (.cells (([⟨#[69, 117, 47, 65]⟩, ⟨#[69, 117, 47, 66]⟩, ⟨#[85, 83, 47, 67]⟩, ⟨#[65, 108, 105, 97, 115]⟩, ⟨#[78, 111, 110, 101]⟩] : List ByteArray).map Value.string).toArray 9)) w5.heap.size 5 100 := str_row w5.drew ([⟨#[69, 117, 47, 65]⟩, ⟨#[69, 117, 47, 66]⟩, ⟨#[85, 83, 47, 67]⟩, ⟨#[65, 108, 105, 97, 115]⟩, ⟨#[78, 111, 110, 101]⟩] : List ByteArray) 9 (by decide)
 have bb : w5.heap.size ≠ w.heap.size + 1 := by have : w.heap.size + 1 < w5.heap.size := A6.src.lt; omega
 obtain ⟨bn, hbn⟩ : ∃ n, w5.heap.size = n := ⟨_, rfl⟩
 rw [hbn] at R7 bb ⊢
 refine hK.out _ _ ⟨A7.c0, A7.c1, A7.c2⟩ (fun hHeld => ?_)
 clear hK K hHeld
 try simp only [Act.put, qq1, qq2, qq3]
 refine wpAnyH_ready (rs := [3]) (by kernel_rfl) (by simp) ?_
 refine AllReadyH.cons rfl (fun K hK => ?_) AllReadyH.nil
 go_simp
 refine (src_pick (w.heap.size + 1) a len cap [] bn 5 100 _ A7.src R7 bb (by omega) (by omega)).mono ?_
 rintro e w8 ⟨nm, rfl, hnm, S8, g8⟩
 have A8 := A7.drawn S8 g8
 clear S8 g8 A7 A6 R7
 go_wp2_with fail
 refine hK.out _ _ ⟨A8.c0, A8.c1, A8.c2⟩ (fun hHeld => ?_)
 clear hK K
 try simp only [Act.put, qq1, qq2, qq3]
 have hH9 : (fun w' => w'.cell? ⟨w4.heap.size, 0, none⟩ = some (.slice ra nr cr) ∧ w'.cell? ⟨w4.heap.size, 1, none⟩ = some (.slice za nz cz) ∧ w'.cell? ⟨w4.heap.size, 2, none⟩ = some (.slice la nl cl)) (lay3 w8 w.heap.size (.slice ra nr cr) (.slice za nz cz) (.slice la nl cl)) := ⟨(lay3_far (by omega)).trans A8.c0, (lay3_far (by omega)).trans A8.c1, (lay3_far (by omega)).trans A8.c2⟩
 have r0 := A8.r0
 have r1 := A8.r1
 have r2 := A8.r2
 have f0 := A8.rf 0
 have f1 := A8.rf 1
 have f2 := A8.rf 2
 refine wpAnyH_ready (rs := [4]) (by kernel_rfl) (by simp) ?_
 refine AllReadyH.cons rfl (fun K hK => ?_) AllReadyH.nil
 go_simp
 unfold lay3 at hH9
 refine hK.out _ _ hH9 (fun hHeld => ?_)
 clear hK K hH9
 try simp only [Act.put, qq1, qq2, qq3]
 refine wpAnyH_take (i := 5) (v := ?v3) rfl (by kernel_rfl) (by kernel_rfl) (by kernel_rfl) (fun _ _ _ h => h) (Or.inl ⟨by kernel_rfl, ?y3⟩) hHeld ?z3
 case y3 => (intro wq hSw; (try dsimp only at hSw); go_simp; try with_reducible rfl)
 try simp only [Act.put, qq1, qq2, qq3]
 try simp only [Act.put, List.getElem_toArray, List.getElem_cons_succ, List.getElem_cons_zero, qq1, qq2, qq3]
 refine wpAnyH_done (by kernel_rfl) ?_ _
 refine NoPanic.normal ?_
 have t8 := lay3_at (.slice ra nr cr) (.slice za nz cz) (.slice la nl cl) r0 r1 r2
 have HE : Hid (DrawRP w (.returned (.tuple #[.agg #[(.slice ra nr cr), (.slice za nz cz), (.slice la nl cl)], .string nm])) (lay3 w8 w.heap.size (.slice ra nr cr) (.slice za nz cz) (.slice la nl cl))) := ⟨_, _, _, R, evs, nm, rfl, lay3_low (A8.rl.mono (by omega)) (by omega), hnm, lay3_bel A8.bel (Nat.le_refl _)⟩
 unfold lay3 at t8 HE
 obtain ⟨t0, t1, t2⟩ := t8
 clear hHeld
 go_wp2
 exact bodyPost_ret (v := .tuple #[.agg #[(.slice ra nr cr), (.slice za nz cz), (.slice la nl cl)], .string nm]) (by simp [results, Tryz.results31, go_sem, t0, t1, t2]) rfl HE.out
set_option linter.unusedSimpArgs false in
set_option maxRecDepth 20000 in
set_option maxHeartbeats 8000000 in
theorem draw_HapsOf (a : Option Addr) (len cap : Nat) (w : World) (h : RowOf w a len) (hl : len ≤ 1048576) :
  Calls Tryz.prog 5 #[.slice a len cap] w (DrawHP w) := by
 have b0 := (Below.refl w.heap.size w).alloc (Nat.le_refl _) (.cells #[.slice none 0 0, .slice none 0 0, .slice none 0 0] 27)
 have x0 : (w.alloc (.cells #[.slice none 0 0, .slice none 0 0, .slice none 0 0] 27)).cell? ⟨w.heap.size, 0, none⟩ = some (.slice none 0 0) := by simp [go_sem]
 have x1 : (w.alloc (.cells #[.slice none 0 0, .slice none 0 0, .slice none 0 0] 27)).cell? ⟨w.heap.size, 1, none⟩ = some (.slice none 0 0) := by simp [go_sem]
 have x2 : (w.alloc (.cells #[.slice none 0 0, .slice none 0 0, .slice none 0 0] 27)).cell? ⟨w.heap.size, 2, none⟩ = some (.slice none 0 0) := by simp [go_sem]
 have y0 : ∀ j, (w.alloc (.cells #[.slice none 0 0, .slice none 0 0, .slice none 0 0] 27)).frozen? ⟨w.heap.size, j, none⟩ = false := fun j => by simp [go_sem]
 have h0 := h.grown b0
 clear h
 go_enter Tryz.func5, Tryz.ntmps5
 go_wp2_with fail
 refine (src_source a len cap _ h0 hl).mono ?_
 rintro e w1 ⟨rfl, S1, hb1⟩
 rw [World.size_alloc] at S1
 have B1 : Below w.heap.size w w1 := b0.trans (hb1.mono (by simp))
 have z1 : w.heap.size + 1 ≤ w1.heap.size := by have := hb1.size; simpa using this
 have X0 := keepC hb1 x0
 have X1 := keepC hb1 x1
 have X2 := keepC hb1 x2
 have Y0 : ∀ j, w1.frozen? ⟨w.heap.size, j, none⟩ = false := fun j => ((bcell hb1).2 w.heap.size j (by simp)).trans (y0 j)
 have p1 : w.heap.size + 1 < w1.heap.size := S1.lt
 clear hb1 b0 h0 x0 x1 x2 y0
 go_wp2_with fail
 refine (src_release (w.heap.size + 1) a len cap [] _ S1).mono ?_
 intro e w4 hs
 obtain ⟨rv, zv, lv, R, evs, rfl, L4, S4, g4⟩ := hs.ex
 clear hs S1
 obtain ⟨ra, cr, nr, rfl⟩ : ∃ b c n, rv = .slice b n c := by obtain ⟨b, c, h⟩ := own_shape L4.rr; exact ⟨b, c, _, h⟩
 obtain ⟨za, cz, nz, rfl⟩ : ∃ b c n, zv = .slice b n c := by obtain ⟨b, c, h⟩ := own_shape L4.zz; exact ⟨b, c, _, h⟩
 obtain ⟨la, cl, nl, rfl⟩ : ∃ b c n, lv = .slice b n c := by obtain ⟨b, c, h⟩ := own_shape L4.ll; exact ⟨b, c, _, h⟩
 have n2 : some w.heap.size ≠ some (w.heap.size + 1) := by intro e; injection e with e; omega
 have z4 := g4.size
 have b5 : Below w4.heap.size w4 (w4.alloc (.cells #[.slice ra nr cr, .slice za nz cz, .slice la nl cl] 27)) := (Below.refl _ _).alloc (Nat.le_refl _) _
 have B4 : Below w.heap.size w w4 := B1.grown g4 (by omega) (fun k hk => by injection hk with hk; omega)
 have A5 : DlAt w a len cap w4.heap.size (.slice ra nr cr) (.slice za nz cz) (.slice la nl cl) R evs (w4.alloc (.cells #[.slice ra nr cr, .slice za nz cz, .slice la nl cl] 27)) := by
  refine ⟨S4.grown b5, B4.trans (b5.mono B4.size), by simp [go_sem], by simp [go_sem], by simp [go_sem], keepC b5 (g4.cell (a := ⟨w.heap.size, 0, none⟩) X0 n2), keepC b5 (g4.cell (a := ⟨w.heap.size, 1, none⟩) X1 n2), keepC b5 (g4.cell (a := ⟨w.heap.size, 2, none⟩) X2 n2), fun j => ((bcell b5).2 _ _ (by omega)).trans ((g4.frozen_far ⟨w.heap.size, j, none⟩ (by show w.heap.size < w1.heap.size; omega) n2).trans (Y0 j)), (L4.mono (by omega)).below b5, by omega⟩
 have hq5 : w.heap.size + 1 < w4.heap.size := by omega
 clear S4 g4 L4 X0 X1 X2 Y0 B1 B4 b5 z4 z1 p1 n2
 obtain ⟨w5, hw5⟩ : ∃ x : World, x = w4.alloc (.cells #[.slice ra nr cr, .slice za nz cz, .slice la nl cl] 27) := ⟨_, rfl⟩
 have A5 : DlAt w a len cap w4.heap.size (.slice ra nr cr) (.slice za nz cz) (.slice la nl cl) R evs w5 := by rw [hw5]; exact A5
 go_wp2_with fail
 simp only [← hw5]
 clear hw5
 have c0 := A5.c0
 have c1 := A5.c1
 have c2 := A5.c2
 refine wp_region_noPanic ?_
 refine wp_region_held_drew (S := fun w' => w'.cell? ⟨w4.heap.size, 0, none⟩ = some (.slice ra nr cr) ∧ w'.cell? ⟨w4.heap.size, 1, none⟩ = some (.slice za nz cz) ∧ w'.cell? ⟨w4.heap.size, 2, none⟩ = some (.slice la nl cl)) (by kernel_rfl) ⟨(show w5.drew.cell? ⟨w4.heap.size, 0, none⟩ = _ from c0), (show w5.drew.cell? ⟨w4.heap.size, 1, none⟩ = _ from c1), (show w5.drew.cell? ⟨w4.heap.size, 2, none⟩ = _ from c2)⟩ (fun hHeld => ?_)
 have A6 := A5.drew
 clear A5 c0 c1 c2
 refine wpAnyH_take (i := 0) (v := ?v4) rfl (by kernel_rfl) (by kernel_rfl) (by kernel_rfl) (fun _ _ _ h => h) (Or.inl ⟨by kernel_rfl, ?y4⟩) hHeld ?z4
 case y4 => (intro wq hSw; (try dsimp only at hSw); go_simp; try with_reducible rfl)
 try simp only [Act.put, qq1, qq2, qq3]
 refine wpAnyH_take (i := 1) (v := ?v5) rfl (by kernel_rfl) (by kernel_rfl) (by kernel_rfl) (fun _ _ _ h => h) (Or.inl ⟨by kernel_rfl, ?y5⟩) hHeld ?z5
 case y5 => (intro wq hSw; (try dsimp only at hSw); go_simp; try with_reducible rfl)
 try simp only [Act.put, qq1, qq2, qq3]
 refine wpAnyH_take (i := 5) (v := ?v6) rfl (by kernel_rfl) (by kernel_rfl) (by kernel_rfl) (fun _ _ _ h => h) (Or.inl ⟨by kernel_rfl, ?y6⟩) hHeld ?z6
 case y6 => (intro wq hSw; (try dsimp only at hSw); go_simp; try with_reducible rfl)
 try simp only [Act.put, qq1, qq2, qq3]
 clear hHeld
 generalize w5.drew = w6 at *
 refine wpAnyH_ready (rs := [2, 4]) (by kernel_rfl) (by simp) ?_
 refine AllReadyH.cons rfl (fun K hK => ?_) ?_
 ·
  skip
  go_simp
  have A7 := A6.alloc (.cells #[.string ⟨#[69, 117]⟩, .string ⟨#[85, 83]⟩, .string ⟨#[88]⟩] 9)
  have R7 : StrRow (w6.alloc (.cells #[.string ⟨#[69, 117]⟩, .string ⟨#[85, 83]⟩, .string ⟨#[88]⟩] 9)) w6.heap.size 3 100 := str_row w6 ([⟨#[69, 117]⟩, ⟨#[85, 83]⟩, ⟨#[88]⟩] : List ByteArray) 9 (by decide)
  have bb : w6.heap.size ≠ w.heap.size + 1 := by have : w.heap.size + 1 < w6.heap.size := A6.src.lt; omega
  obtain ⟨bn, hbn⟩ : ∃ n, w6.heap.size = n := ⟨_, rfl⟩
  rw [hbn] at R7 bb ⊢
  refine hK.out _ _ ⟨A7.c0, A7.c1, A7.c2⟩ (fun hHeld => ?_)
  clear hK K hHeld hbn
  try simp only [Act.put, qq1, qq2, qq3]
  generalize (w6.alloc (.cells #[.string ⟨#[69, 117]⟩, .string ⟨#[85, 83]⟩, .string ⟨#[88]⟩] 9)) = v7 at *
  refine wpAnyH_ready (rs := [3, 4]) (by kernel_rfl) (by simp) ?_
  refine AllReadyH.cons rfl (fun K hK => ?_) ?_
  ·
   skip
   go_simp
   refine (src_pick (w.heap.size + 1) a len cap [] bn 3 100 _ A7.src R7 bb (by omega) (by omega)).mono ?_
   rintro e y8 ⟨nm, rfl, hnm, S8, g8⟩
   have A8 := A7.drawn S8 g8
   clear S8 g8
   go_wp2_with fail
   refine hK.out _ _ ⟨A8.c0, A8.c1, A8.c2⟩ (fun hHeld => ?_)
   clear hK K hHeld
   try simp only [Act.put, qq1, qq2, qq3]
   refine wpAnyH_ready (rs := [4, 6]) (by kernel_rfl) (by simp) ?_
   refine AllReadyH.cons rfl (fun K hK => ?_) ?_
   ·
    skip
    go_simp
    have bA : Below y8.heap.size y8 (y8.alloc (.cells #[.int .i64 0, .int .i64 3600, .int .i64 (-18000), .int .i64 86400, .int .i64 86401] 2)) := (Below.refl _ _).alloc (Nat.le_refl _) _
    have A9 := A8.below bA
    have I9 : IntRow (y8.alloc (.cells #[.int .i64 0, .int .i64 3600, .int .i64 (-18000), .int .i64 86400, .int .i64 86401] 2)) y8.heap.size ([0, 3600, -18000, 86400, 86401] : List Int) := fun i hi => pick_int y8 2 ([0, 3600, -18000, 86400, 86401] : List Int) i hi
    have bi : w.heap.size + 1 < y8.heap.size := by have := World.block_lt_of_cell? _ _ A8.c0; simp at this; omega
    have e0_9 := keepC bA A8.c0
    have e1_9 := keepC bA A8.c1
    have e2_9 := keepC bA A8.c2
    clear bA
    obtain ⟨im, him⟩ : ∃ n, y8.heap.size = n := ⟨_, rfl⟩
    rw [him] at I9 bi ⊢
    refine hK.out _ _ ⟨e0_9, e1_9, e2_9⟩ (fun hHeld => ?_)
    clear hK K hHeld him
    try simp only [Act.put, qq1, qq2, qq3]
    generalize (y8.alloc (.cells #[.int .i64 0, .int .i64 3600, .int .i64 (-18000), .int .i64 86400, .int .i64 86401] 2)) = v9 at *
    refine wpAnyH_ready (rs := [6]) (by kernel_rfl) (by simp) ?_
    refine AllReadyH.cons rfl (fun K hK => ?_) AllReadyH.nil
    go_simp
    refine (src_n (w.heap.size + 1) a len cap [] 5 _ A9.src (by omega) (by omega)).mono ?_
    rintro e y10 ⟨mz, rfl, mz0, mz1, S8, g8⟩
    have A10 := A9.drawn S8 g8
    have I10 := I9.grown g8 (by omega)
    obtain ⟨m, rfl⟩ := Int.eq_ofNat_of_zero_le mz0
    clear S8 g8 mz0
    go_wp2_with fail
    refine hK.out _ _ ⟨A10.c0, A10.c1, A10.c2⟩ (fun hHeld => ?_)
    clear hK K hHeld
    try simp only [Act.put, qq1, qq2, qq3]
    obtain ⟨off, ho⟩ : ∃ off : Int, ([0, 3600, -18000, 86400, 86401] : List Int).getD m 0 = off := ⟨_, rfl⟩
    have ob := off_bd m (by omega)
    have cx : y10.cell? ⟨im, m, none⟩ = some (.int .i64 (([0, 3600, -18000, 86400, 86401] : List Int).getD m 0)) := I10 m (by simp; omega)
    rw [ho] at ob cx
    obtain ⟨o1, o2⟩ := ob
    refine wpAnyH_sub (S2 := fun w' => w'.cell? ⟨w4.heap.size, 0, none⟩ = some (.slice ra nr cr) ∧ w'.cell? ⟨w4.heap.size, 1, none⟩ = some (.slice za nz cz) ∧ w'.cell? ⟨w4.heap.size, 2, none⟩ = some (.slice la nl cl) ∧ w'.cell? ⟨im, m, none⟩ = some (.int .i64 off)) (fun _ h => ⟨h.1, h.2.1, h.2.2.1⟩) _ _ _ _ ?_
    have hHeld : (fun w' => w'.cell? ⟨w4.heap.size, 0, none⟩ = some (.slice ra nr cr) ∧ w'.cell? ⟨w4.heap.size, 1, none⟩ = some (.slice za nz cz) ∧ w'.cell? ⟨w4.heap.size, 2, none⟩ = some (.slice la nl cl) ∧ w'.cell? ⟨im, m, none⟩ = some (.int .i64 off)) y10 := ⟨A10.c0, A10.c1, A10.c2, cx⟩
    refine wpAnyH_take (i := 7) (v := ?v7) rfl (by kernel_rfl) (by kernel_rfl) (by kernel_rfl) (fun _ _ _ h => h) (Or.inl ⟨by kernel_rfl, ?y7⟩) hHeld ?z7
    case y7 => (intro wq hSw; (try dsimp only at hSw); go_simp; try with_reducible rfl)
    try simp only [Act.put, qq1, qq2, qq3]
    refine wpAnyH_take (i := 8) (v := ?v8) rfl (by kernel_rfl) (by kernel_rfl) (by kernel_rfl) (fun _ _ _ h => h) (Or.inl ⟨by kernel_rfl, ?y8⟩) hHeld ?z8
    case y8 => (intro wq hSw; (try dsimp only at hSw); go_simp; try with_reducible rfl)
    try simp only [Act.put, qq1, qq2, qq3]
    have hne : im ≠ w.heap.size := by omega
    have hH9 : (fun w' => w'.cell? ⟨w4.heap.size, 0, none⟩ = some (.slice ra nr cr) ∧ w'.cell? ⟨w4.heap.size, 1, none⟩ = some (.slice za nz cz) ∧ w'.cell? ⟨w4.heap.size, 2, none⟩ = some (.slice la nl cl) ∧ w'.cell? ⟨im, m, none⟩ = some (.int .i64 off)) (lay3 y10 w.heap.size (.slice ra nr cr) (.slice za nz cz) (.slice la nl cl)) := ⟨(lay3_far (by omega)).trans A10.c0, (lay3_far (by omega)).trans A10.c1, (lay3_far (by omega)).trans A10.c2, (lay3_far hne).trans cx⟩
    have r0 := A10.r0
    have r1 := A10.r1
    have r2 := A10.r2
    have f0 := A10.rf 0
    have f1 := A10.rf 1
    have f2 := A10.rf 2
    have X := A10.laid
    refine wpAnyH_ready (rs := [9]) (by kernel_rfl) (by simp) ?_
    refine AllReadyH.cons rfl (fun K hK => ?_) AllReadyH.nil
    go_simp
    unfold lay3 at hH9 X
    refine hK.out _ _ hH9 (fun hHeld => ?_)
    clear hK K hH9
    try simp only [Act.put, qq1, qq2, qq3]
    refine wpAnyH_take (i := 10) (v := ?v9) rfl (by kernel_rfl) (by kernel_rfl) (by kernel_rfl) (fun _ _ _ h => h) (Or.inl ⟨by kernel_rfl, ?y9⟩) hHeld ?z9
    case y9 => (intro wq hSw; (try dsimp only at hSw); go_simp; try with_reducible rfl)
    try simp only [Act.put, qq1, qq2, qq3]
    refine wpAnyH_take (i := 11) (v := ?v10) rfl (by kernel_rfl) (by kernel_rfl) (by kernel_rfl) (fun _ _ _ h => h) (Or.inl ⟨by kernel_rfl, ?y10⟩) hHeld ?z10
    case y10 => (intro wq hSw; (try dsimp only at hSw); go_simp; try with_reducible rfl)
    try simp only [Act.put, qq1, qq2, qq3]
    try simp only [Act.put, List.getElem_toArray, List.getElem_cons_succ, List.getElem_cons_zero, qq1, qq2, qq3]
    refine wpAnyH_done (by kernel_rfl) ?_ _
    refine NoPanic.normal ?_
    have t0 := X.t0
    have t1 := X.t1
    have t2 := X.t2
    have HE : Hid (DrawHP w (.returned (.tuple #[.agg #[(.slice ra nr cr), (.slice za nz cz), (.slice la nl cl)], .string nm, .int .i64 off])) (((y10.setCell ⟨w.heap.size, 0, none⟩ (.slice ra nr cr)).setCell ⟨w.heap.size, 1, none⟩ (.slice za nz cz)).setCell ⟨w.heap.size, 2, none⟩ (.slice la nl cl))) := ⟨_, _, _, R, evs, nm, off, rfl, X.rl, hnm, o1, o2, X.bel⟩
    clear hHeld
    go_wp2
    exact bodyPost_ret (v := .tuple #[.agg #[(.slice ra nr cr), (.slice za nz cz), (.slice la nl cl)], .string nm, .int .i64 off]) (by simp [results, Tryz.results5, go_sem, t0, t1, t2]) rfl HE.out
   refine AllReadyH.cons rfl (fun K hK => ?_) AllReadyH.nil
   go_simp
   refine (src_n (w.heap.size + 1) a len cap [] 5 _ A8.src (by omega) (by omega)).mono ?_
   rintro e y11 ⟨mz, rfl, mz0, mz1, S8, g8⟩
   have A11 := A8.drawn S8 g8
   obtain ⟨m, rfl⟩ := Int.eq_ofNat_of_zero_le mz0
   clear S8 g8 mz0
   go_wp2_with fail
   refine hK.out _ _ ⟨A11.c0, A11.c1, A11.c2⟩ (fun hHeld => ?_)
   clear hK K hHeld
   try simp only [Act.put, qq1, qq2, qq3]
   refine wpAnyH_ready (rs := [4, 9]) (by kernel_rfl) (by simp) ?_
   refine AllReadyH.cons rfl (fun K hK => ?_) ?_
   ·
    skip
    go_simp
    have bA : Below y11.heap.size y11 (y11.alloc (.cells #[.int .i64 0, .int .i64 3600, .int .i64 (-18000), .int .i64 86400, .int .i64 86401] 2)) := (Below.refl _ _).alloc (Nat.le_refl _) _
    have A12 := A11.below bA
    have I12 : IntRow (y11.alloc (.cells #[.int .i64 0, .int .i64 3600, .int .i64 (-18000), .int .i64 86400, .int .i64 86401] 2)) y11.heap.size ([0, 3600, -18000, 86400, 86401] : List Int) := fun i hi => pick_int y11 2 ([0, 3600, -18000, 86400, 86401] : List Int) i hi
    have bi : w.heap.size + 1 < y11.heap.size := by have := World.block_lt_of_cell? _ _ A11.c0; simp at this; omega
    have e0_12 := keepC bA A11.c0
    have e1_12 := keepC bA A11.c1
    have e2_12 := keepC bA A11.c2
    clear bA
    obtain ⟨im, him⟩ : ∃ n, y11.heap.size = n := ⟨_, rfl⟩
    rw [him] at I12 bi ⊢
    refine hK.out _ _ ⟨e0_12, e1_12, e2_12⟩ (fun hHeld => ?_)
    clear hK K hHeld him
    try simp only [Act.put, qq1, qq2, qq3]
    generalize (y11.alloc (.cells #[.int .i64 0, .int .i64 3600, .int .i64 (-18000), .int .i64 86400, .int .i64 86401] 2)) = v12 at *
    obtain ⟨off, ho⟩ : ∃ off : Int, ([0, 3600, -18000, 86400, 86401] : List Int).getD m 0 = off := ⟨_, rfl⟩
    have ob := off_bd m (by omega)
    have cx : v12.cell? ⟨im, m, none⟩ = some (.int .i64 (([0, 3600, -18000, 86400, 86401] : List Int).getD m 0)) := I12 m (by simp; omega)
    rw [ho] at ob cx
    obtain ⟨o1, o2⟩ := ob
    refine wpAnyH_sub (S2 := fun w' => w'.cell? ⟨w4.heap.size, 0, none⟩ = some (.slice ra nr cr) ∧ w'.cell? ⟨w4.heap.size, 1, none⟩ = some (.slice za nz cz) ∧ w'.cell? ⟨w4.heap.size, 2, none⟩ = some (.slice la nl cl) ∧ w'.cell? ⟨im, m, none⟩ = some (.int .i64 off)) (fun _ h => ⟨h.1, h.2.1, h.2.2.1⟩) _ _ _ _ ?_
    have hHeld : (fun w' => w'.cell? ⟨w4.heap.size, 0, none⟩ = some (.slice ra nr cr) ∧ w'.cell? ⟨w4.heap.size, 1, none⟩ = some (.slice za nz cz) ∧ w'.cell? ⟨w4.heap.size, 2, none⟩ = some (.slice la nl cl) ∧ w'.cell? ⟨im, m, none⟩ = some (.int .i64 off)) v12 := ⟨e0_12, e1_12, e2_12, cx⟩
    refine wpAnyH_take (i := 7) (v := ?v11) rfl (by kernel_rfl) (by kernel_rfl) (by kernel_rfl) (fun _ _ _ h => h) (Or.inl ⟨by kernel_rfl, ?y11⟩) hHeld ?z11
    case y11 => (intro wq hSw; (try dsimp only at hSw); go_simp; try with_reducible rfl)
    try simp only [Act.put, qq1, qq2, qq3]
    refine wpAnyH_take (i := 8) (v := ?v12) rfl (by kernel_rfl) (by kernel_rfl) (by kernel_rfl) (fun _ _ _ h => h) (Or.inl ⟨by kernel_rfl, ?y12⟩) hHeld ?z12
    case y12 => (intro wq hSw; (try dsimp only at hSw); go_simp; try with_reducible rfl)
    try simp only [Act.put, qq1, qq2, qq3]
    have hne : im ≠ w.heap.size := by omega
    have hH9 : (fun w' => w'.cell? ⟨w4.heap.size, 0, none⟩ = some (.slice ra nr cr) ∧ w'.cell? ⟨w4.heap.size, 1, none⟩ = some (.slice za nz cz) ∧ w'.cell? ⟨w4.heap.size, 2, none⟩ = some (.slice la nl cl) ∧ w'.cell? ⟨im, m, none⟩ = some (.int .i64 off)) (lay3 v12 w.heap.size (.slice ra nr cr) (.slice za nz cz) (.slice la nl cl)) := ⟨(lay3_far (by omega)).trans e0_12, (lay3_far (by omega)).trans e1_12, (lay3_far (by omega)).trans e2_12, (lay3_far hne).trans cx⟩
    have r0 := A12.r0
    have r1 := A12.r1
    have r2 := A12.r2
    have f0 := A12.rf 0
    have f1 := A12.rf 1
    have f2 := A12.rf 2
    have X := A12.laid
    refine wpAnyH_ready (rs := [9]) (by kernel_rfl) (by simp) ?_
    refine AllReadyH.cons rfl (fun K hK => ?_) AllReadyH.nil
    go_simp
    unfold lay3 at hH9 X
    refine hK.out _ _ hH9 (fun hHeld => ?_)
    clear hK K hH9
    try simp only [Act.put, qq1, qq2, qq3]
    refine wpAnyH_take (i := 10) (v := ?v13) rfl (by kernel_rfl) (by kernel_rfl) (by kernel_rfl) (fun _ _ _ h => h) (Or.inl ⟨by kernel_rfl, ?y13⟩) hHeld ?z13
    case y13 => (intro wq hSw; (try dsimp only at hSw); go_simp; try with_reducible rfl)
    try simp only [Act.put, qq1, qq2, qq3]
    refine wpAnyH_take (i := 11) (v := ?v14) rfl (by kernel_rfl) (by kernel_rfl) (by kernel_rfl) (fun _ _ _ h => h) (Or.inl ⟨by kernel_rfl, ?y14⟩) hHeld ?z14
    case y14 => (intro wq hSw; (try dsimp only at hSw); go_simp; try with_reducible rfl)
    try simp only [Act.put, qq1, qq2, qq3]
    try simp only [Act.put, List.getElem_toArray, List.getElem_cons_succ, List.getElem_cons_zero, qq1, qq2, qq3]
    refine wpAnyH_done (by kernel_rfl) ?_ _
    refine NoPanic.normal ?_
    have t0 := X.t0
    have t1 := X.t1
    have t2 := X.t2
    have HE : Hid (DrawHP w (.returned (.tuple #[.agg #[(.slice ra nr cr), (.slice za nz cz), (.slice la nl cl)], .string nm, .int .i64 off])) (((v12.setCell ⟨w.heap.size, 0, none⟩ (.slice ra nr cr)).setCell ⟨w.heap.size, 1, none⟩ (.slice za nz cz)).setCell ⟨w.heap.size, 2, none⟩ (.slice la nl cl))) := ⟨_, _, _, R, evs, nm, off, rfl, X.rl, hnm, o1, o2, X.bel⟩
    clear hHeld
    go_wp2
    exact bodyPost_ret (v := .tuple #[.agg #[(.slice ra nr cr), (.slice za nz cz), (.slice la nl cl)], .string nm, .int .i64 off]) (by simp [results, Tryz.results5, go_sem, t0, t1, t2]) rfl HE.out
   refine AllReadyH.cons rfl (fun K hK => ?_) AllReadyH.nil
   have hH9 : (fun w' => w'.cell? ⟨w4.heap.size, 0, none⟩ = some (.slice ra nr cr) ∧ w'.cell? ⟨w4.heap.size, 1, none⟩ = some (.slice za nz cz) ∧ w'.cell? ⟨w4.heap.size, 2, none⟩ = some (.slice la nl cl)) (lay3 y11 w.heap.size (.slice ra nr cr) (.slice za nz cz) (.slice la nl cl)) := ⟨(lay3_far (by omega)).trans A11.c0, (lay3_far (by omega)).trans A11.c1, (lay3_far (by omega)).trans A11.c2⟩
   have r0 := A11.r0
   have r1 := A11.r1
   have r2 := A11.r2
   have f0 := A11.rf 0
   have f1 := A11.rf 1
   have f2 := A11.rf 2
   have X := A11.laid
   go_simp
   unfold lay3 at hH9 X
   refine hK.out _ _ hH9 (fun hHeld => ?_)
   clear hK K hHeld r0 r1 r2 f0 f1 f2
   try simp only [Act.put, qq1, qq2, qq3]
   obtain ⟨g0, g1, g2⟩ := hH9
   generalize (((y11.setCell ⟨w.heap.size, 0, none⟩ (.slice ra nr cr)).setCell ⟨w.heap.size, 1, none⟩ (.slice za nz cz)).setCell ⟨w.heap.size, 2, none⟩ (.slice la nl cl)) = v13 at *
   have hHeld : (fun w' => w'.cell? ⟨w4.heap.size, 0, none⟩ = some (.slice ra nr cr) ∧ w'.cell? ⟨w4.heap.size, 1, none⟩ = some (.slice za nz cz) ∧ w'.cell? ⟨w4.heap.size, 2, none⟩ = some (.slice la nl cl)) v13 := ⟨g0, g1, g2⟩
   refine wpAnyH_take (i := 10) (v := ?v15) rfl (by kernel_rfl) (by kernel_rfl) (by kernel_rfl) (fun _ _ _ h => h) (Or.inl ⟨by kernel_rfl, ?y15⟩) hHeld ?z15
   case y15 => (intro wq hSw; (try dsimp only at hSw); go_simp; try with_reducible rfl)
   try simp only [Act.put, qq1, qq2, qq3]
   clear hHeld
   refine wpAnyH_ready (rs := [4]) (by kernel_rfl) (by simp) ?_
   refine AllReadyH.cons rfl (fun K hK => ?_) AllReadyH.nil
   go_simp
   have bA : Below v13.heap.size v13 (v13.alloc (.cells #[.int .i64 0, .int .i64 3600, .int .i64 (-18000), .int .i64 86400, .int .i64 86401] 2)) := (Below.refl _ _).alloc (Nat.le_refl _) _
   have A14 := X.below bA
   have I14 : IntRow (v13.alloc (.cells #[.int .i64 0, .int .i64 3600, .int .i64 (-18000), .int .i64 86400, .int .i64 86401] 2)) v13.heap.size ([0, 3600, -18000, 86400, 86401] : List Int) := fun i hi => pick_int v13 2 ([0, 3600, -18000, 86400, 86401] : List Int) i hi
   have bi : w.heap.size + 1 < v13.heap.size := by have := World.block_lt_of_cell? _ _ g0; simp at this; omega
   have e0_14 := keepC bA g0
   have e1_14 := keepC bA g1
   have e2_14 := keepC bA g2
   clear bA
   obtain ⟨im, him⟩ : ∃ n, v13.heap.size = n := ⟨_, rfl⟩
   rw [him] at I14 bi ⊢
   refine hK.out _ _ ⟨e0_14, e1_14, e2_14⟩ (fun hHeld => ?_)
   clear hK K hHeld him
   try simp only [Act.put, qq1, qq2, qq3]
   generalize (v13.alloc (.cells #[.int .i64 0, .int .i64 3600, .int .i64 (-18000), .int .i64 86400, .int .i64 86401] 2)) = v14 at *
   obtain ⟨off, ho⟩ : ∃ off : Int, ([0, 3600, -18000, 86400, 86401] : List Int).getD m 0 = off := ⟨_, rfl⟩
   have ob := off_bd m (by omega)
   have cx : v14.cell? ⟨im, m, none⟩ = some (.int .i64 (([0, 3600, -18000, 86400, 86401] : List Int).getD m 0)) := I14 m (by simp; omega)
   rw [ho] at ob cx
   obtain ⟨o1, o2⟩ := ob
   refine wpAnyH_sub (S2 := fun w' => w'.cell? ⟨w4.heap.size, 0, none⟩ = some (.slice ra nr cr) ∧ w'.cell? ⟨w4.heap.size, 1, none⟩ = some (.slice za nz cz) ∧ w'.cell? ⟨w4.heap.size, 2, none⟩ = some (.slice la nl cl) ∧ w'.cell? ⟨im, m, none⟩ = some (.int .i64 off)) (fun _ h => ⟨h.1, h.2.1, h.2.2.1⟩) _ _ _ _ ?_
   have hHeld : (fun w' => w'.cell? ⟨w4.heap.size, 0, none⟩ = some (.slice ra nr cr) ∧ w'.cell? ⟨w4.heap.size, 1, none⟩ = some (.slice za nz cz) ∧ w'.cell? ⟨w4.heap.size, 2, none⟩ = some (.slice la nl cl) ∧ w'.cell? ⟨im, m, none⟩ = some (.int .i64 off)) v14 := ⟨e0_14, e1_14, e2_14, cx⟩
   refine wpAnyH_take (i := 7) (v := ?v16) rfl (by kernel_rfl) (by kernel_rfl) (by kernel_rfl) (fun _ _ _ h => h) (Or.inl ⟨by kernel_rfl, ?y16⟩) hHeld ?z16
   case y16 => (intro wq hSw; (try dsimp only at hSw); go_simp; try with_reducible rfl)
   try simp only [Act.put, qq1, qq2, qq3]
   refine wpAnyH_take (i := 8) (v := ?v17) rfl (by kernel_rfl) (by kernel_rfl) (by kernel_rfl) (fun _ _ _ h => h) (Or.inl ⟨by kernel_rfl, ?y17⟩) hHeld ?z17
   case y17 => (intro wq hSw; (try dsimp only at hSw); go_simp; try with_reducible rfl)
   try simp only [Act.put, qq1, qq2, qq3]
   refine wpAnyH_take (i := 11) (v := ?v18) rfl (by kernel_rfl) (by kernel_rfl) (by kernel_rfl) (fun _ _ _ h => h) (Or.inl ⟨by kernel_rfl, ?y18⟩) hHeld ?z18
   case y18 => (intro wq hSw; (try dsimp only at hSw); go_simp; try with_reducible rfl)
   try simp only [Act.put, qq1, qq2, qq3]
   try simp only [Act.put, List.getElem_toArray, List.getElem_cons_succ, List.getElem_cons_zero, qq1, qq2, qq3]
   refine wpAnyH_done (by kernel_rfl) ?_ _
   refine NoPanic.normal ?_
   have t0 := A14.t0
   have t1 := A14.t1
   have t2 := A14.t2
   have HE : Hid (DrawHP w (.returned (.tuple #[.agg #[(.slice ra nr cr), (.slice za nz cz), (.slice la nl cl)], .string nm, .int .i64 off])) v14) := ⟨_, _, _, R, evs, nm, off, rfl, A14.rl, hnm, o1, o2, A14.bel⟩
   clear hHeld
   go_wp2
   exact bodyPost_ret (v := .tuple #[.agg #[(.slice ra nr cr), (.slice za nz cz), (.slice la nl cl)], .string nm, .int .i64 off]) (by simp [results, Tryz.results5, go_sem, t0, t1, t2]) rfl HE.out
  refine AllReadyH.cons rfl (fun K hK => ?_) AllReadyH.nil
  go_simp
  have bA : Below v7.heap.size v7 (v7.alloc (.cells #[.int .i64 0, .int .i64 3600, .int .i64 (-18000), .int .i64 86400, .int .i64 86401] 2)) := (Below.refl _ _).alloc (Nat.le_refl _) _
  have A15 := A7.below bA
  have I15 : IntRow (v7.alloc (.cells #[.int .i64 0, .int .i64 3600, .int .i64 (-18000), .int .i64 86400, .int .i64 86401] 2)) v7.heap.size ([0, 3600, -18000, 86400, 86401] : List Int) := fun i hi => pick_int v7 2 ([0, 3600, -18000, 86400, 86401] : List Int) i hi
  have bi : w.heap.size + 1 < v7.heap.size := by have := World.block_lt_of_cell? _ _ A7.c0; simp at this; omega
  have e0_15 := keepC bA A7.c0
  have e1_15 := keepC bA A7.c1
  have e2_15 := keepC bA A7.c2
  have R15 := R7.below bA
  clear bA
  obtain ⟨im, him⟩ : ∃ n, v7.heap.size = n := ⟨_, rfl⟩
  rw [him] at I15 bi ⊢
  refine hK.out _ _ ⟨e0_15, e1_15, e2_15⟩ (fun hHeld => ?_)
  clear hK K hHeld him
  try simp only [Act.put, qq1, qq2, qq3]
  generalize (v7.alloc (.cells #[.int .i64 0, .int .i64 3600, .int .i64 (-18000), .int .i64 86400, .int .i64 86401] 2)) = v15 at *
  refine wpAnyH_ready (rs := [3]) (by kernel_rfl) (by simp) ?_
  refine AllReadyH.cons rfl (fun K hK => ?_) AllReadyH.nil
  go_simp
  refine (src_pick (w.heap.size + 1) a len cap [] bn 3 100 _ A15.src R15 bb (by omega) (by omega)).mono ?_
  rintro e y16 ⟨nm, rfl, hnm, S8, g8⟩
  have A16 := A15.drawn S8 g8
  have I16 := I15.grown g8 (by omega)
  clear S8 g8
  go_wp2_with fail
  refine hK.out _ _ ⟨A16.c0, A16.c1, A16.c2⟩ (fun hHeld => ?_)
  clear hK K hHeld
  try simp only [Act.put, qq1, qq2, qq3]
  refine wpAnyH_ready (rs := [6]) (by kernel_rfl) (by simp) ?_
  refine AllReadyH.cons rfl (fun K hK => ?_) AllReadyH.nil
  go_simp
  refine (src_n (w.heap.size + 1) a len cap [] 5 _ A16.src (by omega) (by omega)).mono ?_
  rintro e y17 ⟨mz, rfl, mz0, mz1, S8, g8⟩
  have A17 := A16.drawn S8 g8
  have I17 := I16.grown g8 (by omega)
  obtain ⟨m, rfl⟩ := Int.eq_ofNat_of_zero_le mz0
  clear S8 g8 mz0
  go_wp2_with fail
  refine hK.out _ _ ⟨A17.c0, A17.c1, A17.c2⟩ (fun hHeld => ?_)
  clear hK K hHeld
  try simp only [Act.put, qq1, qq2, qq3]
  obtain ⟨off, ho⟩ : ∃ off : Int, ([0, 3600, -18000, 86400, 86401] : List Int).getD m 0 = off := ⟨_, rfl⟩
  have ob := off_bd m (by omega)
  have cx : y17.cell? ⟨im, m, none⟩ = some (.int .i64 (([0, 3600, -18000, 86400, 86401] : List Int).getD m 0)) := I17 m (by simp; omega)
  rw [ho] at ob cx
  obtain ⟨o1, o2⟩ := ob
  refine wpAnyH_sub (S2 := fun w' => w'.cell? ⟨w4.heap.size, 0, none⟩ = some (.slice ra nr cr) ∧ w'.cell? ⟨w4.heap.size, 1, none⟩ = some (.slice za nz cz) ∧ w'.cell? ⟨w4.heap.size, 2, none⟩ = some (.slice la nl cl) ∧ w'.cell? ⟨im, m, none⟩ = some (.int .i64 off)) (fun _ h => ⟨h.1, h.2.1, h.2.2.1⟩) _ _ _ _ ?_
  have hHeld : (fun w' => w'.cell? ⟨w4.heap.size, 0, none⟩ = some (.slice ra nr cr) ∧ w'.cell? ⟨w4.heap.size, 1, none⟩ = some (.slice za nz cz) ∧ w'.cell? ⟨w4.heap.size, 2, none⟩ = some (.slice la nl cl) ∧ w'.cell? ⟨im, m, none⟩ = some (.int .i64 off)) y17 := ⟨A17.c0, A17.c1, A17.c2, cx⟩
  refine wpAnyH_take (i := 7) (v := ?v19) rfl (by kernel_rfl) (by kernel_rfl) (by kernel_rfl) (fun _ _ _ h => h) (Or.inl ⟨by kernel_rfl, ?y19⟩) hHeld ?z19
  case y19 => (intro wq hSw; (try dsimp only at hSw); go_simp; try with_reducible rfl)
  try simp only [Act.put, qq1, qq2, qq3]
  refine wpAnyH_take (i := 8) (v := ?v20) rfl (by kernel_rfl) (by kernel_rfl) (by kernel_rfl) (fun _ _ _ h => h) (Or.inl ⟨by kernel_rfl, ?y20⟩) hHeld ?z20
  case y20 => (intro wq hSw; (try dsimp only at hSw); go_simp; try with_reducible rfl)
  try simp only [Act.put, qq1, qq2, qq3]
  have hne : im ≠ w.heap.size := by omega
  have hH9 : (fun w' => w'.cell? ⟨w4.heap.size, 0, none⟩ = some (.slice ra nr cr) ∧ w'.cell? ⟨w4.heap.size, 1, none⟩ = some (.slice za nz cz) ∧ w'.cell? ⟨w4.heap.size, 2, none⟩ = some (.slice la nl cl) ∧ w'.cell? ⟨im, m, none⟩ = some (.int .i64 off)) (lay3 y17 w.heap.size (.slice ra nr cr) (.slice za nz cz) (.slice la nl cl)) := ⟨(lay3_far (by omega)).trans A17.c0, (lay3_far (by omega)).trans A17.c1, (lay3_far (by omega)).trans A17.c2, (lay3_far hne).trans cx⟩
  have r0 := A17.r0
  have r1 := A17.r1
  have r2 := A17.r2
  have f0 := A17.rf 0
  have f1 := A17.rf 1
  have f2 := A17.rf 2
  have X := A17.laid
  refine wpAnyH_ready (rs := [9]) (by kernel_rfl) (by simp) ?_
  refine AllReadyH.cons rfl (fun K hK => ?_) AllReadyH.nil
  go_simp
  unfold lay3 at hH9 X
  refine hK.out _ _ hH9 (fun hHeld => ?_)
  clear hK K hH9
  try simp only [Act.put, qq1, qq2, qq3]
  refine wpAnyH_take (i := 10) (v := ?v21) rfl (by kernel_rfl) (by kernel_rfl) (by kernel_rfl) (fun _ _ _ h => h) (Or.inl ⟨by kernel_rfl, ?y21⟩) hHeld ?z21
  case y21 => (intro wq hSw; (try dsimp only at hSw); go_simp; try with_reducible rfl)
  try simp only [Act.put, qq1, qq2, qq3]
  refine wpAnyH_take (i := 11) (v := ?v22) rfl (by kernel_rfl) (by kernel_rfl) (by kernel_rfl) (fun _ _ _ h => h) (Or.inl ⟨by kernel_rfl, ?y22⟩) hHeld ?z22
  case y22 => (intro wq hSw; (try dsimp only at hSw); go_simp; try with_reducible rfl)
  try simp only [Act.put, qq1, qq2, qq3]
  try simp only [Act.put, List.getElem_toArray, List.getElem_cons_succ, List.getElem_cons_zero, qq1, qq2, qq3]
  refine wpAnyH_done (by kernel_rfl) ?_ _
  refine NoPanic.normal ?_
  have t0 := X.t0
  have t1 := X.t1
  have t2 := X.t2
  have HE : Hid (DrawHP w (.returned (.tuple #[.agg #[(.slice ra nr cr), (.slice za nz cz), (.slice la nl cl)], .string nm, .int .i64 off])) (((y17.setCell ⟨w.heap.size, 0, none⟩ (.slice ra nr cr)).setCell ⟨w.heap.size, 1, none⟩ (.slice za nz cz)).setCell ⟨w.heap.size, 2, none⟩ (.slice la nl cl))) := ⟨_, _, _, R, evs, nm, off, rfl, X.rl, hnm, o1, o2, X.bel⟩
  clear hHeld
  go_wp2
  exact bodyPost_ret (v := .tuple #[.agg #[(.slice ra nr cr), (.slice za nz cz), (.slice la nl cl)], .string nm, .int .i64 off]) (by simp [results, Tryz.results5, go_sem, t0, t1, t2]) rfl HE.out
 refine AllReadyH.cons rfl (fun K hK => ?_) AllReadyH.nil
 go_simp
 have bA : Below w6.heap.size w6 (w6.alloc (.cells #[.int .i64 0, .int .i64 3600, .int .i64 (-18000), .int .i64 86400, .int .i64 86401] 2)) := (Below.refl _ _).alloc (Nat.le_refl _) _
 have A18 := A6.below bA
 have I18 : IntRow (w6.alloc (.cells #[.int .i64 0, .int .i64 3600, .int .i64 (-18000), .int .i64 86400, .int .i64 86401] 2)) w6.heap.size ([0, 3600, -18000, 86400, 86401] : List Int) := fun i hi => pick_int w6 2 ([0, 3600, -18000, 86400, 86401] : List Int) i hi
 have bi : w.heap.size + 1 < w6.heap.size := by have := World.block_lt_of_cell? _ _ A6.c0; simp at this; omega
 have e0_18 := keepC bA A6.c0
 have e1_18 := keepC bA A6.c1
 have e2_18 := keepC bA A6.c2
 clear bA
 obtain ⟨im, him⟩ : ∃ n, w6.heap.size = n := ⟨_, rfl⟩
 rw [him] at I18 bi ⊢
 refine hK.out _ _ ⟨e0_18, e1_18, e2_18⟩ (fun hHeld => ?_)
 clear hK K hHeld him
 try simp only [Act.put, qq1, qq2, qq3]
 generalize (w6.alloc (.cells #[.int .i64 0, .int .i64 3600, .int .i64 (-18000), .int .i64 86400, .int .i64 86401] 2)) = v18 at *
 refine wpAnyH_ready (rs := [2]) (by kernel_rfl) (by simp) ?_
 refine AllReadyH.cons rfl (fun K hK => ?_) AllReadyH.nil
 go_simp
 have A19 := A18.alloc (.cells #[.string ⟨#[69, 117]⟩, .string ⟨#[85, 83]⟩, .string ⟨#[88]⟩] 9)
 have R19 : StrRow (v18.alloc (.cells #[.string ⟨#[69, 117]⟩, .string ⟨#[85, 83]⟩, .string ⟨#[88]⟩] 9)) v18.heap.size 3 100 := str_row v18 ([⟨#[69, 117]⟩, ⟨#[85, 83]⟩, ⟨#[88]⟩] : List ByteArray) 9 (by decide)
 have bb : v18.heap.size ≠ w.heap.size + 1 := by have : w.heap.size + 1 < v18.heap.size := A18.src.lt; omega
 have I19 := I18.below ((Below.refl _ v18).alloc (Nat.le_refl _) (.cells #[.string ⟨#[69, 117]⟩, .string ⟨#[85, 83]⟩, .string ⟨#[88]⟩] 9))
 obtain ⟨bn, hbn⟩ : ∃ n, v18.heap.size = n := ⟨_, rfl⟩
 rw [hbn] at R19 bb ⊢
 refine hK.out _ _ ⟨A19.c0, A19.c1, A19.c2⟩ (fun hHeld => ?_)
 clear hK K hHeld hbn
 try simp only [Act.put, qq1, qq2, qq3]
 generalize (v18.alloc (.cells #[.string ⟨#[69, 117]⟩, .string ⟨#[85, 83]⟩, .string ⟨#[88]⟩] 9)) = v19 at *
 refine wpAnyH_ready (rs := [3]) (by kernel_rfl) (by simp) ?_
 refine AllReadyH.cons rfl (fun K hK => ?_) AllReadyH.nil
 go_simp
 refine (src_pick (w.heap.size + 1) a len cap [] bn 3 100 _ A19.src R19 bb (by omega) (by omega)).mono ?_
 rintro e y20 ⟨nm, rfl, hnm, S8, g8⟩
 have A20 := A19.drawn S8 g8
 have I20 := I19.grown g8 (by omega)
 clear S8 g8
 go_wp2_with fail
 refine hK.out _ _ ⟨A20.c0, A20.c1, A20.c2⟩ (fun hHeld => ?_)
 clear hK K hHeld
 try simp only [Act.put, qq1, qq2, qq3]
 refine wpAnyH_ready (rs := [6]) (by kernel_rfl) (by simp) ?_
 refine AllReadyH.cons rfl (fun K hK => ?_) AllReadyH.nil
 go_simp
 refine (src_n (w.heap.size + 1) a len cap [] 5 _ A20.src (by omega) (by omega)).mono ?_
 rintro e y21 ⟨mz, rfl, mz0, mz1, S8, g8⟩
 have A21 := A20.drawn S8 g8
 have I21 := I20.grown g8 (by omega)
 obtain ⟨m, rfl⟩ := Int.eq_ofNat_of_zero_le mz0
 clear S8 g8 mz0
 go_wp2_with fail
 refine hK.out _ _ ⟨A21.c0, A21.c1, A21.c2⟩ (fun hHeld => ?_)
 clear hK K hHeld
 try simp only [Act.put, qq1, qq2, qq3]
 obtain ⟨off, ho⟩ : ∃ off : Int, ([0, 3600, -18000, 86400, 86401] : List Int).getD m 0 = off := ⟨_, rfl⟩
 have ob := off_bd m (by omega)
 have cx : y21.cell? ⟨im, m, none⟩ = some (.int .i64 (([0, 3600, -18000, 86400, 86401] : List Int).getD m 0)) := I21 m (by simp; omega)
 rw [ho] at ob cx
 obtain ⟨o1, o2⟩ := ob
 refine wpAnyH_sub (S2 := fun w' => w'.cell? ⟨w4.heap.size, 0, none⟩ = some (.slice ra nr cr) ∧ w'.cell? ⟨w4.heap.size, 1, none⟩ = some (.slice za nz cz) ∧ w'.cell? ⟨w4.heap.size, 2, none⟩ = some (.slice la nl cl) ∧ w'.cell? ⟨im, m, none⟩ = some (.int .i64 off)) (fun _ h => ⟨h.1, h.2.1, h.2.2.1⟩) _ _ _ _ ?_
 have hHeld : (fun w' => w'.cell? ⟨w4.heap.size, 0, none⟩ = some (.slice ra nr cr) ∧ w'.cell? ⟨w4.heap.size, 1, none⟩ = some (.slice za nz cz) ∧ w'.cell? ⟨w4.heap.size, 2, none⟩ = some (.slice la nl cl) ∧ w'.cell? ⟨im, m, none⟩ = some (.int .i64 off)) y21 := ⟨A21.c0, A21.c1, A21.c2, cx⟩
 refine wpAnyH_take (i := 7) (v := ?v23) rfl (by kernel_rfl) (by kernel_rfl) (by kernel_rfl) (fun _ _ _ h => h) (Or.inl ⟨by kernel_rfl, ?y23⟩) hHeld ?z23
 case y23 => (intro wq hSw; (try dsimp only at hSw); go_simp; try with_reducible rfl)
 try simp only [Act.put, qq1, qq2, qq3]
 refine wpAnyH_take (i := 8) (v := ?v24) rfl (by kernel_rfl) (by kernel_rfl) (by kernel_rfl) (fun _ _ _ h => h) (Or.inl ⟨by kernel_rfl, ?y24⟩) hHeld ?z24
 case y24 => (intro wq hSw; (try dsimp only at hSw); go_simp; try with_reducible rfl)
 try simp only [Act.put, qq1, qq2, qq3]
 have hne : im ≠ w.heap.size := by omega
 have hH9 : (fun w' => w'.cell? ⟨w4.heap.size, 0, none⟩ = some (.slice ra nr cr) ∧ w'.cell? ⟨w4.heap.size, 1, none⟩ = some (.slice za nz cz) ∧ w'.cell? ⟨w4.heap.size, 2, none⟩ = some (.slice la nl cl) ∧ w'.cell? ⟨im, m, none⟩ = some (.int .i64 off)) (lay3 y21 w.heap.size (.slice ra nr cr) (.slice za nz cz) (.slice la nl cl)) := ⟨(lay3_far (by omega)).trans A21.c0, (lay3_far (by omega)).trans A21.c1, (lay3_far (by omega)).trans A21.c2, (lay3_far hne).trans cx⟩
 have r0 := A21.r0
 have r1 := A21.r1
 have r2 := A21.r2
 have f0 := A21.rf 0
 have f1 := A21.rf 1
 have f2 := A21.rf 2
 have X := A21.laid
 refine wpAnyH_ready (rs := [9]) (by kernel_rfl) (by simp) ?_
 refine AllReadyH.cons rfl (fun K hK => ?_) AllReadyH.nil
 go_simp
 unfold lay3 at hH9 X
 refine hK.out _ _ hH9 (fun hHeld => ?_)
 clear hK K hH9
 try simp only [Act.put, qq1, qq2, qq3]
 refine wpAnyH_take (i := 10) (v := ?v25) rfl (by kernel_rfl) (by kernel_rfl) (by kernel_rfl) (fun _ _ _ h => h) (Or.inl ⟨by kernel_rfl, ?y25⟩) hHeld ?z25
 case y25 => (intro wq hSw; (try dsimp only at hSw); go_simp; try with_reducible rfl)
 try simp only [Act.put, qq1, qq2, qq3]
 refine wpAnyH_take (i := 11) (v := ?v26) rfl (by kernel_rfl) (by kernel_rfl) (by kernel_rfl) (fun _ _ _ h => h) (Or.inl ⟨by kernel_rfl, ?y26⟩) hHeld ?z26
 case y26 => (intro wq hSw; (try dsimp only at hSw); go_simp; try with_reducible rfl)
 try simp only [Act.put, qq1, qq2, qq3]
 try simp only [Act.put, List.getElem_toArray, List.getElem_cons_succ, List.getElem_cons_zero, qq1, qq2, qq3]
 refine wpAnyH_done (by kernel_rfl) ?_ _
 refine NoPanic.normal ?_
 have t0 := X.t0
 have t1 := X.t1
 have t2 := X.t2
 have HE : Hid (DrawHP w (.returned (.tuple #[.agg #[(.slice ra nr cr), (.slice za nz cz), (.slice la nl cl)], .string nm, .int .i64 off])) (((y21.setCell ⟨w.heap.size, 0, none⟩ (.slice ra nr cr)).setCell ⟨w.heap.size, 1, none⟩ (.slice za nz cz)).setCell ⟨w.heap.size, 2, none⟩ (.slice la nl cl))) := ⟨_, _, _, R, evs, nm, off, rfl, X.rl, hnm, o1, o2, X.bel⟩
 clear hHeld
 go_wp2
 exact bodyPost_ret (v := .tuple #[.agg #[(.slice ra nr cr), (.slice za nz cz), (.slice la nl cl)], .string nm, .int .i64 off]) (by simp [results, Tryz.results5, go_sem, t0, t1, t2]) rfl HE.out
structure DrawAP (w : World) (e : Ending) (w' : World) : Prop where
 ex : ∃ (f c : ByteArray) (s : Int), e = .returned (.tuple #[.string f, .string c, .int .i64 s]) ∧ f.size ≤ 100 ∧ c.size ≤ 100 ∧ Below w.heap.size w w'
set_option linter.unusedSimpArgs false in
set_option maxRecDepth 20000 in
set_option maxHeartbeats 4000000 in
theorem draw_AbbrOf (a : Option Addr) (len cap : Nat) (w : World) (h : RowOf w a len) (hl : len ≤ 1048576) :
  Calls Tryz.prog 8 #[.slice a len cap] w (DrawAP w) := by
 go_enter Tryz.func8, Tryz.ntmps8
 go_wp2_with fail
 refine (src_source a len cap _ h hl).mono ?_
 rintro e w1 ⟨rfl, S1, B1⟩
 have p1 : w.heap.size < w1.heap.size := S1.lt
 have S2 := S1.alloc (.cells (([⟨#[67, 69, 37, 115, 84]⟩, ⟨#[67, 69, 84, 47, 67, 69, 83, 84]⟩, ⟨#[76, 77, 84]⟩, ⟨#[37, 115, 47, 37, 115]⟩, ⟨#[47]⟩, ⟨#[97, 37, 115, 37, 115]⟩, ⟨#[]⟩] : List ByteArray).map Value.string).toArray 9)
 have R2 : StrRow (w1.alloc (.cells (([⟨#[67, 69, 37, 115, 84]⟩, ⟨#[67, 69, 84, 47, 67, 69, 83, 84]⟩, ⟨#[76, 77, 84]⟩, ⟨#[37, 115, 47, 37, 115]⟩, ⟨#[47]⟩, ⟨#[97, 37, 115, 37, 115]⟩, ⟨#[]⟩] : List ByteArray).map Value.string).toArray 9)) w1.heap.size 7 100 := str_row w1 ([⟨#[67, 69, 37, 115, 84]⟩, ⟨#[67, 69, 84, 47, 67, 69, 83, 84]⟩, ⟨#[76, 77, 84]⟩, ⟨#[37, 115, 47, 37, 115]⟩, ⟨#[47]⟩, ⟨#[97, 37, 115, 37, 115]⟩, ⟨#[]⟩] : List ByteArray) 9 (by decide)
 have B2 : Below w.heap.size w (w1.alloc (.cells (([⟨#[67, 69, 37, 115, 84]⟩, ⟨#[67, 69, 84, 47, 67, 69, 83, 84]⟩, ⟨#[76, 77, 84]⟩, ⟨#[37, 115, 47, 37, 115]⟩, ⟨#[47]⟩, ⟨#[97, 37, 115, 37, 115]⟩, ⟨#[]⟩] : List ByteArray).map Value.string).toArray 9)) := B1.alloc B1.size _
 go_wp2_with fail
 refine (src_pick w.heap.size a len cap [] w1.heap.size 7 100 _ S2 R2 (by omega) (by omega) (by omega)).mono ?_
 rintro e w3 ⟨f, rfl, hf, S3, g3⟩
 have B3 : Below w.heap.size w w3 := B2.grown g3 B2.size (fun k hk => by injection hk with hk; omega)
 have p3 : w.heap.size < w3.heap.size := S3.lt
 have S4 := S3.alloc (.cells (([⟨#[83]⟩, ⟨#[]⟩, ⟨#[68, 83, 84]⟩] : List ByteArray).map Value.string).toArray 9)
 have R4 : StrRow (w3.alloc (.cells (([⟨#[83]⟩, ⟨#[]⟩, ⟨#[68, 83, 84]⟩] : List ByteArray).map Value.string).toArray 9)) w3.heap.size 3 100 := str_row w3 ([⟨#[83]⟩, ⟨#[]⟩, ⟨#[68, 83, 84]⟩] : List ByteArray) 9 (by decide)
 have B4 : Below w.heap.size w (w3.alloc (.cells (([⟨#[83]⟩, ⟨#[]⟩, ⟨#[68, 83, 84]⟩] : List ByteArray).map Value.string).toArray 9)) := B3.alloc B3.size _
 clear S1 B1 S2 R2 B2 g3 S3 B3
 go_wp2_with fail
 refine (src_pick w.heap.size a len cap [] w3.heap.size 3 100 _ S4 R4 (by omega) (by omega) (by omega)).mono ?_
 rintro e w5 ⟨c, rfl, hc, S5, g5⟩
 have B5 : Below w.heap.size w w5 := B4.grown g5 B4.size (fun k hk => by injection hk with hk; omega)
 clear S4 R4 B4 g5
 go_wp2_with fail
 refine (src_n w.heap.size a len cap [] 2 _ S5 (by omega) (by omega)).mono ?_
 rintro e w6 ⟨s, rfl, s0, s1, S6, g6⟩
 have B6 : Below w.heap.size w w6 := B5.grown g6 B5.size (fun k hk => by injection hk with hk; omega)
 have qs : IntKind.i64.wrap (s * 3600) = s * 3600 := by rw [IntKind.wrap_i64]; omega
 clear S5 B5 g6 S6
 go_wp2
 exact bodyPost_ret (v := .tuple #[.string f, .string c, .int .i64 (s * 3600)]) (by simp [results, Tryz.results8, go_sem]) rfl ⟨f, c, _, rfl, hf, hc, B6⟩
end Go.Proofs.YtcelbkmnbjcjhaaGreatDoor
