/- Packed: Dw4 Dw5. -/
import Derived.Test.YtcelbkmnbjcjhaaGreatTw2d
import Derived.Test.YtcelbkmnbjcjhaaGreatMoPd
namespace Go.Proofs.YtcelbkmnbjcjhaaGreat
open Go.RowKit

/-- two drawn tables. -/
structure DrawDP (w : World) (e : Ending) (w' : World) : Prop where
 ex : ∃ (tv bv : Value) (T U : List TurnD), e = .returned (.tuple #[.agg #[tv], .agg #[bv]]) ∧ OwnsT w' w.heap.size tv T ∧ OwnsT w' w.heap.size bv U ∧ T.length ≤ 2000 ∧ U.length ≤ 2000 ∧ (∀ t ∈ T, t.ok) ∧ (∀ t ∈ U, t.ok) ∧ Below w.heap.size w w'
theorem own_two {w W : World} {B : Nat} {v u u2 : Value} {T : List TurnD} (h : OwnsT W B v T) (hB : w.heap.size + 1 < B) : OwnsT ((W.setCell ⟨w.heap.size, 0, none⟩ u).setCell ⟨w.heap.size + 1, 0, none⟩ u2) w.heap.size v T := by
 have hg : W.grownBy (W.setCell ⟨w.heap.size, 0, none⟩ u) (some w.heap.size) := Lib.grownBy_setB (World.grownBy.refl _ _) 0 u
 have h1 : OwnsT (W.setCell ⟨w.heap.size, 0, none⟩ u) B v T := World.ownsRow.kept h hg (sep_p h (by omega))
 have hg2 : (W.setCell ⟨w.heap.size, 0, none⟩ u).grownBy ((W.setCell ⟨w.heap.size, 0, none⟩ u).setCell ⟨w.heap.size + 1, 0, none⟩ u2) (some (w.heap.size + 1)) := Lib.grownBy_setB (World.grownBy.refl _ _) 0 u2
 exact owns_mono (World.ownsRow.kept h1 hg2 (sep_p h1 hB)) (by omega)
set_option linter.unusedSimpArgs false in
set_option maxRecDepth 20000 in
set_option maxHeartbeats 8000000 in
theorem draw_Diff {Rok : World → Value → Prop} (hC : SomeC Rok) (a : Option Addr) (len cap : Nat) (w : World) (h : RowOf w a len) (hl : len ≤ 1048576) :
  Calls Tryz.prog 4 #[.slice a len cap] w (DrawDP w) := by
 have b0 : Below w.heap.size w ((w.alloc (.cells #[.slice none 0 0] 25)).alloc (.cells #[.slice none 0 0] 25)) := ((Below.refl w.heap.size w).alloc (Nat.le_refl _) _).alloc (by simp) _
 have r01 : ((w.alloc (.cells #[.slice none 0 0] 25)).alloc (.cells #[.slice none 0 0] 25)).cell? ⟨w.heap.size, 0, none⟩ = some (.slice none 0 0) := by simp [go_sem]
 have q01 : ((w.alloc (.cells #[.slice none 0 0] 25)).alloc (.cells #[.slice none 0 0] 25)).frozen? ⟨w.heap.size, 0, none⟩ = false := by simp [go_sem]
 have r02 : ((w.alloc (.cells #[.slice none 0 0] 25)).alloc (.cells #[.slice none 0 0] 25)).cell? ⟨w.heap.size + 1, 0, none⟩ = some (.slice none 0 0) := by simp [go_sem]
 have q02 : ((w.alloc (.cells #[.slice none 0 0] 25)).alloc (.cells #[.slice none 0 0] 25)).frozen? ⟨w.heap.size + 1, 0, none⟩ = false := by simp [go_sem]
 have h0 := h.grown b0
 clear h
 go_enter Tryz.func4, Tryz.ntmps4
 go_wp2_with fail
 refine (src_source a len cap _ h0 hl).mono ?_
 rintro e w1 ⟨rfl, S1, hb1⟩
 simp only [World.size_alloc] at S1
 have R11 := keepC hb1 r01
 have Q11 := ((bcell hb1).2 w.heap.size 0 (by simp <;> omega)).trans q01
 have R12 := keepC hb1 r02
 have Q12 := ((bcell hb1).2 (w.heap.size + 1) 0 (by simp <;> omega)).trans q02
 have B1 : Below w.heap.size w w1 := b0.trans (hb1.mono (by simp; omega))
 clear hb1 r01 r02 q01 q02 b0 h0
 have p1 : w.heap.size + 1 + 1 < w1.heap.size := S1.lt
 go_wp2_with fail
 refine (src_two hC (w.heap.size + 1 + 1) a len cap [] _ S1).mono ?_
 intro e w4 hs
 obtain ⟨tv, bv, T, U, rfl, OT, OU, lT, lU, kT, kU, S4, g4⟩ := hs.ex
 clear hs S1
 obtain ⟨bt, ct, rfl⟩ : ∃ b c, tv = .slice b T.length c := by obtain ⟨b, c, h, _⟩ := OT.seq; exact ⟨b, c, h⟩
 obtain ⟨bu, cu, rfl⟩ : ∃ b c, bv = .slice b U.length c := by obtain ⟨b, c, h, _⟩ := OU.seq; exact ⟨b, c, h⟩
 obtain ⟨n, hn⟩ : ∃ n, T.length = n := ⟨_, rfl⟩
 obtain ⟨m, hm⟩ : ∃ m, U.length = m := ⟨_, rfl⟩
 rw [hn] at OT
 rw [hm] at OU
 rw [hn, hm]
 have HN : Hid (T.length = n) := hn
 have HM : Hid (U.length = m) := hm
 clear hn hm
 have R41 := g4.cell (a := ⟨w.heap.size, 0, none⟩) R11 (by simp <;> omega)
 have Q41 := (g4.frozen_far ⟨w.heap.size, 0, none⟩ (World.block_lt_of_cell? _ _ R11) (by simp <;> omega)).trans Q11
 have R42 := g4.cell (a := ⟨w.heap.size + 1, 0, none⟩) R12 (by simp <;> omega)
 have Q42 := (g4.frozen_far ⟨w.heap.size + 1, 0, none⟩ (World.block_lt_of_cell? _ _ R12) (by simp <;> omega)).trans Q12
 have hs1 := B1.size
 have hs4 := S4.lt
 have B4 : Below w.heap.size w w4 := B1.grown g4 (by omega) (fun k hk => by injection hk with hk; omega)
 have z4 := g4.size
 have OT : OwnsT w4 (w.heap.size + 1 + 1 + 1) (.slice bt n ct) T := owns_mono OT (by omega)
 have OU : OwnsT w4 (w.heap.size + 1 + 1 + 1) (.slice bu m cu) U := owns_mono OU (by omega)
 clear g4 B1 R11 R12 Q11 Q12
 have r9 : (w4.setCell ⟨w.heap.size, 0, none⟩ (.slice bt n ct)).cell? ⟨w.heap.size + 1, 0, none⟩ = some (.slice none 0 0) := by rw [World.cell?_setCell_other _ _ _ _ (by intro e; injection e with e; omega)]; exact R42
 have q9 : (w4.setCell ⟨w.heap.size, 0, none⟩ (.slice bt n ct)).frozen? ⟨w.heap.size + 1, 0, none⟩ = false := by rw [World.frozen?_setCell]; exact Q42
 have t1 : ((w4.setCell ⟨w.heap.size, 0, none⟩ (.slice bt n ct)).setCell ⟨w.heap.size + 1, 0, none⟩ (.slice bu m cu)).cell? ⟨w.heap.size, 0, none⟩ = some (.slice bt n ct) := by rw [World.cell?_setCell_other _ _ _ _ (by intro e; injection e with e; omega)]; exact World.cell?_setCell_same _ _ _ R41
 have t2 : ((w4.setCell ⟨w.heap.size, 0, none⟩ (.slice bt n ct)).setCell ⟨w.heap.size + 1, 0, none⟩ (.slice bu m cu)).cell? ⟨w.heap.size + 1, 0, none⟩ = some (.slice bu m cu) := World.cell?_setCell_same _ _ _ r9
 have t3 : (w4.setCell ⟨w.heap.size, 0, none⟩ (.slice bt n ct)).cell? ⟨w.heap.size, 0, none⟩ = some (.slice bt n ct) := World.cell?_setCell_same _ _ _ R41
 have HE : Hid (DrawDP w (.returned (.tuple #[.agg #[(.slice bt n ct)], .agg #[(.slice bu m cu)]])) ((w4.setCell ⟨w.heap.size, 0, none⟩ (.slice bt n ct)).setCell ⟨w.heap.size + 1, 0, none⟩ (.slice bu m cu))) := ⟨_, _, T, U, rfl, own_two OT (by omega), own_two OU (by omega), lT, lU, kT, kU, (B4.setCell (Nat.le_refl _) _).setCell (by show w.heap.size ≤ w.heap.size + 1; omega) _⟩
 clear OT OU S4 B4
 go_wp2
 exact bodyPost_ret (v := .tuple #[.agg #[(.slice bt n ct)], .agg #[(.slice bu m cu)]]) (by simp [results, Tryz.results4, go_sem, t1, t2, t3]) rfl HE.out
end Go.Proofs.YtcelbkmnbjcjhaaGreat
namespace Go.Proofs.YtcelbkmnbjcjhaaGreat
open Go.RowKit

structure DrawCP (w : World) (e : Ending) (w' : World) : Prop where
 ex : ∃ (tv bv : Value) (T U : List TurnD) (x y z : Int), e = .returned (.tuple #[.agg #[tv], .agg #[bv], .int .i64 x, .int .i64 y, .int .i64 z]) ∧ OwnsT w' w.heap.size tv T ∧ OwnsT w' w.heap.size bv U ∧ T.length ≤ 2000 ∧ U.length ≤ 2000 ∧ (∀ t ∈ T, t.ok) ∧ (∀ t ∈ U, t.ok) ∧ Below w.heap.size w w'
/-- two tables drawn, and laid in two cells. -/
structure CgAt (a : Option Addr) (len cap : Nat) (w : World) (b : Nat) (tv bv : Value) (T U : List TurnD) (W : World) : Prop where
 src : SrcAt (w.heap.size + 1 + 1) a len cap [] W
 bl : Below w.heap.size w W
 r1 : W.cell? ⟨w.heap.size, 0, none⟩ = some (.slice none 0 0)
 q1 : W.frozen? ⟨w.heap.size, 0, none⟩ = false
 r2 : W.cell? ⟨w.heap.size + 1, 0, none⟩ = some (.slice none 0 0)
 q2 : W.frozen? ⟨w.heap.size + 1, 0, none⟩ = false
 c1 : W.cell? ⟨b, 0, none⟩ = some tv
 c2 : W.cell? ⟨b + 1, 0, none⟩ = some bv
 ot : OwnsT W (w.heap.size + 1 + 1 + 1) tv T
 ou : OwnsT W (w.heap.size + 1 + 1 + 1) bv U
 sz : w.heap.size + 1 + 1 < b
theorem CgAt.drawn {a : Option Addr} {len cap : Nat} {w W W1 : World} {b : Nat} {tv bv : Value} {T U : List TurnD} (h : CgAt a len cap w b tv bv T U W) (hS : SrcAt (w.heap.size + 1 + 1) a len cap [] W1) (hg : W.grownBy W1 (some (w.heap.size + 1 + 1))) : CgAt a len cap w b tv bv T U W1 := by
 have hF := Fr.of_grown hg
 have l1 : w.heap.size < W.heap.size := World.block_lt_of_cell? _ _ h.r1
 have l2 : w.heap.size + 1 < W.heap.size := World.block_lt_of_cell? _ _ h.r2
 have hb := h.sz
 exact ⟨hS, h.bl.grown hg h.bl.size (fun k hk => by injection hk with hk; omega), hF.cell (fun e => by injection e with e; omega) h.r1, (hF.frozen l1 (fun e => by injection e with e; omega)).trans h.q1, hF.cell (fun e => by injection e with e; omega) h.r2, (hF.frozen l2 (fun e => by injection e with e; omega)).trans h.q2, hF.cell (fun e => by injection e with e; omega) h.c1, hF.cell (fun e => by injection e with e; omega) h.c2, World.ownsRow.kept h.ot hg (sep_p h.ot (by omega)), World.ownsRow.kept h.ou hg (sep_p h.ou (by omega)), hb⟩
theorem CgAt.drew {a : Option Addr} {len cap : Nat} {w W : World} {b : Nat} {tv bv : Value} {T U : List TurnD} (h : CgAt a len cap w b tv bv T U W) : CgAt a len cap w b tv bv T U W.drew :=
 h.drawn (h.src.grown (below_drew W)) (World.grownBy_of_below (below_drew W) _)
set_option linter.unusedSimpArgs false in
set_option maxRecDepth 20000 in
set_option maxHeartbeats 8000000 in
theorem draw_Changed {Rok : World → Value → Prop} (hC : SomeC Rok) (a : Option Addr) (len cap : Nat) (w : World) (h : RowOf w a len) (hl : len ≤ 1048576) :
  Calls Tryz.prog 7 #[.slice a len cap] w (DrawCP w) := by
 have b0 : Below w.heap.size w ((w.alloc (.cells #[.slice none 0 0] 25)).alloc (.cells #[.slice none 0 0] 25)) := ((Below.refl w.heap.size w).alloc (Nat.le_refl _) _).alloc (by simp) _
 have r01 : ((w.alloc (.cells #[.slice none 0 0] 25)).alloc (.cells #[.slice none 0 0] 25)).cell? ⟨w.heap.size, 0, none⟩ = some (.slice none 0 0) := by simp [go_sem]
 have q01 : ((w.alloc (.cells #[.slice none 0 0] 25)).alloc (.cells #[.slice none 0 0] 25)).frozen? ⟨w.heap.size, 0, none⟩ = false := by simp [go_sem]
 have r02 : ((w.alloc (.cells #[.slice none 0 0] 25)).alloc (.cells #[.slice none 0 0] 25)).cell? ⟨w.heap.size + 1, 0, none⟩ = some (.slice none 0 0) := by simp [go_sem]
 have q02 : ((w.alloc (.cells #[.slice none 0 0] 25)).alloc (.cells #[.slice none 0 0] 25)).frozen? ⟨w.heap.size + 1, 0, none⟩ = false := by simp [go_sem]
 have h0 := h.grown b0
 clear h
 go_enter Tryz.func7, Tryz.ntmps7
 go_wp2_with fail
 refine (src_source a len cap _ h0 hl).mono ?_
 rintro e w1 ⟨rfl, S1, hb1⟩
 simp only [World.size_alloc] at S1
 have R11 := keepC hb1 r01
 have Q11 := ((bcell hb1).2 w.heap.size 0 (by simp <;> omega)).trans q01
 have R12 := keepC hb1 r02
 have Q12 := ((bcell hb1).2 (w.heap.size + 1) 0 (by simp <;> omega)).trans q02
 have B1 : Below w.heap.size w w1 := b0.trans (hb1.mono (by simp; omega))
 clear hb1 r01 r02 q01 q02 b0 h0
 have p1 : w.heap.size + 1 + 1 < w1.heap.size := S1.lt
 go_wp2_with fail
 refine (src_two hC (w.heap.size + 1 + 1) a len cap [] _ S1).mono ?_
 intro e w4 hs
 obtain ⟨tv, bv, T, U, rfl, OT, OU, lT, lU, kT, kU, S4, g4⟩ := hs.ex
 clear hs S1
 obtain ⟨bt, ct, rfl⟩ : ∃ b c, tv = .slice b T.length c := by obtain ⟨b, c, h, _⟩ := OT.seq; exact ⟨b, c, h⟩
 obtain ⟨bu, cu, rfl⟩ : ∃ b c, bv = .slice b U.length c := by obtain ⟨b, c, h, _⟩ := OU.seq; exact ⟨b, c, h⟩
 obtain ⟨n, hn⟩ : ∃ n, T.length = n := ⟨_, rfl⟩
 obtain ⟨m, hm⟩ : ∃ m, U.length = m := ⟨_, rfl⟩
 rw [hn] at OT
 rw [hm] at OU
 rw [hn, hm]
 have HN : Hid (T.length = n) := hn
 have HM : Hid (U.length = m) := hm
 clear hn hm
 have R41 := g4.cell (a := ⟨w.heap.size, 0, none⟩) R11 (by simp <;> omega)
 have Q41 := (g4.frozen_far ⟨w.heap.size, 0, none⟩ (World.block_lt_of_cell? _ _ R11) (by simp <;> omega)).trans Q11
 have R42 := g4.cell (a := ⟨w.heap.size + 1, 0, none⟩) R12 (by simp <;> omega)
 have Q42 := (g4.frozen_far ⟨w.heap.size + 1, 0, none⟩ (World.block_lt_of_cell? _ _ R12) (by simp <;> omega)).trans Q12
 have hs1 := B1.size
 have hs4 := S4.lt
 have B4 : Below w.heap.size w w4 := B1.grown g4 (by omega) (fun k hk => by injection hk with hk; omega)
 have z4 := g4.size
 have OT : OwnsT w4 (w.heap.size + 1 + 1 + 1) (.slice bt n ct) T := owns_mono OT (by omega)
 have OU : OwnsT w4 (w.heap.size + 1 + 1 + 1) (.slice bu m cu) U := owns_mono OU (by omega)
 clear g4 B1 R11 R12 Q11 Q12
 have hA : Below w4.heap.size w4 ((w4.alloc (.cells #[.slice bt n ct] 25)).alloc (.cells #[.slice bu m cu] 25)) := ((Below.refl _ w4).alloc (Nat.le_refl _) _).alloc (by simp) _
 have A5 : CgAt a len cap w w4.heap.size (.slice bt n ct) (.slice bu m cu) T U ((w4.alloc (.cells #[.slice bt n ct] 25)).alloc (.cells #[.slice bu m cu] 25)) := ⟨S4.grown hA, B4.trans (hA.mono B4.size), keepC hA R41, ((bcell hA).2 _ _ (by omega)).trans Q41, keepC hA R42, ((bcell hA).2 _ _ (by omega)).trans Q42, by simp [go_sem], by simp [go_sem], owns_below OT hA, owns_below OU hA, hs4⟩
 clear hA S4 B4 R41 Q41 R42 Q42 OT OU
 go_wp2_with fail
 refine (src_near (w.heap.size + 1 + 1) a len cap [] _ U (w.heap.size + 1 + 1 + 1) _ A5.src A5.ou (by omega) lU).mono ?_
 rintro e w7 ⟨x7, rfl, S7, g7⟩
 have A7 := A5.drawn S7 g7
 clear A5 S7 g7
 have d1 := A7.c1
 have d2 := A7.c2
 go_wp2_with fail
 refine wp_region_noPanic ?_
 refine wp_region_held_drew (S := fun w' => w'.cell? ⟨w4.heap.size, 0, none⟩ = some ((.slice bt n ct)) ∧ w'.cell? ⟨w4.heap.size + 1, 0, none⟩ = some ((.slice bu m cu))) (by kernel_rfl) ⟨(show w7.drew.cell? ⟨w4.heap.size, 0, none⟩ = _ from d1), (show w7.drew.cell? ⟨w4.heap.size + 1, 0, none⟩ = _ from d2)⟩ (fun hHeld => ?_)
 have A7 := A7.drew
 clear d1 d2
 refine wpAnyH_take (i := 0) (v := ?v1) rfl (by kernel_rfl) (by kernel_rfl) (by kernel_rfl) (fun _ _ _ h => h) (Or.inl ⟨by kernel_rfl, ?y1⟩) hHeld ?z1
 case y1 => (intro wq hSw; (try dsimp only at hSw); go_simp; try with_reducible rfl)
 try simp only [Act.put, List.setIfInBounds_toArray, List.set_cons_zero, List.set_cons_succ]
 refine wpAnyH_take (i := 1) (v := ?v2) rfl (by kernel_rfl) (by kernel_rfl) (by kernel_rfl) (fun _ _ _ h => h) (Or.inl ⟨by kernel_rfl, ?y2⟩) hHeld ?z2
 case y2 => (intro wq hSw; (try dsimp only at hSw); go_simp; try with_reducible rfl)
 try simp only [Act.put, List.setIfInBounds_toArray, List.set_cons_zero, List.set_cons_succ]
 refine wpAnyH_take (i := 2) (v := ?v3) rfl (by kernel_rfl) (by kernel_rfl) (by kernel_rfl) (fun _ _ _ h => h) (Or.inl ⟨by kernel_rfl, ?y3⟩) hHeld ?z3
 case y3 => (intro wq hSw; (try dsimp only at hSw); go_simp; try with_reducible rfl)
 try simp only [Act.put, List.setIfInBounds_toArray, List.set_cons_zero, List.set_cons_succ]
 refine wpAnyH_take (i := 3) (v := ?v4) rfl (by kernel_rfl) (by kernel_rfl) (by kernel_rfl) (fun _ _ _ h => h) (Or.inl ⟨by kernel_rfl, ?y4⟩) hHeld ?z4
 case y4 => (intro wq hSw; (try dsimp only at hSw); go_simp; try with_reducible rfl)
 try simp only [Act.put, List.setIfInBounds_toArray, List.set_cons_zero, List.set_cons_succ]
 refine wpAnyH_take (i := 5) (v := ?v5) rfl (by kernel_rfl) (by kernel_rfl) (by kernel_rfl) (fun _ _ _ h => h) (Or.inl ⟨by kernel_rfl, ?y5⟩) hHeld ?z5
 case y5 => (intro wq hSw; (try dsimp only at hSw); go_simp; try with_reducible rfl)
 try simp only [Act.put, List.setIfInBounds_toArray, List.set_cons_zero, List.set_cons_succ]
 refine wpAnyH_ready (rs := [4]) (by kernel_rfl) (by simp) ?_
 refine AllReadyH.cons rfl (fun K hK => ?_) AllReadyH.nil
 go_simp
 refine (src_n (w.heap.size + 1 + 1) a len cap [] 3 _ A7.src (by omega) (by omega)).mono ?_
 rintro e w8 ⟨x8, rfl, lx8, ux8, S8, g8⟩
 have Aw8 := A7.drawn S8 g8
 clear A7 S8 g8 hHeld
 go_wp2_with fail
 refine hK.out _ _ ⟨Aw8.c1, Aw8.c2⟩ (fun hHeld => ?_)
 clear hK K
 try simp only [Act.put, List.setIfInBounds_toArray, List.set_cons_zero, List.set_cons_succ]
 refine wpAnyH_ready (rs := [6]) (by kernel_rfl) (by simp) ?_
 refine AllReadyH.cons rfl (fun K hK => ?_) AllReadyH.nil
 go_simp
 refine (src_n (w.heap.size + 1 + 1) a len cap [] 3 _ Aw8.src (by omega) (by omega)).mono ?_
 rintro e w9 ⟨x9, rfl, lx9, ux9, S8, g8⟩
 have Aw9 := Aw8.drawn S8 g8
 clear Aw8 S8 g8 hHeld
 go_wp2_with fail
 refine hK.out _ _ ⟨Aw9.c1, Aw9.c2⟩ (fun hHeld => ?_)
 clear hK K
 try simp only [Act.put, List.setIfInBounds_toArray, List.set_cons_zero, List.set_cons_succ]
 have R91 := Aw9.r1
 have R92 := Aw9.r2
 have Q91 := Aw9.q1
 have Q92 := Aw9.q2
 have c1 := Aw9.c1
 have c2 := Aw9.c2
 have r9 : (w9.setCell ⟨w.heap.size, 0, none⟩ (.slice bt n ct)).cell? ⟨w.heap.size + 1, 0, none⟩ = some (.slice none 0 0) := by rw [World.cell?_setCell_other _ _ _ _ (by intro e; injection e with e; omega)]; exact R92
 have q9 : (w9.setCell ⟨w.heap.size, 0, none⟩ (.slice bt n ct)).frozen? ⟨w.heap.size + 1, 0, none⟩ = false := by rw [World.frozen?_setCell]; exact Q92
 have t1 : ((w9.setCell ⟨w.heap.size, 0, none⟩ (.slice bt n ct)).setCell ⟨w.heap.size + 1, 0, none⟩ (.slice bu m cu)).cell? ⟨w.heap.size, 0, none⟩ = some (.slice bt n ct) := by rw [World.cell?_setCell_other _ _ _ _ (by intro e; injection e with e; omega)]; exact World.cell?_setCell_same _ _ _ R91
 have t2 : ((w9.setCell ⟨w.heap.size, 0, none⟩ (.slice bt n ct)).setCell ⟨w.heap.size + 1, 0, none⟩ (.slice bu m cu)).cell? ⟨w.heap.size + 1, 0, none⟩ = some (.slice bu m cu) := World.cell?_setCell_same _ _ _ r9
 have t3 : (w9.setCell ⟨w.heap.size, 0, none⟩ (.slice bt n ct)).cell? ⟨w.heap.size, 0, none⟩ = some (.slice bt n ct) := World.cell?_setCell_same _ _ _ R91
 have B9 := Aw9.bl
 have OT := Aw9.ot
 have OU := Aw9.ou
 clear Aw9
 have e1 : (w9.setCell ⟨w.heap.size, 0, none⟩ (.slice bt n ct)).cell? ⟨w4.heap.size, 0, none⟩ = some (.slice bt n ct) := by rw [World.cell?_setCell_other _ _ _ _ (by intro e; injection e with e; omega)]; exact c1
 have f1 : ((w9.setCell ⟨w.heap.size, 0, none⟩ (.slice bt n ct)).setCell ⟨w.heap.size + 1, 0, none⟩ (.slice bu m cu)).cell? ⟨w4.heap.size, 0, none⟩ = some (.slice bt n ct) := by rw [World.cell?_setCell_other _ _ _ _ (by intro e; injection e with e; omega)]; exact e1
 have e2 : (w9.setCell ⟨w.heap.size, 0, none⟩ (.slice bt n ct)).cell? ⟨w4.heap.size + 1, 0, none⟩ = some (.slice bu m cu) := by rw [World.cell?_setCell_other _ _ _ _ (by intro e; injection e with e; omega)]; exact c2
 have f2 : ((w9.setCell ⟨w.heap.size, 0, none⟩ (.slice bt n ct)).setCell ⟨w.heap.size + 1, 0, none⟩ (.slice bu m cu)).cell? ⟨w4.heap.size + 1, 0, none⟩ = some (.slice bu m cu) := by rw [World.cell?_setCell_other _ _ _ _ (by intro e; injection e with e; omega)]; exact e2
 have HE : Hid (DrawCP w (.returned (.tuple #[.agg #[(.slice bt n ct)], .agg #[(.slice bu m cu)], .int .i64 x7, .int .i64 x8, .int .i64 x9])) ((w9.setCell ⟨w.heap.size, 0, none⟩ (.slice bt n ct)).setCell ⟨w.heap.size + 1, 0, none⟩ (.slice bu m cu))) := ⟨_, _, T, U, _, _, _, rfl, own_two OT (by omega), own_two OU (by omega), lT, lU, kT, kU, (B9.setCell (Nat.le_refl _) _).setCell (by show w.heap.size ≤ w.heap.size + 1; omega) _⟩
 clear OT OU B9 hHeld
 refine wpAnyH_ready (rs := [7]) (by kernel_rfl) (by simp) ?_
 refine AllReadyH.cons rfl (fun K hK => ?_) AllReadyH.nil
 go_simp
 refine hK.out _ _ ⟨e1, e2⟩ (fun hHeld => ?_)
 clear hK K
 try simp only [Act.put, List.setIfInBounds_toArray, List.set_cons_zero, List.set_cons_succ]
 refine wpAnyH_ready (rs := [8]) (by kernel_rfl) (by simp) ?_
 refine AllReadyH.cons rfl (fun K hK => ?_) AllReadyH.nil
 go_simp
 refine hK.out _ _ ⟨f1, f2⟩ (fun hHeld => ?_)
 clear hK K
 try simp only [Act.put, List.setIfInBounds_toArray, List.set_cons_zero, List.set_cons_succ]
 refine wpAnyH_take (i := 9) (v := ?v6) rfl (by kernel_rfl) (by kernel_rfl) (by kernel_rfl) (fun _ _ _ h => h) (Or.inl ⟨by kernel_rfl, ?y6⟩) hHeld ?z6
 case y6 => (intro wq hSw; (try dsimp only at hSw); go_simp; try with_reducible rfl)
 try simp only [Act.put, List.setIfInBounds_toArray, List.set_cons_zero, List.set_cons_succ]
 refine wpAnyH_take (i := 10) (v := ?v7) rfl (by kernel_rfl) (by kernel_rfl) (by kernel_rfl) (fun _ _ _ h => h) (Or.inl ⟨by kernel_rfl, ?y7⟩) hHeld ?z7
 case y7 => (intro wq hSw; (try dsimp only at hSw); go_simp; try with_reducible rfl)
 try simp only [Act.put, List.setIfInBounds_toArray, List.set_cons_zero, List.set_cons_succ]
 refine wpAnyH_take (i := 11) (v := ?v8) rfl (by kernel_rfl) (by kernel_rfl) (by kernel_rfl) (fun _ _ _ h => h) (Or.inl ⟨by kernel_rfl, ?y8⟩) hHeld ?z8
 case y8 => (intro wq hSw; (try dsimp only at hSw); go_simp; try with_reducible rfl)
 try simp only [Act.put, List.setIfInBounds_toArray, List.set_cons_zero, List.set_cons_succ]
 try simp only [Act.put, List.getElem_toArray, List.getElem_cons_succ, List.getElem_cons_zero, List.setIfInBounds_toArray, List.set_cons_zero, List.set_cons_succ]
 refine wpAnyH_done (by kernel_rfl) ?_ _
 refine NoPanic.normal ?_
 clear hHeld
 go_wp2
 exact bodyPost_ret (v := .tuple #[.agg #[(.slice bt n ct)], .agg #[(.slice bu m cu)], .int .i64 x7, .int .i64 x8, .int .i64 x9]) (by simp [results, Tryz.results7, go_sem, t1, t2, t3]) rfl HE.out
end Go.Proofs.YtcelbkmnbjcjhaaGreat
