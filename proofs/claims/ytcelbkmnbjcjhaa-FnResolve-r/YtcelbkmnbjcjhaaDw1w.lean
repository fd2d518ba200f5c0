/- The model's drawing of a number near a turn. -/
import Derived.Test.YtcelbkmnbjcjhaaSm2w
import Derived.Test.YtcelbkmnbjcjhaaMoPw
namespace Go.Proofs.Ytcelbkmnbjcjhaa
open Go.RowKit
/-- a drawn table and a number. -/
structure Draw2P (w : World) (e : Ending) (w' : World) : Prop where
  ex : ∃ (tv : Value) (T : List TurnD) (x : Int), e = .returned (.tuple #[.agg #[tv], .int .i64 x]) ∧ OwnsT w' w.heap.size tv T ∧ T.length ≤ 2000 ∧ (∀ t ∈ T, t.ok) ∧ Below w.heap.size w w'
structure Draw4P (w : World) (e : Ending) (w' : World) : Prop where
  ex : ∃ (tv : Value) (T : List TurnD) (x y z : Int), e = .returned (.tuple #[.agg #[tv], .int .i64 x, .int .i64 y, .int .i64 z]) ∧ OwnsT w' w.heap.size tv T ∧ T.length ≤ 2000 ∧ (∀ t ∈ T, t.ok) ∧ Below w.heap.size w w'
theorem drawn_own {w W : World} {B : Nat} {v u : Value} {T : List TurnD} (h : OwnsT W B v T) (hB : w.heap.size < B) : OwnsT (W.setCell ⟨w.heap.size, 0, none⟩ u) w.heap.size v T := by
  have hg : W.grownBy (W.setCell ⟨w.heap.size, 0, none⟩ u) (some w.heap.size) := Lib.grownBy_setB (World.grownBy.refl _ _) 0 u
  exact owns_mono (World.ownsRow.kept h hg (sep_p h hB)) (by omega)
set_option linter.unusedSimpArgs false in
set_option maxRecDepth 20000 in
set_option maxHeartbeats 8000000 in
theorem draw_TurnAt {Rok : World → Value → Prop} (hC : SomeC Rok) (a : Option Addr) (len cap : Nat) (w : World) (h : RowOf w a len) (hl : len ≤ 1048576) :
    Calls Try.prog 5 #[.slice a len cap] w (Draw2P w) := by
  have b0 := (Below.refl w.heap.size w).alloc (Nat.le_refl _) (.cells #[.slice none 0 0] 25)
  have r0 : (w.alloc (.cells #[.slice none 0 0] 25)).cell? ⟨w.heap.size, 0, none⟩ = some (.slice none 0 0) := by simp [go_sem]
  have q0 : (w.alloc (.cells #[.slice none 0 0] 25)).frozen? ⟨w.heap.size, 0, none⟩ = false := by simp [go_sem]
  have h0 := h.grown b0
  clear h
  go_enter Try.func5, Try.ntmps5
  go_wp2_with fail
  refine (src_source a len cap _ h0 hl).mono ?_
  rintro e w1 ⟨rfl, S1, hb1⟩
  rw [World.size_alloc] at S1
  have R1 := keepC hb1 r0
  have Q1 := ((bcell hb1).2 w.heap.size 0 (by simp)).trans q0
  have B1 : Below w.heap.size w w1 := b0.trans (hb1.mono (by simp))
  clear hb1 r0 q0 b0 h0
  go_wp2_with fail
  refine (src_some hC (w.heap.size + 1) a len cap [] _ S1).mono ?_
  intro e w4 hs
  obtain ⟨tv, T, rfl, O4, l4, ok4, S4, g4⟩ := hs.ex
  have p1 : w.heap.size + 1 < w1.heap.size := S1.lt
  clear hs S1
  obtain ⟨bt, ct, rfl⟩ : ∃ b c, tv = .slice b T.length c := by obtain ⟨b, c, h, _⟩ := O4.seq; exact ⟨b, c, h⟩
  obtain ⟨n, hn⟩ : ∃ n, T.length = n := ⟨_, rfl⟩
  have HN : Hid (T.length = n) := hn
  rw [hn] at O4
  rw [hn]
  have hw1 := S4.lt
  have hs1 := B1.size
  have R4 := g4.cell (a := ⟨w.heap.size, 0, none⟩) R1 (by simp)
  have Q4 := (g4.frozen_far ⟨w.heap.size, 0, none⟩ (World.block_lt_of_cell? _ _ R1) (by simp)).trans Q1
  have B4 : Below w.heap.size w w4 := B1.grown g4 (by omega) (fun k hk => by injection hk with hk; omega)
  have O4 : OwnsT w4 (w.heap.size + 1 + 1) (.slice bt n ct) T := owns_mono O4 (by omega)
  clear g4 B1 R1 Q1 hn
  have S5 := S4.alloc (.cells #[.slice bt n ct] 25)
  have O5 : OwnsT (w4.alloc (.cells #[.slice bt n ct] 25)) (w.heap.size + 1 + 1) (.slice bt n ct) T := World.ownsRow.alloc O4 _
  have c5 : (w4.alloc (.cells #[.slice bt n ct] 25)).cell? ⟨w4.heap.size, 0, none⟩ = some (.slice bt n ct) := by simp [go_sem]
  have R5 := keepC ((Below.refl w4.heap.size w4).alloc (Nat.le_refl _) (.cells #[.slice bt n ct] 25)) R4
  have hw4 : w.heap.size + 1 < w4.heap.size := S4.lt
  have Q5 : (w4.alloc (.cells #[.slice bt n ct] 25)).frozen? ⟨w.heap.size, 0, none⟩ = false := ((bcell ((Below.refl w4.heap.size w4).alloc (Nat.le_refl _) (.cells #[.slice bt n ct] 25))).2 _ _ (by omega)).trans Q4
  have B5 : Below w.heap.size w (w4.alloc (.cells #[.slice bt n ct] 25)) := B4.alloc B4.size _
  clear S4 O4 R4 Q4 B4
  obtain ⟨wv, hwv⟩ : ∃ x : World, x = w4.alloc (.cells #[.slice bt n ct] 25) := ⟨_, rfl⟩
  have hwz : wv.heap.size = w4.heap.size + 1 := by rw [hwv]; simp
  go_wp2_with fail
  refine wp_region_noPanic ?_
  refine wp_region_held_drew (S := fun w' => w'.cell? ⟨w4.heap.size, 0, none⟩ = some (.slice bt n ct)) (by kernel_rfl) (show (w4.alloc (.cells #[.slice bt n ct] 25)).drew.cell? ⟨w4.heap.size, 0, none⟩ = _ from c5) (fun hHeld => ?_)
  refine wpAnyH_take (i := 0) (v := ?v1) rfl (by kernel_rfl) (by kernel_rfl) (by kernel_rfl) (fun _ _ _ h => h) (Or.inl ⟨by rfl, ?y1⟩) hHeld ?z1
  case y1 => (intro wq hSw; (try dsimp only at hSw); go_simp; try with_reducible rfl)
  try simp only [Act.put, List.setIfInBounds_toArray, List.set_cons_zero, List.set_cons_succ]
  refine wpAnyH_take (i := 1) (v := ?v2) rfl (by kernel_rfl) (by kernel_rfl) (by kernel_rfl) (fun _ _ _ h => h) (Or.inl ⟨by rfl, ?y2⟩) hHeld ?z2
  case y2 => (intro wq hSw; (try dsimp only at hSw); go_simp; try with_reducible rfl)
  try simp only [Act.put, List.setIfInBounds_toArray, List.set_cons_zero, List.set_cons_succ]
  refine wpAnyH_take (i := 2) (v := ?v3) rfl (by kernel_rfl) (by kernel_rfl) (by kernel_rfl) (fun _ _ _ h => h) (Or.inl ⟨by rfl, ?y3⟩) hHeld ?z3
  case y3 => (intro wq hSw; (try dsimp only at hSw); go_simp; try with_reducible rfl)
  try simp only [Act.put, List.setIfInBounds_toArray, List.set_cons_zero, List.set_cons_succ]
  refine wpAnyH_ready (rs := [3]) (by kernel_rfl) (by simp) ?_
  refine AllReadyH.cons rfl (fun K hK => ?_) AllReadyH.nil
  go_simp
  have O6 : OwnsT (w4.alloc (.cells #[.slice bt n ct] 25)).drew (w.heap.size + 1 + 1) (.slice bt n ct) T := owns_below O5 (below_drew _)
  refine (src_moment (w.heap.size + 1) a len cap [] _ T (w.heap.size + 1 + 1) _ (S5.grown (below_drew _)) O6 (by omega) l4).mono ?_
  rintro e w7 ⟨x7, rfl, S7, g7⟩
  have Ow7 : OwnsT w7 (w.heap.size + 1 + 1) (.slice bt n ct) T := World.ownsRow.kept O6 g7 (sep_p O6 (by omega))
  have Rw7 := g7.cell (a := ⟨w.heap.size, 0, none⟩) (show (w4.alloc (.cells #[.slice bt n ct] 25)).drew.cell? ⟨w.heap.size, 0, none⟩ = _ from R5) (by simp)
  have Qw7 := (g7.frozen_far ⟨w.heap.size, 0, none⟩ (World.block_lt_of_cell? _ _ (show (w4.alloc (.cells #[.slice bt n ct] 25)).drew.cell? ⟨w.heap.size, 0, none⟩ = _ from R5)) (by simp)).trans Q5
  have cw7 := g7.cell (a := ⟨w4.heap.size, 0, none⟩) (show (w4.alloc (.cells #[.slice bt n ct] 25)).drew.cell? ⟨w4.heap.size, 0, none⟩ = _ from c5) (by simp; omega)
  have Bw7 : Below w.heap.size w w7 := (B5.trans ((below_drew (w4.alloc (.cells #[.slice bt n ct] 25))).mono B5.size)).grown g7 (B5.trans ((below_drew (w4.alloc (.cells #[.slice bt n ct] 25))).mono B5.size)).size (fun k hk => by injection hk with hk; omega)
  clear g7 S7 O6 O5 S5 R5 Q5 c5 B5 hHeld hwv hwz wv
  go_wp2_with fail
  refine hK.out _ _ cw7 (fun hHeld => ?_)
  clear hK K
  try simp only [Act.put, List.setIfInBounds_toArray, List.set_cons_zero, List.set_cons_succ]
  refine wpAnyH_ready (rs := [4]) (by kernel_rfl) (by simp) ?_
  refine AllReadyH.cons rfl (fun K hK => ?_) AllReadyH.nil
  go_simp
  have c8 : (w7.setCell ⟨w.heap.size, 0, none⟩ (.slice bt n ct)).cell? ⟨w4.heap.size, 0, none⟩ = some (.slice bt n ct) := by rw [World.cell?_setCell_other _ _ _ _ (by intro e; injection e with e; omega)]; exact cw7
  refine hK.out _ _ c8 (fun hHeld => ?_)
  clear hK K c8
  try simp only [Act.put, List.setIfInBounds_toArray, List.set_cons_zero, List.set_cons_succ]
  refine wpAnyH_take (i := 5) (v := ?v4) rfl (by kernel_rfl) (by kernel_rfl) (by kernel_rfl) (fun _ _ _ h => h) (Or.inl ⟨by rfl, ?y4⟩) hHeld ?z4
  case y4 => (intro wq hSw; (try dsimp only at hSw); go_simp; try with_reducible rfl)
  try simp only [Act.put, List.setIfInBounds_toArray, List.set_cons_zero, List.set_cons_succ]
  try simp only [Act.put, List.getElem_toArray, List.getElem_cons_succ, List.getElem_cons_zero, List.setIfInBounds_toArray, List.set_cons_zero, List.set_cons_succ]
  refine wpAnyH_done (by kernel_rfl) ?_ _
  refine NoPanic.normal ?_
  have t8 : (w7.setCell ⟨w.heap.size, 0, none⟩ (.slice bt n ct)).cell? ⟨w.heap.size, 0, none⟩ = some (.slice bt n ct) := World.cell?_setCell_same _ _ _ Rw7
  have HE : Hid (Draw2P w (.returned (.tuple #[.agg #[.slice bt n ct], .int .i64 x7])) (w7.setCell ⟨w.heap.size, 0, none⟩ (.slice bt n ct))) := ⟨.slice bt n ct, T, _, rfl, drawn_own Ow7 (by omega), l4, ok4, Bw7.setCell (Nat.le_refl _) _⟩
  clear hHeld
  go_wp2
  exact bodyPost_ret (v := .tuple #[.agg #[.slice bt n ct], .int .i64 x7]) (by simp [results, Try.results5, go_sem, t8]) rfl HE.out
set_option linter.unusedSimpArgs false in
set_option maxRecDepth 20000 in
set_option maxHeartbeats 8000000 in
theorem draw_InstantsOf {Rok : World → Value → Prop} (hC : SomeC Rok) (a : Option Addr) (len cap : Nat) (w : World) (h : RowOf w a len) (hl : len ≤ 1048576) :
    Calls Try.prog 14 #[.slice a len cap] w (Draw2P w) := by
  have b0 := (Below.refl w.heap.size w).alloc (Nat.le_refl _) (.cells #[.slice none 0 0] 25)
  have r0 : (w.alloc (.cells #[.slice none 0 0] 25)).cell? ⟨w.heap.size, 0, none⟩ = some (.slice none 0 0) := by simp [go_sem]
  have q0 : (w.alloc (.cells #[.slice none 0 0] 25)).frozen? ⟨w.heap.size, 0, none⟩ = false := by simp [go_sem]
  have h0 := h.grown b0
  clear h
  go_enter Try.func14, Try.ntmps14
  go_wp2_with fail
  refine (src_source a len cap _ h0 hl).mono ?_
  rintro e w1 ⟨rfl, S1, hb1⟩
  rw [World.size_alloc] at S1
  have R1 := keepC hb1 r0
  have Q1 := ((bcell hb1).2 w.heap.size 0 (by simp)).trans q0
  have B1 : Below w.heap.size w w1 := b0.trans (hb1.mono (by simp))
  clear hb1 r0 q0 b0 h0
  go_wp2_with fail
  refine (src_some hC (w.heap.size + 1) a len cap [] _ S1).mono ?_
  intro e w4 hs
  obtain ⟨tv, T, rfl, O4, l4, ok4, S4, g4⟩ := hs.ex
  have p1 : w.heap.size + 1 < w1.heap.size := S1.lt
  clear hs S1
  obtain ⟨bt, ct, rfl⟩ : ∃ b c, tv = .slice b T.length c := by obtain ⟨b, c, h, _⟩ := O4.seq; exact ⟨b, c, h⟩
  obtain ⟨n, hn⟩ : ∃ n, T.length = n := ⟨_, rfl⟩
  have HN : Hid (T.length = n) := hn
  rw [hn] at O4
  rw [hn]
  have hw1 := S4.lt
  have hs1 := B1.size
  have R4 := g4.cell (a := ⟨w.heap.size, 0, none⟩) R1 (by simp)
  have Q4 := (g4.frozen_far ⟨w.heap.size, 0, none⟩ (World.block_lt_of_cell? _ _ R1) (by simp)).trans Q1
  have B4 : Below w.heap.size w w4 := B1.grown g4 (by omega) (fun k hk => by injection hk with hk; omega)
  have O4 : OwnsT w4 (w.heap.size + 1 + 1) (.slice bt n ct) T := owns_mono O4 (by omega)
  clear g4 B1 R1 Q1 hn
  have S5 := S4.alloc (.cells #[.slice bt n ct] 25)
  have O5 : OwnsT (w4.alloc (.cells #[.slice bt n ct] 25)) (w.heap.size + 1 + 1) (.slice bt n ct) T := World.ownsRow.alloc O4 _
  have c5 : (w4.alloc (.cells #[.slice bt n ct] 25)).cell? ⟨w4.heap.size, 0, none⟩ = some (.slice bt n ct) := by simp [go_sem]
  have R5 := keepC ((Below.refl w4.heap.size w4).alloc (Nat.le_refl _) (.cells #[.slice bt n ct] 25)) R4
  have hw4 : w.heap.size + 1 < w4.heap.size := S4.lt
  have Q5 : (w4.alloc (.cells #[.slice bt n ct] 25)).frozen? ⟨w.heap.size, 0, none⟩ = false := ((bcell ((Below.refl w4.heap.size w4).alloc (Nat.le_refl _) (.cells #[.slice bt n ct] 25))).2 _ _ (by omega)).trans Q4
  have B5 : Below w.heap.size w (w4.alloc (.cells #[.slice bt n ct] 25)) := B4.alloc B4.size _
  clear S4 O4 R4 Q4 B4
  obtain ⟨wv, hwv⟩ : ∃ x : World, x = w4.alloc (.cells #[.slice bt n ct] 25) := ⟨_, rfl⟩
  have hwz : wv.heap.size = w4.heap.size + 1 := by rw [hwv]; simp
  go_wp2_with fail
  refine wp_region_noPanic ?_
  refine wp_region_held_drew (S := fun w' => w'.cell? ⟨w4.heap.size, 0, none⟩ = some (.slice bt n ct)) (by kernel_rfl) (show (w4.alloc (.cells #[.slice bt n ct] 25)).drew.cell? ⟨w4.heap.size, 0, none⟩ = _ from c5) (fun hHeld => ?_)
  refine wpAnyH_take (i := 0) (v := ?v5) rfl (by kernel_rfl) (by kernel_rfl) (by kernel_rfl) (fun _ _ _ h => h) (Or.inl ⟨by rfl, ?y5⟩) hHeld ?z5
  case y5 => (intro wq hSw; (try dsimp only at hSw); go_simp; try with_reducible rfl)
  try simp only [Act.put, List.setIfInBounds_toArray, List.set_cons_zero, List.set_cons_succ]
  refine wpAnyH_take (i := 1) (v := ?v6) rfl (by kernel_rfl) (by kernel_rfl) (by kernel_rfl) (fun _ _ _ h => h) (Or.inl ⟨by rfl, ?y6⟩) hHeld ?z6
  case y6 => (intro wq hSw; (try dsimp only at hSw); go_simp; try with_reducible rfl)
  try simp only [Act.put, List.setIfInBounds_toArray, List.set_cons_zero, List.set_cons_succ]
  refine wpAnyH_take (i := 2) (v := ?v7) rfl (by kernel_rfl) (by kernel_rfl) (by kernel_rfl) (fun _ _ _ h => h) (Or.inl ⟨by rfl, ?y7⟩) hHeld ?z7
  case y7 => (intro wq hSw; (try dsimp only at hSw); go_simp; try with_reducible rfl)
  try simp only [Act.put, List.setIfInBounds_toArray, List.set_cons_zero, List.set_cons_succ]
  refine wpAnyH_ready (rs := [3]) (by kernel_rfl) (by simp) ?_
  refine AllReadyH.cons rfl (fun K hK => ?_) AllReadyH.nil
  go_simp
  have O6 : OwnsT (w4.alloc (.cells #[.slice bt n ct] 25)).drew (w.heap.size + 1 + 1) (.slice bt n ct) T := owns_below O5 (below_drew _)
  refine (src_near (w.heap.size + 1) a len cap [] _ T (w.heap.size + 1 + 1) _ (S5.grown (below_drew _)) O6 (by omega) l4).mono ?_
  rintro e w7 ⟨x7, rfl, S7, g7⟩
  have Ow7 : OwnsT w7 (w.heap.size + 1 + 1) (.slice bt n ct) T := World.ownsRow.kept O6 g7 (sep_p O6 (by omega))
  have Rw7 := g7.cell (a := ⟨w.heap.size, 0, none⟩) (show (w4.alloc (.cells #[.slice bt n ct] 25)).drew.cell? ⟨w.heap.size, 0, none⟩ = _ from R5) (by simp)
  have Qw7 := (g7.frozen_far ⟨w.heap.size, 0, none⟩ (World.block_lt_of_cell? _ _ (show (w4.alloc (.cells #[.slice bt n ct] 25)).drew.cell? ⟨w.heap.size, 0, none⟩ = _ from R5)) (by simp)).trans Q5
  have cw7 := g7.cell (a := ⟨w4.heap.size, 0, none⟩) (show (w4.alloc (.cells #[.slice bt n ct] 25)).drew.cell? ⟨w4.heap.size, 0, none⟩ = _ from c5) (by simp; omega)
  have Bw7 : Below w.heap.size w w7 := (B5.trans ((below_drew (w4.alloc (.cells #[.slice bt n ct] 25))).mono B5.size)).grown g7 (B5.trans ((below_drew (w4.alloc (.cells #[.slice bt n ct] 25))).mono B5.size)).size (fun k hk => by injection hk with hk; omega)
  clear g7 S7 O6 O5 S5 R5 Q5 c5 B5 hHeld hwv hwz wv
  go_wp2_with fail
  refine hK.out _ _ cw7 (fun hHeld => ?_)
  clear hK K
  try simp only [Act.put, List.setIfInBounds_toArray, List.set_cons_zero, List.set_cons_succ]
  refine wpAnyH_ready (rs := [4]) (by kernel_rfl) (by simp) ?_
  refine AllReadyH.cons rfl (fun K hK => ?_) AllReadyH.nil
  go_simp
  have c8 : (w7.setCell ⟨w.heap.size, 0, none⟩ (.slice bt n ct)).cell? ⟨w4.heap.size, 0, none⟩ = some (.slice bt n ct) := by rw [World.cell?_setCell_other _ _ _ _ (by intro e; injection e with e; omega)]; exact cw7
  refine hK.out _ _ c8 (fun hHeld => ?_)
  clear hK K c8
  try simp only [Act.put, List.setIfInBounds_toArray, List.set_cons_zero, List.set_cons_succ]
  refine wpAnyH_take (i := 5) (v := ?v8) rfl (by kernel_rfl) (by kernel_rfl) (by kernel_rfl) (fun _ _ _ h => h) (Or.inl ⟨by rfl, ?y8⟩) hHeld ?z8
  case y8 => (intro wq hSw; (try dsimp only at hSw); go_simp; try with_reducible rfl)
  try simp only [Act.put, List.setIfInBounds_toArray, List.set_cons_zero, List.set_cons_succ]
  try simp only [Act.put, List.getElem_toArray, List.getElem_cons_succ, List.getElem_cons_zero, List.setIfInBounds_toArray, List.set_cons_zero, List.set_cons_succ]
  refine wpAnyH_done (by kernel_rfl) ?_ _
  refine NoPanic.normal ?_
  have t8 : (w7.setCell ⟨w.heap.size, 0, none⟩ (.slice bt n ct)).cell? ⟨w.heap.size, 0, none⟩ = some (.slice bt n ct) := World.cell?_setCell_same _ _ _ Rw7
  have HE : Hid (Draw2P w (.returned (.tuple #[.agg #[.slice bt n ct], .int .i64 x7])) (w7.setCell ⟨w.heap.size, 0, none⟩ (.slice bt n ct))) := ⟨.slice bt n ct, T, _, rfl, drawn_own Ow7 (by omega), l4, ok4, Bw7.setCell (Nat.le_refl _) _⟩
  clear hHeld
  go_wp2
  exact bodyPost_ret (v := .tuple #[.agg #[.slice bt n ct], .int .i64 x7]) (by simp [results, Try.results14, go_sem, t8]) rfl HE.out
end Go.Proofs.Ytcelbkmnbjcjhaa
