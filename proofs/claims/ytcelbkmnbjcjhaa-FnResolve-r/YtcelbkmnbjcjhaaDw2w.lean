/- The model's drawing of a number near a turn. -/
import Derived.Test.YtcelbkmnbjcjhaaDw1w
namespace Go.Proofs.Ytcelbkmnbjcjhaa
open Go.RowKit
set_option linter.unusedSimpArgs false in
set_option maxRecDepth 20000 in
set_option maxHeartbeats 8000000 in
theorem draw_Resolve {Rok : World → Value → Prop} (hC : SomeC Rok) (a : Option Addr) (len cap : Nat) (w : World) (h : RowOf w a len) (hl : len ≤ 1048576) :
    Calls Try.prog 16 #[.slice a len cap] w (Draw4P w) := by
  have b0 := (Below.refl w.heap.size w).alloc (Nat.le_refl _) (.cells #[.slice none 0 0] 25)
  have r0 : (w.alloc (.cells #[.slice none 0 0] 25)).cell? ⟨w.heap.size, 0, none⟩ = some (.slice none 0 0) := by simp [go_sem]
  have q0 : (w.alloc (.cells #[.slice none 0 0] 25)).frozen? ⟨w.heap.size, 0, none⟩ = false := by simp [go_sem]
  have h0 := h.grown b0
  clear h
  go_enter Try.func16, Try.ntmps16
  go_wp2_with fail
  refine (src_source a len cap _ h0 hl).mono ?_
  rintro e w1 ⟨rfl, S1, hb1⟩
  rw [World.size_alloc] at S1
  have R1 := keepC hb1 r0
  have Q1 := ((bcell hb1).2 w.heap.size 0 (by simp)).trans q0
  have B1 : Below w.heap.size w w1 := b0.trans (hb1.mono (by simp))
  clear hb1 r0 q0 b0 h0
  go_wp2_with fail
  refine (src_some hC (w.heap.size + 1) a len cap [] _ S1).mono ?_
  intro e w4 hs
  obtain ⟨tv, T, rfl, O4, l4, ok4, S4, g4⟩ := hs.ex
  have p1 : w.heap.size + 1 < w1.heap.size := S1.lt
  clear hs S1
  obtain ⟨bt, ct, rfl⟩ : ∃ b c, tv = .slice b T.length c := by obtain ⟨b, c, h, _⟩ := O4.seq; exact ⟨b, c, h⟩
  obtain ⟨n, hn⟩ : ∃ n, T.length = n := ⟨_, rfl⟩
  have HN : Hid (T.length = n) := hn
  rw [hn] at O4
  rw [hn]
  have hw1 := S4.lt
  have hs1 := B1.size
  have R4 := g4.cell (a := ⟨w.heap.size, 0, none⟩) R1 (by simp)
  have Q4 := (g4.frozen_far ⟨w.heap.size, 0, none⟩ (World.block_lt_of_cell? _ _ R1) (by simp)).trans Q1
  have B4 : Below w.heap.size w w4 := B1.grown g4 (by omega) (fun k hk => by injection hk with hk; omega)
  have O4 : OwnsT w4 (w.heap.size + 1 + 1) (.slice bt n ct) T := owns_mono O4 (by omega)
  clear g4 B1 R1 Q1 hn
  have S5 := S4.alloc (.cells #[.slice bt n ct] 25)
  have O5 : OwnsT (w4.alloc (.cells #[.slice bt n ct] 25)) (w.heap.size + 1 + 1) (.slice bt n ct) T := World.ownsRow.alloc O4 _
  have c5 : (w4.alloc (.cells #[.slice bt n ct] 25)).cell? ⟨w4.heap.size, 0, none⟩ = some (.slice bt n ct) := by simp [go_sem]
  have R5 := keepC ((Below.refl w4.heap.size w4).alloc (Nat.le_refl _) (.cells #[.slice bt n ct] 25)) R4
  have hw4 : w.heap.size + 1 < w4.heap.size := S4.lt
  have Q5 : (w4.alloc (.cells #[.slice bt n ct] 25)).frozen? ⟨w.heap.size, 0, none⟩ = false := ((bcell ((Below.refl w4.heap.size w4).alloc (Nat.le_refl _) (.cells #[.slice bt n ct] 25))).2 _ _ (by omega)).trans Q4
  have B5 : Below w.heap.size w (w4.alloc (.cells #[.slice bt n ct] 25)) := B4.alloc B4.size _
  clear S4 O4 R4 Q4 B4
  obtain ⟨wv, hwv⟩ : ∃ x : World, x = w4.alloc (.cells #[.slice bt n ct] 25) := ⟨_, rfl⟩
  have hwz : wv.heap.size = w4.heap.size + 1 := by rw [hwv]; simp
  go_wp2_with fail
  refine (src_near (w.heap.size + 1) a len cap [] _ T (w.heap.size + 1 + 1) _ S5 O5 (by omega) l4).mono ?_
  rintro e w7 ⟨x7, rfl, S7, g7⟩
  have Ow7 : OwnsT w7 (w.heap.size + 1 + 1) (.slice bt n ct) T := World.ownsRow.kept O5 g7 (sep_p O5 (by omega))
  have Rw7 := g7.cell (a := ⟨w.heap.size, 0, none⟩) R5 (by simp)
  have Qw7 := (g7.frozen_far ⟨w.heap.size, 0, none⟩ (World.block_lt_of_cell? _ _ R5) (by simp)).trans Q5
  have cw7 := g7.cell (a := ⟨w4.heap.size, 0, none⟩) c5 (by simp; omega)
  have Bw7 : Below w.heap.size w w7 := B5.grown g7 B5.size (fun k hk => by injection hk with hk; omega)
  clear g7 O5 S5 R5 Q5 c5 B5 hwv hwz wv
  go_wp2_with fail
  refine (src_one (w.heap.size + 1) a len cap [] 15 _ S7 (by omega) (by omega)).mono ?_
  rintro e w8 ⟨v8, rfl, S8, g8⟩
  have Ow8 : OwnsT w8 (w.heap.size + 1 + 1) (.slice bt n ct) T := World.ownsRow.kept Ow7 g8 (sep_p Ow7 (by omega))
  have Rw8 := g8.cell (a := ⟨w.heap.size, 0, none⟩) Rw7 (by simp)
  have Qw8 := (g8.frozen_far ⟨w.heap.size, 0, none⟩ (World.block_lt_of_cell? _ _ Rw7) (by simp)).trans Qw7
  have cw8 := g8.cell (a := ⟨w4.heap.size, 0, none⟩) cw7 (by simp; omega)
  have Bw8 : Below w.heap.size w w8 := Bw7.grown g8 Bw7.size (fun k hk => by injection hk with hk; omega)
  clear g8 S7 Ow7 Rw7 Qw7 cw7 Bw7
  cases v8 with
  | true =>
    go_wp2_with fail
    refine wp_region_noPanic ?_
    refine wp_region_held_drew (S := fun w' => w'.cell? ⟨w4.heap.size, 0, none⟩ = some (.slice bt n ct)) (by kernel_rfl) (show w8.drew.cell? ⟨w4.heap.size, 0, none⟩ = _ from cw8) (fun hHeld => ?_)
    have O8 : OwnsT w8.drew (w.heap.size + 1 + 1) (.slice bt n ct) T := owns_below Ow8 (below_drew _)
    have B8 : Below w.heap.size w w8.drew := Bw8.trans ((below_drew w8).mono Bw8.size)
    have S8d := S8.grown (below_drew _)
    refine wpAnyH_take (i := 0) (v := ?v1) rfl (by kernel_rfl) (by kernel_rfl) (by kernel_rfl) (fun _ _ _ h => h) (Or.inl ⟨by rfl, ?y1⟩) hHeld ?z1
    case y1 => (intro wq hSw; (try dsimp only at hSw); go_simp; try with_reducible rfl)
    try simp only [Act.put, List.setIfInBounds_toArray, List.set_cons_zero, List.set_cons_succ]
    refine wpAnyH_take (i := 1) (v := ?v2) rfl (by kernel_rfl) (by kernel_rfl) (by kernel_rfl) (fun _ _ _ h => h) (Or.inl ⟨by rfl, ?y2⟩) hHeld ?z2
    case y2 => (intro wq hSw; (try dsimp only at hSw); go_simp; try with_reducible rfl)
    try simp only [Act.put, List.setIfInBounds_toArray, List.set_cons_zero, List.set_cons_succ]
    refine wpAnyH_take (i := 2) (v := ?v3) rfl (by kernel_rfl) (by kernel_rfl) (by kernel_rfl) (fun _ _ _ h => h) (Or.inl ⟨by rfl, ?y3⟩) hHeld ?z3
    case y3 => (intro wq hSw; (try dsimp only at hSw); go_simp; try with_reducible rfl)
    try simp only [Act.put, List.setIfInBounds_toArray, List.set_cons_zero, List.set_cons_succ]
    refine wpAnyH_take (i := 5) (v := ?v4) rfl (by kernel_rfl) (by kernel_rfl) (by kernel_rfl) (fun _ _ _ h => h) (Or.inl ⟨by rfl, ?y4⟩) hHeld ?z4
    case y4 => (intro wq hSw; (try dsimp only at hSw); go_simp; try with_reducible rfl)
    try simp only [Act.put, List.setIfInBounds_toArray, List.set_cons_zero, List.set_cons_succ]
    refine wpAnyH_ready (rs := [3]) (by kernel_rfl) (by simp) ?_
    refine AllReadyH.cons rfl (fun K hK => ?_) AllReadyH.nil
    go_simp
    refine (src_n (w.heap.size + 1) a len cap [] 5 _ S8d (by omega) (by omega)).mono ?_
    rintro e w9 ⟨y9, rfl, l9, u9, S9, g9⟩
    have Ow9 : OwnsT w9 (w.heap.size + 1 + 1) (.slice bt n ct) T := World.ownsRow.kept O8 g9 (sep_p O8 (by omega))
    have Rw9 := g9.cell (a := ⟨w.heap.size, 0, none⟩) (show w8.drew.cell? ⟨w.heap.size, 0, none⟩ = _ from Rw8) (by simp)
    have Qw9 := (g9.frozen_far ⟨w.heap.size, 0, none⟩ (World.block_lt_of_cell? _ _ (show w8.drew.cell? ⟨w.heap.size, 0, none⟩ = _ from Rw8)) (by simp)).trans Qw8
    have cw9 := g9.cell (a := ⟨w4.heap.size, 0, none⟩) (show w8.drew.cell? ⟨w4.heap.size, 0, none⟩ = _ from cw8) (by simp; omega)
    have Bw9 : Below w.heap.size w w9 := B8.grown g9 B8.size (fun k hk => by injection hk with hk; omega)
    have qy : IntKind.i64.wrap (y9 - 1) = y9 - 1 := by rw [IntKind.wrap_i64]; omega
    clear g9 S8 S8d Ow8 O8 B8 Rw8 Qw8 cw8 Bw8 hHeld
    go_wp2_with fail
    refine hK.out _ _ cw9 (fun hHeld => ?_)
    clear hK K
    try simp only [Act.put, List.setIfInBounds_toArray, List.set_cons_zero, List.set_cons_succ]
    refine wpAnyH_take (i := 4) (v := ?v5) rfl (by kernel_rfl) (by kernel_rfl) (by kernel_rfl) (fun _ _ _ h => h) (Or.inl ⟨by rfl, ?y5⟩) hHeld ?z5
    case y5 => (intro wq hSw; (try dsimp only at hSw); go_simp; try with_reducible rfl)
    try simp only [Act.put, List.setIfInBounds_toArray, List.set_cons_zero, List.set_cons_succ]
    refine wpAnyH_ready (rs := [6]) (by kernel_rfl) (by simp) ?_
    refine AllReadyH.cons rfl (fun K hK => ?_) AllReadyH.nil
    go_simp
    refine (src_edge (w.heap.size + 1) a len cap [] _ S9).mono ?_
    rintro e wa ⟨za, rfl, Sa, ga⟩
    have Owa : OwnsT wa (w.heap.size + 1 + 1) (.slice bt n ct) T := World.ownsRow.kept Ow9 ga (sep_p Ow9 (by omega))
    have Rwa := ga.cell (a := ⟨w.heap.size, 0, none⟩) Rw9 (by simp)
    have Qwa := (ga.frozen_far ⟨w.heap.size, 0, none⟩ (World.block_lt_of_cell? _ _ Rw9) (by simp)).trans Qw9
    have cwa := ga.cell (a := ⟨w4.heap.size, 0, none⟩) cw9 (by simp; omega)
    have Bwa : Below w.heap.size w wa := Bw9.grown ga Bw9.size (fun k hk => by injection hk with hk; omega)
    clear ga S9 Sa Ow9 Rw9 Qw9 cw9 Bw9 hHeld
    go_wp2_with fail
    refine hK.out _ _ cwa (fun hHeld => ?_)
    clear hK K
    try simp only [Act.put, List.setIfInBounds_toArray, List.set_cons_zero, List.set_cons_succ]
    refine wpAnyH_ready (rs := [7]) (by kernel_rfl) (by simp) ?_
    refine AllReadyH.cons rfl (fun K hK => ?_) AllReadyH.nil
    go_simp
    have c8 : (wa.setCell ⟨w.heap.size, 0, none⟩ (.slice bt n ct)).cell? ⟨w4.heap.size, 0, none⟩ = some (.slice bt n ct) := by rw [World.cell?_setCell_other _ _ _ _ (by intro e; injection e with e; omega)]; exact cwa
    refine hK.out _ _ c8 (fun hHeld => ?_)
    clear hK K c8
    try simp only [Act.put, List.setIfInBounds_toArray, List.set_cons_zero, List.set_cons_succ]
    refine wpAnyH_take (i := 8) (v := ?v6) rfl (by kernel_rfl) (by kernel_rfl) (by kernel_rfl) (fun _ _ _ h => h) (Or.inl ⟨by rfl, ?y6⟩) hHeld ?z6
    case y6 => (intro wq hSw; (try dsimp only at hSw); go_simp; try with_reducible rfl)
    try simp only [Act.put, List.setIfInBounds_toArray, List.set_cons_zero, List.set_cons_succ]
    refine wpAnyH_take (i := 9) (v := ?v7) rfl (by kernel_rfl) (by kernel_rfl) (by kernel_rfl) (fun _ _ _ h => h) (Or.inl ⟨by rfl, ?y7⟩) hHeld ?z7
    case y7 => (intro wq hSw; (try dsimp only at hSw); go_simp; try with_reducible rfl)
    try simp only [Act.put, List.setIfInBounds_toArray, List.set_cons_zero, List.set_cons_succ]
    refine wpAnyH_take (i := 10) (v := ?v8) rfl (by kernel_rfl) (by kernel_rfl) (by kernel_rfl) (fun _ _ _ h => h) (Or.inl ⟨by rfl, ?y8⟩) hHeld ?z8
    case y8 => (intro wq hSw; (try dsimp only at hSw); go_simp; try with_reducible rfl)
    try simp only [Act.put, List.setIfInBounds_toArray, List.set_cons_zero, List.set_cons_succ]
    try simp only [Act.put, List.getElem_toArray, List.getElem_cons_succ, List.getElem_cons_zero, List.setIfInBounds_toArray, List.set_cons_zero, List.set_cons_succ]
    refine wpAnyH_done (by kernel_rfl) ?_ _
    refine NoPanic.normal ?_
    have t8 : (wa.setCell ⟨w.heap.size, 0, none⟩ (.slice bt n ct)).cell? ⟨w.heap.size, 0, none⟩ = some (.slice bt n ct) := World.cell?_setCell_same _ _ _ Rwa
    have HE : Hid (Draw4P w (.returned (.tuple #[.agg #[.slice bt n ct], .int .i64 x7, .int .i64 (y9 - 1), .int .i64 za])) (wa.setCell ⟨w.heap.size, 0, none⟩ (.slice bt n ct))) := ⟨.slice bt n ct, T, _, _, _, rfl, drawn_own Owa (by omega), l4, ok4, Bwa.setCell (Nat.le_refl _) _⟩
    clear hHeld
    go_wp2
    exact bodyPost_ret (v := .tuple #[.agg #[.slice bt n ct], .int .i64 x7, .int .i64 (y9 - 1), .int .i64 za]) (by simp [results, Try.results16, go_sem, t8]) rfl HE.out
  | false =>
    go_wp2_with fail
    refine wp_region_noPanic ?_
    refine wp_region_held_drew (S := fun w' => w'.cell? ⟨w4.heap.size, 0, none⟩ = some (.slice bt n ct)) (by kernel_rfl) (show w8.drew.cell? ⟨w4.heap.size, 0, none⟩ = _ from cw8) (fun hHeld => ?_)
    have O8 : OwnsT w8.drew (w.heap.size + 1 + 1) (.slice bt n ct) T := owns_below Ow8 (below_drew _)
    have B8 : Below w.heap.size w w8.drew := Bw8.trans ((below_drew w8).mono Bw8.size)
    have S8d := S8.grown (below_drew _)
    refine wpAnyH_take (i := 0) (v := ?v9) rfl (by kernel_rfl) (by kernel_rfl) (by kernel_rfl) (fun _ _ _ h => h) (Or.inl ⟨by rfl, ?y9⟩) hHeld ?z9
    case y9 => (intro wq hSw; (try dsimp only at hSw); go_simp; try with_reducible rfl)
    try simp only [Act.put, List.setIfInBounds_toArray, List.set_cons_zero, List.set_cons_succ]
    refine wpAnyH_take (i := 1) (v := ?v10) rfl (by kernel_rfl) (by kernel_rfl) (by kernel_rfl) (fun _ _ _ h => h) (Or.inl ⟨by rfl, ?y10⟩) hHeld ?z10
    case y10 => (intro wq hSw; (try dsimp only at hSw); go_simp; try with_reducible rfl)
    try simp only [Act.put, List.setIfInBounds_toArray, List.set_cons_zero, List.set_cons_succ]
    refine wpAnyH_take (i := 2) (v := ?v11) rfl (by kernel_rfl) (by kernel_rfl) (by kernel_rfl) (fun _ _ _ h => h) (Or.inl ⟨by rfl, ?y11⟩) hHeld ?z11
    case y11 => (intro wq hSw; (try dsimp only at hSw); go_simp; try with_reducible rfl)
    try simp only [Act.put, List.setIfInBounds_toArray, List.set_cons_zero, List.set_cons_succ]
    refine wpAnyH_take (i := 4) (v := ?v12) rfl (by kernel_rfl) (by kernel_rfl) (by kernel_rfl) (fun _ _ _ h => h) (Or.inl ⟨by rfl, ?y12⟩) hHeld ?z12
    case y12 => (intro wq hSw; (try dsimp only at hSw); go_simp; try with_reducible rfl)
    try simp only [Act.put, List.setIfInBounds_toArray, List.set_cons_zero, List.set_cons_succ]
    refine wpAnyH_ready (rs := [3]) (by kernel_rfl) (by simp) ?_
    refine AllReadyH.cons rfl (fun K hK => ?_) AllReadyH.nil
    go_simp
    refine (src_n (w.heap.size + 1) a len cap [] 3 _ S8d (by omega) (by omega)).mono ?_
    rintro e w9 ⟨y9, rfl, l9, u9, S9, g9⟩
    have Ow9 : OwnsT w9 (w.heap.size + 1 + 1) (.slice bt n ct) T := World.ownsRow.kept O8 g9 (sep_p O8 (by omega))
    have Rw9 := g9.cell (a := ⟨w.heap.size, 0, none⟩) (show w8.drew.cell? ⟨w.heap.size, 0, none⟩ = _ from Rw8) (by simp)
    have Qw9 := (g9.frozen_far ⟨w.heap.size, 0, none⟩ (World.block_lt_of_cell? _ _ (show w8.drew.cell? ⟨w.heap.size, 0, none⟩ = _ from Rw8)) (by simp)).trans Qw8
    have cw9 := g9.cell (a := ⟨w4.heap.size, 0, none⟩) (show w8.drew.cell? ⟨w4.heap.size, 0, none⟩ = _ from cw8) (by simp; omega)
    have Bw9 : Below w.heap.size w w9 := B8.grown g9 B8.size (fun k hk => by injection hk with hk; omega)
    skip
    clear g9 S8 S8d Ow8 O8 B8 Rw8 Qw8 cw8 Bw8 hHeld
    go_wp2_with fail
    refine hK.out _ _ cw9 (fun hHeld => ?_)
    clear hK K
    try simp only [Act.put, List.setIfInBounds_toArray, List.set_cons_zero, List.set_cons_succ]
    refine wpAnyH_ready (rs := [5]) (by kernel_rfl) (by simp) ?_
    refine AllReadyH.cons rfl (fun K hK => ?_) AllReadyH.nil
    go_simp
    refine (src_n (w.heap.size + 1) a len cap [] 3 _ S9 (by omega) (by omega)).mono ?_
    rintro e wa ⟨za, rfl, la, ua, Sa, ga⟩
    have Owa : OwnsT wa (w.heap.size + 1 + 1) (.slice bt n ct) T := World.ownsRow.kept Ow9 ga (sep_p Ow9 (by omega))
    have Rwa := ga.cell (a := ⟨w.heap.size, 0, none⟩) Rw9 (by simp)
    have Qwa := (ga.frozen_far ⟨w.heap.size, 0, none⟩ (World.block_lt_of_cell? _ _ Rw9) (by simp)).trans Qw9
    have cwa := ga.cell (a := ⟨w4.heap.size, 0, none⟩) cw9 (by simp; omega)
    have Bwa : Below w.heap.size w wa := Bw9.grown ga Bw9.size (fun k hk => by injection hk with hk; omega)
    clear ga S9 Sa Ow9 Rw9 Qw9 cw9 Bw9 hHeld
    go_wp2_with fail
    refine hK.out _ _ cwa (fun hHeld => ?_)
    clear hK K
    try simp only [Act.put, List.setIfInBounds_toArray, List.set_cons_zero, List.set_cons_succ]
    refine wpAnyH_ready (rs := [6]) (by kernel_rfl) (by simp) ?_
    refine AllReadyH.cons rfl (fun K hK => ?_) AllReadyH.nil
    go_simp
    have c8 : (wa.setCell ⟨w.heap.size, 0, none⟩ (.slice bt n ct)).cell? ⟨w4.heap.size, 0, none⟩ = some (.slice bt n ct) := by rw [World.cell?_setCell_other _ _ _ _ (by intro e; injection e with e; omega)]; exact cwa
    refine hK.out _ _ c8 (fun hHeld => ?_)
    clear hK K c8
    try simp only [Act.put, List.setIfInBounds_toArray, List.set_cons_zero, List.set_cons_succ]
    refine wpAnyH_take (i := 7) (v := ?v13) rfl (by kernel_rfl) (by kernel_rfl) (by kernel_rfl) (fun _ _ _ h => h) (Or.inl ⟨by rfl, ?y13⟩) hHeld ?z13
    case y13 => (intro wq hSw; (try dsimp only at hSw); go_simp; try with_reducible rfl)
    try simp only [Act.put, List.setIfInBounds_toArray, List.set_cons_zero, List.set_cons_succ]
    refine wpAnyH_take (i := 8) (v := ?v14) rfl (by kernel_rfl) (by kernel_rfl) (by kernel_rfl) (fun _ _ _ h => h) (Or.inl ⟨by rfl, ?y14⟩) hHeld ?z14
    case y14 => (intro wq hSw; (try dsimp only at hSw); go_simp; try with_reducible rfl)
    try simp only [Act.put, List.setIfInBounds_toArray, List.set_cons_zero, List.set_cons_succ]
    refine wpAnyH_take (i := 9) (v := ?v15) rfl (by kernel_rfl) (by kernel_rfl) (by kernel_rfl) (fun _ _ _ h => h) (Or.inl ⟨by rfl, ?y15⟩) hHeld ?z15
    case y15 => (intro wq hSw; (try dsimp only at hSw); go_simp; try with_reducible rfl)
    try simp only [Act.put, List.setIfInBounds_toArray, List.set_cons_zero, List.set_cons_succ]
    try simp only [Act.put, List.getElem_toArray, List.getElem_cons_succ, List.getElem_cons_zero, List.setIfInBounds_toArray, List.set_cons_zero, List.set_cons_succ]
    refine wpAnyH_done (by kernel_rfl) ?_ _
    refine NoPanic.normal ?_
    have t8 : (wa.setCell ⟨w.heap.size, 0, none⟩ (.slice bt n ct)).cell? ⟨w.heap.size, 0, none⟩ = some (.slice bt n ct) := World.cell?_setCell_same _ _ _ Rwa
    have HE : Hid (Draw4P w (.returned (.tuple #[.agg #[.slice bt n ct], .int .i64 x7, .int .i64 y9, .int .i64 za])) (wa.setCell ⟨w.heap.size, 0, none⟩ (.slice bt n ct))) := ⟨.slice bt n ct, T, _, _, _, rfl, drawn_own Owa (by omega), l4, ok4, Bwa.setCell (Nat.le_refl _) _⟩
    clear hHeld
    go_wp2
    exact bodyPost_ret (v := .tuple #[.agg #[.slice bt n ct], .int .i64 x7, .int .i64 y9, .int .i64 za]) (by simp [results, Try.results16, go_sem, t8]) rfl HE.out
end Go.Proofs.Ytcelbkmnbjcjhaa
