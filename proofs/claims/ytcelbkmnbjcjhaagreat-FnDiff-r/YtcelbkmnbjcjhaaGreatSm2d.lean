/- The model's drawing of a table. -/
import Derived.Test.YtcelbkmnbjcjhaaGreatMoPd
namespace Go.Proofs.YtcelbkmnbjcjhaaGreat
open Go.RowKit
theorem ok_add {T : List TurnD} {x : TurnD} (h : ∀ t ∈ T, t.ok) (hx : x.ok) : ∀ t ∈ T ++ [x], t.ok := fun t ht => by
 rcases List.mem_append.1 ht with h1 | h1
 ·
  exact h t h1
 ·
  rw [List.mem_singleton] at h1; subst h1; exact hx
theorem SmAt.ne_own {p : Nat} {a : Option Addr} {len cap : Nat} {zs : List Int} {w W : World} {N n : Nat} {bt : Option Addr} {ct : Nat} {T : List TurnD} (h : SmAt p a len cap zs w N (.slice bt n ct) T W) : some (w.heap.size + 1) ≠ (Value.slice bt n ct).ownBlock := fun e => by
 have := (World.ownsRow.lt h.own (w.heap.size + 1) e.symm).1
 omega
theorem SmAt.ownN {p : Nat} {a : Option Addr} {len cap : Nat} {zs : List Int} {w W : World} {N n : Nat} {tv : Value} {T : List TurnD} (h : SmAt p a len cap zs w N tv T W) (hn : T.length = n) : W.ownsRow (w.heap.size + 1 + 1) 38 4 tv n (T.map TurnD.cs).flatten := by
 have := h.own
 unfold OwnsT at this
 rw [hn] at this
 exact this
/-- a cell of a turn is written. -/
theorem SmAt.put {p : Nat} {a : Option Addr} {len cap : Nat} {zs : List Int} {w W : World} {N n g ct : Nat} {T T' : List TurnD} (h : SmAt p a len cap zs w N (.slice (some ⟨g, 0, none⟩) n ct) T W) (hp : p < w.heap.size) (hn : T.length = n) (j : Nat) (u : Value) (hT : (T'.map TurnD.cs).flatten = (T.map TurnD.cs).flatten.set j u) (hl : T'.length = n) (hok : ∀ t ∈ T', t.ok) :
  SmAt p a len cap zs w N (.slice (some ⟨g, 0, none⟩) n ct) T' (W.setCell ⟨g, j, none⟩ u) := by
 obtain ⟨o1, hg⟩ := World.ownsRow.stored (h.ownN hn) j u
 have hge := (World.ownsRow.lt h.own g rfl).1
 have hs := h.size
 refine ⟨h.src.fr (Fr.of_grown hg) (fun b hb e => by injection e with e; omega), ?_, hg.cell h.c (by simp; omega), by rw [World.frozen?_setCell]; exact h.f, hg.cell h.rc (by simp; omega), by rw [World.frozen?_setCell]; exact h.rf, ?_, by rw [hl, ← hn]; exact h.len, hok⟩
 ·
  refine ⟨hg.os.trans h.grow.os, hg.tape.trans h.grow.tape, hg.output.trans h.grow.output, Nat.le_trans h.grow.size hg.size, fun k hk hne => ?_⟩
  rw [hg.block k (by omega) (by simp; omega)]
  exact h.grow.block k hk hne
 ·
  unfold OwnsT; rw [hT, hl]; exact o1
theorem SmAt.app0 {p : Nat} {a : Option Addr} {len cap : Nat} {zs : List Int} {w W W1 : World} {N : Nat} {tv tv' : Value} {T T' : List TurnD} {N' : Nat} (h : SmAt p a len cap zs w N tv T W) (hp : p < w.heap.size) (hg : W.grownBy W1 tv.ownBlock) (own : OwnsT W1 (w.heap.size + 1 + 1) tv' T') (hl : T'.length ≤ N') (hok : ∀ t ∈ T', t.ok) :
  SmAt p a len cap zs w N' tv' T' (W1.setCell ⟨w.heap.size + 1, 0, none⟩ tv') :=
 h.store hp (Fr.of_grown hg) (fun b _ hb => (World.ownsRow.lt h.own b hb).1) own hl hok
theorem OwnsT.dbl {w : World} {base n : Nat} {v : Value} {T : List TurnD} (hn : T.length = n) (h : w.ownsRow base 38 4 v (n + n) ((T.map TurnD.cs).flatten ++ (T.map TurnD.cs).flatten)) : OwnsT w base v (T ++ T) := by
 unfold OwnsT
 rw [List.length_append, hn, List.map_append, List.flatten_append]
 exact h
theorem own_cells {w : World} {base g n cap : Nat} {e : TypeId} {q : Nat} {xs : List Value} (h : w.ownsRow base e q (.slice (some ⟨g, 0, none⟩) n cap) n xs) : ∀ j u, xs[j]? = some u → w.cell? ((⟨g, 0, none⟩ : Addr).add j) = some u := fun j u hu => by
 rw [addP, Nat.zero_add, h.cellAt j (by have := (List.getElem?_eq_some_iff.1 hu).1; have := h.1; omega)]
 exact hu
theorem turns_one {T : List TurnD} : ∀ u ∈ (T.map TurnD.cs).flatten, u.oneCell' = true := fun u hu => by
 simp only [List.mem_flatten, List.mem_map] at hu
 obtain ⟨l, ⟨t, _, rfl⟩, hl⟩ := hu
 simp [TurnD.cs] at hl
 rcases hl with rfl | rfl | rfl | rfl <;> rfl
theorem SmAt.some {p : Nat} {a : Option Addr} {len cap : Nat} {zs : List Int} {w W : World} {N n ct : Nat} {bt : Option Addr} {T : List TurnD} (h : SmAt p a len cap zs w N (.slice bt n ct) T W) (hn : T.length = n) (h0 : 0 < n) : ∃ g t T0, bt = Option.some ⟨g, 0, none⟩ ∧ T = t :: T0 ∧ ∀ j x, t.cs[j]? = Option.some x → W.cell? ⟨g, j, none⟩ = Option.some x ∧ W.frozen? ⟨g, j, none⟩ = false := by
 have ho := h.ownN hn
 cases T with
 | nil => simp at hn; omega
 | cons t T0 =>
  rcases ho.2 with ⟨_, h1⟩ | ⟨g, cap', cur, h1, _⟩
  ·
   omega
  ·
   injection h1 with h1 h2 h3
   subst h1
   refine ⟨g, t, T0, rfl, rfl, fun j x hx => ?_⟩
   have hj : j < 4 := by have := (List.getElem?_eq_some_iff.1 hx).1; exact this
   refine ⟨?_, ho.frozenAt j⟩
   rw [ho.cellAt j (by omega)]
   simp only [List.map_cons, List.flatten_cons]
   rw [List.getElem?_append_left (by exact (List.getElem?_eq_some_iff.1 hx).1)]
   exact hx
theorem spec_l01MaxS (a b : Int) (w : World) : Calls Tryz.prog 32 #[.int .i64 a, .int .i64 b] w fun e w' => e = .returned (.int .i64 (max a b)) ∧ w' = w := by
 by_cases h : b < a
 ·
  go_enter Tryz.func32, Tryz.ntmps32
  go_wp2
  go_ret
  exact ⟨ret_int (by omega), rfl⟩
 ·
  go_enter Tryz.func32, Tryz.ntmps32
  go_wp2
  go_ret
  exact ⟨ret_int (by omega), rfl⟩
set_option linter.unusedSimpArgs false in
set_option maxRecDepth 20000 in
set_option maxHeartbeats 8000000 in
theorem src_some {Rok : World → Value → Prop} (hC : SomeC Rok) (p : Nat) (a : Option Addr) (len cap : Nat) (zs : List Int) (w : World) (hS : SrcAt p a len cap zs w) :
  Calls Tryz.prog 34 #[.pointer (some ⟨p, 0, none⟩)] w (SomeP p a len cap zs w) := by
 obtain ⟨i0, hi, hz0, hz1, hz2⟩ := infoTurn
 have S0 := (hS.alloc (.cells #[.slice none 0 0] 25)).alloc (.cells #[.slice none 0 0] 25)
 have A0 : SmAt p a len cap zs w 0 (.slice none 0 0) [] ((w.alloc (.cells #[.slice none 0 0] 25)).alloc (.cells #[.slice none 0 0] 25)) :=
  ⟨S0, (World.grownBy_alloc w _ _).trans (World.grownBy_alloc _ _ _), by simp [go_sem], by simp [go_sem], by simp [go_sem], by simp [go_sem], World.ownsRow_nil _ _ _ _, by simp, by simp⟩
 have hp := hS.lt
 clear hS
 go_enter Tryz.func34, Tryz.ntmps34
 go_wp2_with fail
 refine (src_one p a len cap zs 2 _ S0 (by omega) (by omega)).mono ?_
 rintro e w1 ⟨v1, rfl, S1, g1⟩
 have A1 := A0.drawn hp S1 g1
 clear A0 S0 S1 g1
 cases v1 with
 | true =>
  go_wp2_with fail
  refine (src_text p a len cap zs _ A1.src).mono ?_
  rintro e w2 ⟨s2, rfl, z2, S2, g2⟩
  have A2 := A1.drawn hp S2 g2
  clear A1 S2 g2
  go_wp2_with fail
  refine (hC.read s2 _ (by omega)).mono ?_
  rintro e w3 ⟨rv, zv, lv, ln, cd, rfl, b3, ok3⟩
  have A3 := A2.below b3
  have hf1 : ∀ w : World, (Instr.field 92 (.agg #[rv, zv, lv, .int .i64 ln, .int .i64 cd]) 0).run Tryz.prog w = .ok (.agg #[rv, zv, lv]) w := fun _ => by kernel_rfl
  clear A2 b3
  go_wp2_with fail
  refine (hC.tab _ _ ok3).mono ?_
  rintro e w4 ⟨tv, T, cd2, rfl, own4, len4, tok4, b4⟩
  have hf2 : ∀ w : World, (Instr.field 84 (.agg #[tv, .int .i64 cd2]) 0).run Tryz.prog w = .ok (.agg #[tv]) w := fun _ => by kernel_rfl
  have A4a := A3.below b4
  have A4 := A4a.store hp (Fr.refl (fun _ => False) w4) (fun _ _ h => h.elim) (owns_mono own4 A3.size) len4 tok4
  have c4 := A4a.c
  have f4 := A4a.f
  clear A4a A3 own4 len4 tok4 b4 hf1 ok3
  obtain ⟨bt, ct, rfl⟩ := A4.slice
  go_wp2_with fail
  refine (src_one p a len cap zs 20 _ A4.src (by omega) (by omega)).mono ?_
  rintro e w5 ⟨v5, rfl, S5, g5⟩
  have A5 := A4.drawn hp S5 g5
  clear A4 S5 g5
  cases v5 with
  | false =>
   have c8 := A5.c
   have r8 := A5.rc
   have f8 := A5.f
   have q8 := A5.rf
   have hd8 := A5.done hp (by omega)
   have HD8 : Hid (SomeP p a len cap zs w (.returned (.agg #[(.slice bt T.length ct)])) (w5.setCell ⟨w.heap.size, 0, none⟩ (.slice bt T.length ct))) := hd8
   have t8 : (w5.setCell ⟨w.heap.size, 0, none⟩ (.slice bt T.length ct)).cell? ⟨w.heap.size, 0, none⟩ = some (.slice bt T.length ct) := World.cell?_setCell_same _ _ _ r8
   clear hd8 A5
   go_wp2
   exact bodyPost_ret (v := .agg #[(.slice bt T.length ct)]) (by simp [results, Tryz.results34, go_sem, t8]) rfl HD8.out
  | true =>
   go_wp2_with fail
   refine (src_n p a len cap zs 4 _ A5.src (by omega) (by omega)).mono ?_
   rintro e w6 ⟨q6, rfl, l6, u6, S6, g6⟩
   have A6 := A5.drawn hp S6 g6
   clear A5 S6 g6
   obtain ⟨n, hn⟩ : ∃ n, T.length = n := ⟨_, rfl⟩
   have HN : Hid (T.length = n) := hn
   have hlN := A6.len
   rw [hn] at hlN A6
   try rw [hn]
   clear hn
   rcases (show q6 = 0 ∨ q6 = 1 ∨ q6 = 2 ∨ q6 = 3 by omega) with rfl | rfl | rfl | rfl
   ·
    clear l6 u6
    have c6 := A6.c
    have f6 := A6.f
    go_wp2_with fail
    refine wp_region_noPanic ?_
    refine wp_region_L 7 (fun w' => w'.cell? ⟨w.heap.size + 1, 0, none⟩ = some (.slice bt n ct)) (by kernel_rfl) (by simpa using c6) (fun hHeld => ?_)
    refine wpAnyL_pure (i := 0) (v := ?v1) rfl (by kernel_rfl) (by kernel_rfl) (by kernel_rfl) (fun _ _ _ h => h) (by decide) (Or.inl ⟨by rfl, ?y1⟩) (fun _ => hHeld) ?z1
    case y1 => (intro wq _; go_simp; try with_reducible rfl)
    try simp only [Act.put, List.setIfInBounds_toArray, List.set_cons_zero, List.set_cons_succ]
    refine wpAnyL_load (i := 1) (v := ?v2) rfl (by kernel_rfl) (by kernel_rfl) (by kernel_rfl) (fun _ _ _ h => h) rfl (by kernel_rfl) (by decide) (by kernel_rfl) (Or.inl ⟨by rfl, ?y2⟩) hHeld ?z2
    case y2 => (intro wq hSw; (try dsimp only at hSw); go_simp; try with_reducible rfl)
    try simp only [Act.put, List.setIfInBounds_toArray, List.set_cons_zero, List.set_cons_succ]
    refine wpAnyL_pure (i := 2) (v := ?v3) rfl (by kernel_rfl) (by kernel_rfl) (by kernel_rfl) (fun _ _ _ h => h) (by decide) (Or.inl ⟨by rfl, ?y3⟩) (fun _ => hHeld) ?z3
    case y3 => (intro wq _; go_simp; try with_reducible rfl)
    try simp only [Act.put, List.setIfInBounds_toArray, List.set_cons_zero, List.set_cons_succ]
    refine wpAnyL_ready (rs := [3]) (by kernel_rfl) (by simp) ?_
    refine AllReadyL.cons rfl (fun K hK => ?_) AllReadyL.nil
    go_simp
    refine (src_n p a len cap zs 2 _ A6.drew.src (by omega) (by omega)).mono ?_
    rintro e w7 ⟨x7, rfl, l7, u7, S7, g7⟩
    have A7 := A6.drew.drawn hp S7 g7
    clear S7 g7 A6 c6 f6 hHeld
    have c7 := A7.c
    have q7 : IntKind.i64.wrap (100000 + x7) = 100000 + x7 := by rw [IntKind.wrap_i64]; omega
    go_wp2_with fail
    refine hK.out _ _ (fun _ => c7) (fun hHeld => ?_)
    clear hK K
    try simp only [Act.put, List.setIfInBounds_toArray, List.set_cons_zero, List.set_cons_succ]
    refine wpAnyL_pure (i := 4) (v := ?v4) rfl (by kernel_rfl) (by kernel_rfl) (by kernel_rfl) (fun _ _ _ h => h) (by decide) (Or.inl ⟨by rfl, ?y4⟩) hHeld ?z4
    case y4 => (intro wq _; go_simp; try with_reducible rfl)
    try simp only [Act.put, List.setIfInBounds_toArray, List.set_cons_zero, List.set_cons_succ]
    refine wpAnyL_pure (i := 5) (v := ?v5) rfl (by kernel_rfl) (by kernel_rfl) (by kernel_rfl) (fun _ _ _ h => h) (by decide) (Or.inl ⟨by rfl, ?y5⟩) hHeld ?z5
    case y5 => (intro wq _; go_simp; try with_reducible rfl)
    try simp only [Act.put, List.setIfInBounds_toArray, List.set_cons_zero, List.set_cons_succ]
    refine wpAnyL_ready (rs := [6]) (by kernel_rfl) (by simp) ?_
    refine AllReadyL.cons rfl (fun K hK => ?_) AllReadyL.nil
    go_simp
    refine hK.out _ _ (fun _ => keepC ((Below.refl _ w7).alloc (Nat.le_refl _) _) c7) (fun hHeld => ?_)
    clear hK K
    try simp only [Act.put, List.setIfInBounds_toArray, List.set_cons_zero, List.set_cons_succ]
    refine wpAnyL_ready (rs := [7]) (by kernel_rfl) (by simp) ?_
    refine AllReadyL.cons rfl (fun K hK => ?_) AllReadyL.nil
    refine step_append_lies _ (by rfl) (.tmp 57) (.tmp 62) 23 (by rfl) (w.heap.size + 1 + 1) 38 i0 (.agg #[.int .i64 0, .int .i64 0, .int .i64 0, .string ⟨#[]⟩]) 4 40 Tryz.underlying23 hi hz0 hz1 hz2 rfl (by omega) (.slice bt n ct) n (T.map TurnD.cs).flatten (by rfl) (World.ownsRow.alloc (w := w7) (A7.ownN HN.out) _) ⟨w7.heap.size, 0, none⟩ 1 1 [.int .i64 253402300799, .int .i64 (100000 + x7), .int .i64 0, .string ⟨#[]⟩] (by rfl) rfl (cells_new _ _ _) (by intro u hu; simp at hu; rcases hu with rfl | rfl | rfl | rfl <;> rfl) (by omega) (by unfold maxLen; omega) (by omega) (by have := A7.size; simp; omega) _ rfl ?_
    intro g9 cap9 w9 hown9 hgrow9 hat9 hlt9
    have A9 := A7.app hp hgrow9 (OwnsT.add (x := ⟨253402300799, 100000 + x7, 0, ⟨#[]⟩⟩) (by rw [HN.out]; simpa [TurnD.cs] using hown9)) (N' := 601) (by rw [List.length_append, HN.out]; simp; omega) (ok_add A7.ok (by show (0 : Nat) ≤ maxLen; omega))
    have c9 := hgrow9.cell (a := ⟨w.heap.size + 1, 0, none⟩) (keepC ((Below.refl _ w7).alloc (Nat.le_refl _) _) c7) A7.ne_own
    have f9 : w9.frozen? ⟨w.heap.size + 1, 0, none⟩ = false := by have := A9.f; rw [World.frozen?_setCell] at this; exact this
    refine hK.out _ _ (fun h0 => by cases h0) (fun hHeld => ?_)
    clear hK K hown9 hgrow9 hat9 hlt9 A7 c7
    try simp only [Act.put, List.setIfInBounds_toArray, List.set_cons_zero, List.set_cons_succ]
    refine wpAnyL_pure (i := 8) (v := ?v6) rfl (by kernel_rfl) (by kernel_rfl) (by kernel_rfl) (fun _ _ _ h => h) (by decide) (Or.inl ⟨by rfl, ?y6⟩) hHeld ?z6
    case y6 => (intro wq _; go_simp; try with_reducible rfl)
    try simp only [Act.put, List.setIfInBounds_toArray, List.set_cons_zero, List.set_cons_succ]
    refine wpAnyL_ready (rs := [9]) (by kernel_rfl) (by simp) ?_
    refine AllReadyL.cons rfl (fun K hK => ?_) AllReadyL.nil
    go_simp
    refine hK.out _ _ (fun h0 => by cases h0) (fun hHeld => ?_)
    clear hK K
    try simp only [Act.put, List.setIfInBounds_toArray, List.set_cons_zero, List.set_cons_succ]
    refine wpAnyL_done (by kernel_rfl) ?_ _
    refine NoPanic.normal ?_
    have c8 := A9.c
    have r8 := A9.rc
    have f8 := A9.f
    have q8 := A9.rf
    have hd8 := A9.done hp (by omega)
    have HD8 : Hid (SomeP p a len cap zs w (.returned (.agg #[(.slice (some ⟨g9, 0, none⟩) (n + 1) cap9)])) ((w9.setCell ⟨w.heap.size + 1, 0, none⟩ (.slice (some ⟨g9, 0, none⟩) (n + 1) cap9)).setCell ⟨w.heap.size, 0, none⟩ (.slice (some ⟨g9, 0, none⟩) (n + 1) cap9))) := hd8
    have t8 : ((w9.setCell ⟨w.heap.size + 1, 0, none⟩ (.slice (some ⟨g9, 0, none⟩) (n + 1) cap9)).setCell ⟨w.heap.size, 0, none⟩ (.slice (some ⟨g9, 0, none⟩) (n + 1) cap9)).cell? ⟨w.heap.size, 0, none⟩ = some (.slice (some ⟨g9, 0, none⟩) (n + 1) cap9) := World.cell?_setCell_same _ _ _ r8
    clear hd8 A9
    go_wp2
    exact bodyPost_ret (v := .agg #[(.slice (some ⟨g9, 0, none⟩) (n + 1) cap9)]) (by simp [results, Tryz.results34, go_sem, t8]) rfl HD8.out
   ·
    clear l6 u6
    by_cases h0 : n = 0
    ·
     have h0' : ¬ (0 : Int) < (n : Int) := by omega
     have c6 := A6.c
     clear h0
     have c8 := A6.c
     have r8 := A6.rc
     have f8 := A6.f
     have q8 := A6.rf
     have hd8 := A6.done hp (by omega)
     have HD8 : Hid (SomeP p a len cap zs w (.returned (.agg #[(.slice bt n ct)])) (w6.setCell ⟨w.heap.size, 0, none⟩ (.slice bt n ct))) := hd8
     have t8 : (w6.setCell ⟨w.heap.size, 0, none⟩ (.slice bt n ct)).cell? ⟨w.heap.size, 0, none⟩ = some (.slice bt n ct) := World.cell?_setCell_same _ _ _ r8
     clear hd8 A6
     go_wp2
     exact bodyPost_ret (v := .agg #[(.slice bt n ct)]) (by simp [results, Tryz.results34, go_sem, t8]) rfl HD8.out
    ·
     have h0' : (0 : Int) < (n : Int) := by omega
     obtain ⟨g, t, T0, rfl, rfl, hc⟩ := A6.some HN.out (by omega)
     have c6 := A6.c
     have f6 := A6.f
     obtain ⟨k0, z0⟩ := hc 0 _ rfl
     have A7 := A6.put hp HN.out 0 (.int .i64 0) (T' := ⟨0, t.offset, t.save, t.abbr⟩ :: T0) (by simp [TurnD.cs]) (by have := HN.out; simpa using this) (fun x hx => by rcases List.mem_cons.1 hx with rfl | hx; exact A6.ok t (by simp); exact A6.ok x (by simp [hx]))
     clear hc A6 h0
     have c8 := A7.c
     have r8 := A7.rc
     have f8 := A7.f
     have q8 := A7.rf
     have hd8 := A7.done hp (by omega)
     have HD8 : Hid (SomeP p a len cap zs w (.returned (.agg #[(.slice (some ⟨g, 0, none⟩) n ct)])) ((w6.setCell ⟨g, 0, none⟩ (.int .i64 0)).setCell ⟨w.heap.size, 0, none⟩ (.slice (some ⟨g, 0, none⟩) n ct))) := hd8
     have t8 : ((w6.setCell ⟨g, 0, none⟩ (.int .i64 0)).setCell ⟨w.heap.size, 0, none⟩ (.slice (some ⟨g, 0, none⟩) n ct)).cell? ⟨w.heap.size, 0, none⟩ = some (.slice (some ⟨g, 0, none⟩) n ct) := World.cell?_setCell_same _ _ _ r8
     clear hd8 A7
     go_wp2
     exact bodyPost_ret (v := .agg #[(.slice (some ⟨g, 0, none⟩) n ct)]) (by simp [results, Tryz.results34, go_sem, t8]) rfl HD8.out
   ·
    clear l6 u6
    by_cases h0 : n = 0
    ·
     have h0' : ¬ (0 : Int) < (n : Int) := by omega
     have c6 := A6.c
     clear h0
     have c8 := A6.c
     have r8 := A6.rc
     have f8 := A6.f
     have q8 := A6.rf
     have hd8 := A6.done hp (by omega)
     have HD8 : Hid (SomeP p a len cap zs w (.returned (.agg #[(.slice bt n ct)])) (w6.setCell ⟨w.heap.size, 0, none⟩ (.slice bt n ct))) := hd8
     have t8 : (w6.setCell ⟨w.heap.size, 0, none⟩ (.slice bt n ct)).cell? ⟨w.heap.size, 0, none⟩ = some (.slice bt n ct) := World.cell?_setCell_same _ _ _ r8
     clear hd8 A6
     go_wp2
     exact bodyPost_ret (v := .agg #[(.slice bt n ct)]) (by simp [results, Tryz.results34, go_sem, t8]) rfl HD8.out
    ·
     have h0' : (0 : Int) < (n : Int) := by omega
     obtain ⟨g, t, T0, rfl, rfl, hc⟩ := A6.some HN.out (by omega)
     have c6 := A6.c
     have f6 := A6.f
     clear hc
     go_wp2_with fail
     refine wp_region_noPanic ?_
     refine wp_region_held_drew (S := fun w' => w'.cell? ⟨w.heap.size + 1, 0, none⟩ = some (.slice (some ⟨g, 0, none⟩) n ct)) (by kernel_rfl) (by simpa using c6) (fun hHeld => ?_)
     refine wpAnyH_take (i := 0) (v := ?v7) rfl (by kernel_rfl) (by kernel_rfl) (by kernel_rfl) (fun _ _ _ h => h) (Or.inl ⟨by rfl, ?y7⟩) hHeld ?z7
     case y7 => (intro wq hSw; (try dsimp only at hSw); go_simp; try with_reducible rfl)
     try simp only [Act.put, List.setIfInBounds_toArray, List.set_cons_zero, List.set_cons_succ]
     refine wpAnyH_take (i := 1) (v := ?v8) rfl (by kernel_rfl) (by kernel_rfl) (by kernel_rfl) (fun _ _ _ h => h) (Or.inl ⟨by rfl, ?y8⟩) hHeld ?z8
     case y8 => (intro wq hSw; (try dsimp only at hSw); go_simp; try with_reducible rfl)
     try simp only [Act.put, List.setIfInBounds_toArray, List.set_cons_zero, List.set_cons_succ]
     refine wpAnyH_take (i := 2) (v := ?v9) rfl (by kernel_rfl) (by kernel_rfl) (by kernel_rfl) (fun _ _ _ h => h) (Or.inl ⟨by rfl, ?y9⟩) hHeld ?z9
     case y9 => (intro wq hSw; (try dsimp only at hSw); go_simp; try with_reducible rfl)
     try simp only [Act.put, List.setIfInBounds_toArray, List.set_cons_zero, List.set_cons_succ]
     refine wpAnyH_ready (rs := [3]) (by kernel_rfl) (by simp) ?_
     refine AllReadyH.cons rfl (fun K hK => ?_) AllReadyH.nil
     go_simp
     refine (src_n p a len cap zs 2 _ A6.drew.src (by omega) (by omega)).mono ?_
     rintro e w7 ⟨x7, rfl, l7, u7, S7, g7⟩
     have A7 := A6.drew.drawn hp S7 g7
     clear S7 g7 A6 c6 f6 hHeld
     obtain ⟨g2, t2, T2, e1, e2, hc⟩ := A7.some HN.out (by omega)
     injection e1 with e1
     injection e1 with e1
     injection e2 with e2 e3
     subst e1 e2 e3
     obtain ⟨k2, z2⟩ := hc 2 _ rfl
     clear hc
     have c7 := A7.c
     have q7 : IntKind.i64.wrap (7200 + x7) = 7200 + x7 := by rw [IntKind.wrap_i64]; omega
     have A8 := A7.put hp HN.out 2 (.int .i64 (7200 + x7)) (T' := ⟨t.at_, t.offset, 7200 + x7, t.abbr⟩ :: T0) (by simp [TurnD.cs]) (by have := HN.out; simpa using this) (fun x hx => by rcases List.mem_cons.1 hx with rfl | hx; exact A7.ok t (by simp); exact A7.ok x (by simp [hx]))
     go_wp2_with fail
     refine hK.out _ _ c7 (fun hHeld => ?_)
     clear hK K A7
     try simp only [Act.put, List.setIfInBounds_toArray, List.set_cons_zero, List.set_cons_succ]
     refine wpAnyH_take (i := 4) (v := ?v10) rfl (by kernel_rfl) (by kernel_rfl) (by kernel_rfl) (fun _ _ _ h => h) (Or.inl ⟨by rfl, ?y10⟩) hHeld ?z10
     case y10 => (intro wq hSw; (try dsimp only at hSw); go_simp; try with_reducible rfl)
     try simp only [Act.put, List.setIfInBounds_toArray, List.set_cons_zero, List.set_cons_succ]
     refine wpAnyH_take (i := 5) (v := ?v11) rfl (by kernel_rfl) (by kernel_rfl) (by kernel_rfl) (fun _ _ _ h => h) (Or.inl ⟨by rfl, ?y11⟩) hHeld ?z11
     case y11 => (intro wq hSw; (try dsimp only at hSw); go_simp; try with_reducible rfl)
     try simp only [Act.put, List.setIfInBounds_toArray, List.set_cons_zero, List.set_cons_succ]
     refine wpAnyH_take (i := 6) (v := ?v12) rfl (by kernel_rfl) (by kernel_rfl) (by kernel_rfl) (fun _ _ _ h => h) (Or.inl ⟨by rfl, ?y12⟩) hHeld ?z12
     case y12 => (intro wq hSw; (try dsimp only at hSw); go_simp; try with_reducible rfl)
     try simp only [Act.put, List.setIfInBounds_toArray, List.set_cons_zero, List.set_cons_succ]
     refine wpAnyH_ready (rs := [7]) (by kernel_rfl) (by simp) ?_
     refine AllReadyH.cons rfl (fun K hK => ?_) AllReadyH.nil
     go_simp
     refine hK.out _ _ A8.c (fun hHeld => ?_)
     clear hK K
     try simp only [Act.put, List.setIfInBounds_toArray, List.set_cons_zero, List.set_cons_succ]
     refine wpAnyH_done (by kernel_rfl) ?_ _
     refine NoPanic.normal ?_
     have c8 := A8.c
     have r8 := A8.rc
     have f8 := A8.f
     have q8 := A8.rf
     have hd8 := A8.done hp (by omega)
     have HD8 : Hid (SomeP p a len cap zs w (.returned (.agg #[(.slice (some ⟨g, 0, none⟩) n ct)])) ((w7.setCell ⟨g, 2, none⟩ (.int .i64 (7200 + x7))).setCell ⟨w.heap.size, 0, none⟩ (.slice (some ⟨g, 0, none⟩) n ct))) := hd8
     have t8 : ((w7.setCell ⟨g, 2, none⟩ (.int .i64 (7200 + x7))).setCell ⟨w.heap.size, 0, none⟩ (.slice (some ⟨g, 0, none⟩) n ct)).cell? ⟨w.heap.size, 0, none⟩ = some (.slice (some ⟨g, 0, none⟩) n ct) := World.cell?_setCell_same _ _ _ r8
     clear hd8 A8
     go_wp2
     exact bodyPost_ret (v := .agg #[(.slice (some ⟨g, 0, none⟩) n ct)]) (by simp [results, Tryz.results34, go_sem, t8]) rfl HD8.out
   ·
    clear l6 u6
    by_cases h0 : n = 0
    ·
     subst h0
     obtain rfl : T = [] := List.eq_nil_of_length_eq_zero HN.out
     have c6 := A6.c
     have f6 := A6.f
     rcases (A6.ownN (n := 0) rfl).2 with ⟨hv, _⟩ | ⟨g, cp, cur, hv, _⟩
     ·
      injection hv with hv1 _ hv3
      subst hv1 hv3
      have A9 := A6.store hp (Fr.refl (fun _ => False) w6) (fun _ _ h => h.elim) (tv' := .slice none 0 0) (T' := []) (N' := 0) (World.ownsRow_nil _ _ _ _) (by simp) (by simp)
      clear A6
      have c8 := A9.c
      have r8 := A9.rc
      have f8 := A9.f
      have q8 := A9.rf
      have hd8 := A9.done hp (by omega)
      have HD8 : Hid (SomeP p a len cap zs w (.returned (.agg #[(.slice none 0 0)])) ((w6.setCell ⟨w.heap.size + 1, 0, none⟩ (.slice none 0 0)).setCell ⟨w.heap.size, 0, none⟩ (.slice none 0 0))) := hd8
      have t8 : ((w6.setCell ⟨w.heap.size + 1, 0, none⟩ (.slice none 0 0)).setCell ⟨w.heap.size, 0, none⟩ (.slice none 0 0)).cell? ⟨w.heap.size, 0, none⟩ = some (.slice none 0 0) := World.cell?_setCell_same _ _ _ r8
      clear hd8 A9
      go_wp2
      exact bodyPost_ret (v := .agg #[(.slice none 0 0)]) (by simp [results, Tryz.results34, go_sem, t8]) rfl HD8.out
     ·
      injection hv with hv1 _ hv3
      subst hv1 hv3
      go_wp2_with (first | (at_builtin; refine wpList_append_own _ rfl _ _ 23 rfl (w.heap.size + 1 + 1) 38 i0 (.agg #[.int .i64 0, .int .i64 0, .int .i64 0, .string ⟨#[]⟩]) 4 40 Tryz.underlying23 hi hz0 hz1 hz2 rfl (by omega) (.slice (some ⟨g, 0, none⟩) 0 ct) 0 [] rfl (A6.ownN (n := 0) rfl) ⟨g, 0, none⟩ 0 ct [] rfl rfl (fun j u hu => by simp at hu) (by simp) (by unfold maxLen; omega) (by omega) (by have := A6.size; omega) ?_) | fail)
      intro v9 w9 hown9 hgrow9 _
      have hown9' : OwnsT w9 (w.heap.size + 1 + 1) v9 [] := hown9
      have A9 := A6.app0 hp hgrow9 hown9' (N' := 0) (by simp) (by simp)
      have c9 := hgrow9.cell (a := ⟨w.heap.size + 1, 0, none⟩) c6 A6.ne_own
      have f9 : w9.frozen? ⟨w.heap.size + 1, 0, none⟩ = false := by have := A9.f; rw [World.frozen?_setCell] at this; exact this
      obtain ⟨b9, d9, e9⟩ : ∃ b c, v9 = .slice b 0 c := A9.slice
      subst e9
      clear hown9 hown9' hgrow9 A6 c6 f6
      have c8 := A9.c
      have r8 := A9.rc
      have f8 := A9.f
      have q8 := A9.rf
      have hd8 := A9.done hp (by omega)
      have HD8 : Hid (SomeP p a len cap zs w (.returned (.agg #[(.slice b9 0 d9)])) ((w9.setCell ⟨w.heap.size + 1, 0, none⟩ (.slice b9 0 d9)).setCell ⟨w.heap.size, 0, none⟩ (.slice b9 0 d9))) := hd8
      have t8 : ((w9.setCell ⟨w.heap.size + 1, 0, none⟩ (.slice b9 0 d9)).setCell ⟨w.heap.size, 0, none⟩ (.slice b9 0 d9)).cell? ⟨w.heap.size, 0, none⟩ = some (.slice b9 0 d9) := World.cell?_setCell_same _ _ _ r8
      clear hd8 A9
      go_wp2
      exact bodyPost_ret (v := .agg #[(.slice b9 0 d9)]) (by simp [results, Tryz.results34, go_sem, t8]) rfl HD8.out
    ·
     obtain ⟨g, t, T0, rfl, rfl, hc⟩ := A6.some HN.out (by omega)
     have c6 := A6.c
     have f6 := A6.f
     clear hc
     go_wp2_with (first | (at_builtin; refine wpList_append_lies _ rfl _ _ 23 rfl (w.heap.size + 1 + 1) 38 i0 (.agg #[.int .i64 0, .int .i64 0, .int .i64 0, .string ⟨#[]⟩]) 4 40 Tryz.underlying23 hi hz0 hz1 hz2 rfl (by omega) (.slice (some ⟨g, 0, none⟩) n ct) n ((t :: T0).map TurnD.cs).flatten rfl (A6.ownN HN.out) ⟨g, 0, none⟩ n ct ((t :: T0).map TurnD.cs).flatten rfl (A6.ownN HN.out).1 (own_cells (A6.ownN HN.out)) turns_one (by omega) (by unfold maxLen; omega) (by omega) (by have := A6.size; omega) _ rfl ?_) | fail)
     intro g9 cap9 w9 hown9 hgrow9 hat9 hlt9
     have A9 := A6.app0 hp hgrow9 (OwnsT.dbl HN.out hown9) (N' := 1200) (by rw [List.length_append, HN.out]; omega) (fun x hx => by rcases List.mem_append.1 hx with h | h <;> exact A6.ok x h)
     have c9 := hgrow9.cell (a := ⟨w.heap.size + 1, 0, none⟩) c6 A6.ne_own
     have f9 : w9.frozen? ⟨w.heap.size + 1, 0, none⟩ = false := by have := A9.f; rw [World.frozen?_setCell] at this; exact this
     clear hown9 hgrow9 hat9 hlt9 A6 c6 f6
     have c8 := A9.c
     have r8 := A9.rc
     have f8 := A9.f
     have q8 := A9.rf
     have hd8 := A9.done hp (by omega)
     have HD8 : Hid (SomeP p a len cap zs w (.returned (.agg #[(.slice (some ⟨g9, 0, none⟩) (n + n) cap9)])) ((w9.setCell ⟨w.heap.size + 1, 0, none⟩ (.slice (some ⟨g9, 0, none⟩) (n + n) cap9)).setCell ⟨w.heap.size, 0, none⟩ (.slice (some ⟨g9, 0, none⟩) (n + n) cap9))) := hd8
     have t8 : ((w9.setCell ⟨w.heap.size + 1, 0, none⟩ (.slice (some ⟨g9, 0, none⟩) (n + n) cap9)).setCell ⟨w.heap.size, 0, none⟩ (.slice (some ⟨g9, 0, none⟩) (n + n) cap9)).cell? ⟨w.heap.size, 0, none⟩ = some (.slice (some ⟨g9, 0, none⟩) (n + n) cap9) := World.cell?_setCell_same _ _ _ r8
     clear hd8 A9
     go_wp2
     exact bodyPost_ret (v := .agg #[(.slice (some ⟨g9, 0, none⟩) (n + n) cap9)]) (by simp [results, Tryz.results34, go_sem, t8]) rfl HD8.out
 | false =>
  go_wp2_with fail
  refine (src_n p a len cap zs 8 _ A1.src (by omega) (by omega)).mono ?_
  rintro e w2 ⟨k2, rfl, l2, u2, S2, g2⟩
  have A2 := A1.drawn hp S2 g2
  clear A1 S2 g2
  go_wp2
  go_loopw [4, 5] (fun s4 s5 wr => ∃ (at_ : Int) (k : Int) (tv : Value) (T : List TurnD), s4 = .int .i64 at_ ∧ s5 = .int .i64 k ∧ -1 ≤ k ∧ k ≤ 7 ∧ SmAt p a len cap zs w 8 tv T wr ∧ (T.length : Int) + k ≤ 7) (fun _ s5 _ => (intOf s5 + 1).toNat)
  case atStart => exact ⟨_, k2, _, [], rfl, rfl, by omega, by omega, ⟨A2.src, A2.grow, A2.c, A2.f, A2.rc, A2.rf, A2.own, by simp, by simp⟩, by simp; omega⟩
  case round =>
   obtain ⟨wa, hwa⟩ : ∃ x : World, x = wr := ⟨_, rfl⟩
   subst hwa
   clear A2
   obtain ⟨at_, k, tv, T, rfl, rfl, hk1, hk2, A3, hl3⟩ := hrel
   by_cases hk0 : 0 ≤ k
   ·
    obtain ⟨bt, ct, rfl⟩ := A3.slice
    obtain ⟨n, hn⟩ : ∃ n, T.length = n := ⟨_, rfl⟩
    have HN : Hid (T.length = n) := hn
    rw [hn] at hl3 A3
    clear hn
    have c3 := A3.c
    have f3 := A3.f
    have hk0' : (0 : Int) ≤ k := hk0
    go_wp2_with fail
    refine wp_region_noPanic ?_
    refine wp_region_L 15 (fun w' => w'.cell? ⟨w.heap.size + 1, 0, none⟩ = some (.slice bt n ct)) (by kernel_rfl) (by simpa using c3) (fun hHeld => ?_)
    have B0 := A3.drew
    clear A3 c3 f3
    refine wpAnyL_pure (i := 0) (v := ?v13) rfl (by kernel_rfl) (by kernel_rfl) (by kernel_rfl) (fun _ _ _ h => h) (by decide) (Or.inl ⟨by rfl, ?y13⟩) (fun _ => hHeld) ?z13
    case y13 => (intro wq _; go_simp; try with_reducible rfl)
    try simp only [Act.put, List.setIfInBounds_toArray, List.set_cons_zero, List.set_cons_succ]
    refine wpAnyL_load (i := 1) (v := ?v14) rfl (by kernel_rfl) (by kernel_rfl) (by kernel_rfl) (fun _ _ _ h => h) rfl (by kernel_rfl) (by decide) (by kernel_rfl) (Or.inl ⟨by rfl, ?y14⟩) hHeld ?z14
    case y14 => (intro wq hSw; (try dsimp only at hSw); go_simp; try with_reducible rfl)
    try simp only [Act.put, List.setIfInBounds_toArray, List.set_cons_zero, List.set_cons_succ]
    refine wpAnyL_pure (i := 2) (v := ?v15) rfl (by kernel_rfl) (by kernel_rfl) (by kernel_rfl) (fun _ _ _ h => h) (by decide) (Or.inl ⟨by rfl, ?y15⟩) (fun _ => hHeld) ?z15
    case y15 => (intro wq _; go_simp; try with_reducible rfl)
    try simp only [Act.put, List.setIfInBounds_toArray, List.set_cons_zero, List.set_cons_succ]
    refine wpAnyL_pure (i := 3) (v := ?v16) rfl (by kernel_rfl) (by kernel_rfl) (by kernel_rfl) (fun _ _ _ h => h) (by decide) (Or.inl ⟨by rfl, ?y16⟩) (fun _ => hHeld) ?z16
    case y16 => (intro wq _; go_simp; try with_reducible rfl)
    try simp only [Act.put, List.setIfInBounds_toArray, List.set_cons_zero, List.set_cons_succ]
    refine wpAnyL_pure (i := 7) (v := ?v17) rfl (by kernel_rfl) (by kernel_rfl) (by kernel_rfl) (fun _ _ _ h => h) (by decide) (Or.inl ⟨by rfl, ?y17⟩) (fun _ => hHeld) ?z17
    case y17 => (intro wq _; go_simp; try with_reducible rfl)
    try simp only [Act.put, List.setIfInBounds_toArray, List.set_cons_zero, List.set_cons_succ]
    refine wpAnyL_pure (i := 10) (v := ?v18) rfl (by kernel_rfl) (by kernel_rfl) (by kernel_rfl) (fun _ _ _ h => h) (by decide) (Or.inl ⟨by rfl, ?y18⟩) (fun _ => hHeld) ?z18
    case y18 => (intro wq _; go_simp; try with_reducible rfl)
    try simp only [Act.put, List.setIfInBounds_toArray, List.set_cons_zero, List.set_cons_succ]
    clear hHeld
    have cc0 := B0.c
    refine wpAnyL_ready (rs := [4, 11]) (by kernel_rfl) (by simp) ?_
    refine AllReadyL.cons rfl (fun K hK => ?_) ?_
    ·
     skip
     go_simp
     refine (src_n p a len cap zs 12 _ B0.src (by omega) (by omega)).mono ?_
     rintro e y1 ⟨x4, rfl, lx4, ux4, S7, g7⟩
     have B1 := B0.drawn hp S7 g7
     have cc1 := B1.c
     clear S7 g7 cc0
     have qa : IntKind.i64.wrap (x4 - 5) = x4 - 5 := by rw [IntKind.wrap_i64]; omega
     have qb : IntKind.i64.wrap (1800 * (x4 - 5)) = 1800 * (x4 - 5) := by rw [IntKind.wrap_i64]; omega
     go_wp2_with fail
     refine hK.out _ _ (fun _ => cc1) (fun hHeld => ?_)
     clear hK K
     try simp only [Act.put, List.setIfInBounds_toArray, List.set_cons_zero, List.set_cons_succ]
     refine wpAnyL_pure (i := 5) (v := ?v19) rfl (by kernel_rfl) (by kernel_rfl) (by kernel_rfl) (fun _ _ _ h => h) (by decide) (Or.inl ⟨by rfl, ?y19⟩) hHeld ?z19
     case y19 => (intro wq _; go_simp; try with_reducible rfl)
     try simp only [Act.put, List.setIfInBounds_toArray, List.set_cons_zero, List.set_cons_succ]
     refine wpAnyL_pure (i := 6) (v := ?v20) rfl (by kernel_rfl) (by kernel_rfl) (by kernel_rfl) (fun _ _ _ h => h) (by decide) (Or.inl ⟨by rfl, ?y20⟩) hHeld ?z20
     case y20 => (intro wq _; go_simp; try with_reducible rfl)
     try simp only [Act.put, List.setIfInBounds_toArray, List.set_cons_zero, List.set_cons_succ]
     clear hHeld
     refine wpAnyL_ready (rs := [8, 11]) (by kernel_rfl) (by simp) ?_
     refine AllReadyL.cons rfl (fun K hK => ?_) ?_
     ·
      skip
      go_simp
      refine (src_n p a len cap zs 2 _ B1.src (by omega) (by omega)).mono ?_
      rintro e y2 ⟨x8, rfl, lx8, ux8, S7, g7⟩
      have B2 := B1.drawn hp S7 g7
      have cc2 := B2.c
      clear S7 g7 cc1
      have qc : IntKind.i64.wrap (3600 * x8) = 3600 * x8 := by rw [IntKind.wrap_i64]; omega
      go_wp2_with fail
      refine hK.out _ _ (fun _ => cc2) (fun hHeld => ?_)
      clear hK K
      try simp only [Act.put, List.setIfInBounds_toArray, List.set_cons_zero, List.set_cons_succ]
      refine wpAnyL_pure (i := 9) (v := ?v21) rfl (by kernel_rfl) (by kernel_rfl) (by kernel_rfl) (fun _ _ _ h => h) (by decide) (Or.inl ⟨by rfl, ?y21⟩) hHeld ?z21
      case y21 => (intro wq _; go_simp; try with_reducible rfl)
      try simp only [Act.put, List.setIfInBounds_toArray, List.set_cons_zero, List.set_cons_succ]
      clear hHeld
      refine wpAnyL_ready (rs := [11]) (by kernel_rfl) (by simp) ?_
      refine AllReadyL.cons rfl (fun K hK => ?_) AllReadyL.nil
      go_simp
      have B3 := B2.alloc (.cells (([⟨#[65]⟩, ⟨#[66]⟩] : List ByteArray).map Value.string).toArray 9)
      have R3 : StrRow (y2.alloc (.cells (([⟨#[65]⟩, ⟨#[66]⟩] : List ByteArray).map Value.string).toArray 9)) y2.heap.size 2 100 := str_row y2 [⟨#[65]⟩, ⟨#[66]⟩] 9 (by decide)
      have cc3 := B3.c
      have bb : y2.heap.size ≠ p := by have : p < y2.heap.size := B2.src.lt; omega
      obtain ⟨bn, hbn⟩ : ∃ n, y2.heap.size = n := ⟨_, rfl⟩
      rw [hbn] at R3 bb ⊢
      refine hK.out _ _ (fun _ => cc3) (fun hHeld => ?_)
      clear hK K hHeld cc2
      try simp only [Act.put, List.setIfInBounds_toArray, List.set_cons_zero, List.set_cons_succ]
      refine wpAnyL_ready (rs := [12]) (by kernel_rfl) (by simp) ?_
      refine AllReadyL.cons rfl (fun K hK => ?_) AllReadyL.nil
      go_simp
      refine (src_pick p a len cap zs bn 2 100 _ B3.src R3 bb (by omega) (by omega)).mono ?_
      rintro e y4 ⟨s12, rfl, z12, S7, g7⟩
      have B4 := B3.drawn hp S7 g7
      have cc4 := B4.c
      clear S7 g7 cc3
      go_wp2_with fail
      refine hK.out _ _ (fun _ => cc4) (fun hHeld => ?_)
      clear hK K
      try simp only [Act.put, List.setIfInBounds_toArray, List.set_cons_zero, List.set_cons_succ]
      refine wpAnyL_pure (i := 13) (v := ?v22) rfl (by kernel_rfl) (by kernel_rfl) (by kernel_rfl) (fun _ _ _ h => h) (by decide) (Or.inl ⟨by rfl, ?y22⟩) hHeld ?z22
      case y22 => (intro wq _; go_simp; try with_reducible rfl)
      try simp only [Act.put, List.setIfInBounds_toArray, List.set_cons_zero, List.set_cons_succ]
      refine wpAnyL_ready (rs := [14]) (by kernel_rfl) (by simp) ?_
      refine AllReadyL.cons rfl (fun K hK => ?_) AllReadyL.nil
      go_simp
      refine hK.out _ _ (fun _ => keepC ((Below.refl _ y4).alloc (Nat.le_refl _) _) cc4) (fun hHeld => ?_)
      clear hK K
      try simp only [Act.put, List.setIfInBounds_toArray, List.set_cons_zero, List.set_cons_succ]
      refine wpAnyL_ready (rs := [15]) (by kernel_rfl) (by simp) ?_
      refine AllReadyL.cons rfl (fun K hK => ?_) AllReadyL.nil
      refine step_append_lies _ (by rfl) (.tmp 22) (.tmp 35) 23 (by rfl) (w.heap.size + 1 + 1) 38 i0 (.agg #[.int .i64 0, .int .i64 0, .int .i64 0, .string ⟨#[]⟩]) 4 40 Tryz.underlying23 hi hz0 hz1 hz2 rfl (by omega) (.slice bt n ct) n (T.map TurnD.cs).flatten (by rfl) (World.ownsRow.alloc (w := y4) (B4.ownN HN.out) _) ⟨y4.heap.size, 0, none⟩ 1 1 [.int .i64 at_, .int .i64 (1800 * (x4 - 5)), .int .i64 (3600 * x8), .string s12] (by rfl) rfl (cells_new _ _ _) (by intro u hu; simp at hu; rcases hu with rfl | rfl | rfl | rfl <;> rfl) (by omega) (by unfold maxLen; omega) (by omega) (by have := B4.size; simp; omega) _ rfl ?_
      intro g9 cap9 w9 hown9 hgrow9 hat9 hlt9
      have A9 := B4.app hp hgrow9 (OwnsT.add (x := ⟨at_, 1800 * (x4 - 5), 3600 * x8, s12⟩) (by rw [HN.out]; simpa [TurnD.cs] using hown9)) (N' := 8) (by rw [List.length_append, HN.out]; simp; omega) (ok_add B4.ok (by show s12.size ≤ maxLen; unfold maxLen; omega))
      have c9 := hgrow9.cell (a := ⟨w.heap.size + 1, 0, none⟩) (keepC ((Below.refl _ y4).alloc (Nat.le_refl _) _) cc4) B4.ne_own
      have f9 : w9.frozen? ⟨w.heap.size + 1, 0, none⟩ = false := by have := A9.f; rw [World.frozen?_setCell] at this; exact this
      refine hK.out _ _ (fun h0 => by cases h0) (fun hHeld => ?_)
      clear hK K hown9 hgrow9 hat9 hlt9 B4 cc4
      try simp only [Act.put, List.setIfInBounds_toArray, List.set_cons_zero, List.set_cons_succ]
      refine wpAnyL_pure (i := 16) (v := ?v23) rfl (by kernel_rfl) (by kernel_rfl) (by kernel_rfl) (fun _ _ _ h => h) (by decide) (Or.inl ⟨by rfl, ?y23⟩) hHeld ?z23
      case y23 => (intro wq _; go_simp; try with_reducible rfl)
      try simp only [Act.put, List.setIfInBounds_toArray, List.set_cons_zero, List.set_cons_succ]
      refine wpAnyL_ready (rs := [17]) (by kernel_rfl) (by simp) ?_
      refine AllReadyL.cons rfl (fun K hK => ?_) AllReadyL.nil
      go_simp
      refine hK.out _ _ (fun h0 => by cases h0) (fun hHeld => ?_)
      clear hK K hHeld c9 f9
      try simp only [Act.put, List.setIfInBounds_toArray, List.set_cons_zero, List.set_cons_succ]
      refine wpAnyL_done (by kernel_rfl) ?_ _
      refine NoPanic.normal ?_
      have HL9 : Hid (((T ++ [(⟨at_, 1800 * (x4 - 5), 3600 * x8, s12⟩ : TurnD)]).length : Int) + (k - 1) ≤ 7) := by simp only [Hid, List.length_append, HN.out]; simp; omega
      go_wp2_with fail
      refine (spec_l01MaxS at_ 0 _).mono ?_
      rintro e wx ⟨rfl, hwx⟩
      have hwy := hwx.symm
      clear hwx
      subst hwy
      go_wp2_with fail
      refine (src_n p a len cap zs 9000 _ A9.src (by omega) (by omega)).mono ?_
      rintro e y9 ⟨x9, rfl, l9, u9, S9, g9'⟩
      have A10 := A9.drawn hp S9 g9'
      clear A9 S9 g9'
      go_wp2
      go_roundw
      case rel => exact ⟨_, k - 1, _, _, rfl, by go_num, by omega, by omega, A10, HL9.out⟩
      case measure => simp [intOf]; omega
     refine AllReadyL.cons rfl (fun K hK => ?_) AllReadyL.nil
     go_simp
     have B2 := B1.alloc (.cells (([⟨#[65]⟩, ⟨#[66]⟩] : List ByteArray).map Value.string).toArray 9)
     have R2 : StrRow (y1.alloc (.cells (([⟨#[65]⟩, ⟨#[66]⟩] : List ByteArray).map Value.string).toArray 9)) y1.heap.size 2 100 := str_row y1 [⟨#[65]⟩, ⟨#[66]⟩] 9 (by decide)
     have cc2 := B2.c
     have bb : y1.heap.size ≠ p := by have : p < y1.heap.size := B1.src.lt; omega
     obtain ⟨bn, hbn⟩ : ∃ n, y1.heap.size = n := ⟨_, rfl⟩
     rw [hbn] at R2 bb ⊢
     refine hK.out _ _ (fun _ => cc2) (fun hHeld => ?_)
     clear hK K hHeld cc1
     try simp only [Act.put, List.setIfInBounds_toArray, List.set_cons_zero, List.set_cons_succ]
     refine wpAnyL_ready (rs := [8]) (by kernel_rfl) (by simp) ?_
     refine AllReadyL.cons rfl (fun K hK => ?_) AllReadyL.nil
     go_simp
     refine (src_n p a len cap zs 2 _ B2.src (by omega) (by omega)).mono ?_
     rintro e y3 ⟨x8, rfl, lx8, ux8, S7, g7⟩
     have B3 := B2.drawn hp S7 g7
     have R3 := R2.grown g7 bb
     have cc3 := B3.c
     clear S7 g7 cc2
     have qc : IntKind.i64.wrap (3600 * x8) = 3600 * x8 := by rw [IntKind.wrap_i64]; omega
     go_wp2_with fail
     refine hK.out _ _ (fun _ => cc3) (fun hHeld => ?_)
     clear hK K
     try simp only [Act.put, List.setIfInBounds_toArray, List.set_cons_zero, List.set_cons_succ]
     refine wpAnyL_pure (i := 9) (v := ?v24) rfl (by kernel_rfl) (by kernel_rfl) (by kernel_rfl) (fun _ _ _ h => h) (by decide) (Or.inl ⟨by rfl, ?y24⟩) hHeld ?z24
     case y24 => (intro wq _; go_simp; try with_reducible rfl)
     try simp only [Act.put, List.setIfInBounds_toArray, List.set_cons_zero, List.set_cons_succ]
     clear hHeld
     refine wpAnyL_ready (rs := [12]) (by kernel_rfl) (by simp) ?_
     refine AllReadyL.cons rfl (fun K hK => ?_) AllReadyL.nil
     go_simp
     refine (src_pick p a len cap zs bn 2 100 _ B3.src R3 bb (by omega) (by omega)).mono ?_
     rintro e y4 ⟨s12, rfl, z12, S7, g7⟩
     have B4 := B3.drawn hp S7 g7
     have cc4 := B4.c
     clear S7 g7 cc3
     go_wp2_with fail
     refine hK.out _ _ (fun _ => cc4) (fun hHeld => ?_)
     clear hK K
     try simp only [Act.put, List.setIfInBounds_toArray, List.set_cons_zero, List.set_cons_succ]
     refine wpAnyL_pure (i := 13) (v := ?v25) rfl (by kernel_rfl) (by kernel_rfl) (by kernel_rfl) (fun _ _ _ h => h) (by decide) (Or.inl ⟨by rfl, ?y25⟩) hHeld ?z25
     case y25 => (intro wq _; go_simp; try with_reducible rfl)
     try simp only [Act.put, List.setIfInBounds_toArray, List.set_cons_zero, List.set_cons_succ]
     refine wpAnyL_ready (rs := [14]) (by kernel_rfl) (by simp) ?_
     refine AllReadyL.cons rfl (fun K hK => ?_) AllReadyL.nil
     go_simp
     refine hK.out _ _ (fun _ => keepC ((Below.refl _ y4).alloc (Nat.le_refl _) _) cc4) (fun hHeld => ?_)
     clear hK K
     try simp only [Act.put, List.setIfInBounds_toArray, List.set_cons_zero, List.set_cons_succ]
     refine wpAnyL_ready (rs := [15]) (by kernel_rfl) (by simp) ?_
     refine AllReadyL.cons rfl (fun K hK => ?_) AllReadyL.nil
     refine step_append_lies _ (by rfl) (.tmp 22) (.tmp 35) 23 (by rfl) (w.heap.size + 1 + 1) 38 i0 (.agg #[.int .i64 0, .int .i64 0, .int .i64 0, .string ⟨#[]⟩]) 4 40 Tryz.underlying23 hi hz0 hz1 hz2 rfl (by omega) (.slice bt n ct) n (T.map TurnD.cs).flatten (by rfl) (World.ownsRow.alloc (w := y4) (B4.ownN HN.out) _) ⟨y4.heap.size, 0, none⟩ 1 1 [.int .i64 at_, .int .i64 (1800 * (x4 - 5)), .int .i64 (3600 * x8), .string s12] (by rfl) rfl (cells_new _ _ _) (by intro u hu; simp at hu; rcases hu with rfl | rfl | rfl | rfl <;> rfl) (by omega) (by unfold maxLen; omega) (by omega) (by have := B4.size; simp; omega) _ rfl ?_
     intro g9 cap9 w9 hown9 hgrow9 hat9 hlt9
     have A9 := B4.app hp hgrow9 (OwnsT.add (x := ⟨at_, 1800 * (x4 - 5), 3600 * x8, s12⟩) (by rw [HN.out]; simpa [TurnD.cs] using hown9)) (N' := 8) (by rw [List.length_append, HN.out]; simp; omega) (ok_add B4.ok (by show s12.size ≤ maxLen; unfold maxLen; omega))
     have c9 := hgrow9.cell (a := ⟨w.heap.size + 1, 0, none⟩) (keepC ((Below.refl _ y4).alloc (Nat.le_refl _) _) cc4) B4.ne_own
     have f9 : w9.frozen? ⟨w.heap.size + 1, 0, none⟩ = false := by have := A9.f; rw [World.frozen?_setCell] at this; exact this
     refine hK.out _ _ (fun h0 => by cases h0) (fun hHeld => ?_)
     clear hK K hown9 hgrow9 hat9 hlt9 B4 cc4
     try simp only [Act.put, List.setIfInBounds_toArray, List.set_cons_zero, List.set_cons_succ]
     refine wpAnyL_pure (i := 16) (v := ?v26) rfl (by kernel_rfl) (by kernel_rfl) (by kernel_rfl) (fun _ _ _ h => h) (by decide) (Or.inl ⟨by rfl, ?y26⟩) hHeld ?z26
     case y26 => (intro wq _; go_simp; try with_reducible rfl)
     try simp only [Act.put, List.setIfInBounds_toArray, List.set_cons_zero, List.set_cons_succ]
     refine wpAnyL_ready (rs := [17]) (by kernel_rfl) (by simp) ?_
     refine AllReadyL.cons rfl (fun K hK => ?_) AllReadyL.nil
     go_simp
     refine hK.out _ _ (fun h0 => by cases h0) (fun hHeld => ?_)
     clear hK K hHeld c9 f9
     try simp only [Act.put, List.setIfInBounds_toArray, List.set_cons_zero, List.set_cons_succ]
     refine wpAnyL_done (by kernel_rfl) ?_ _
     refine NoPanic.normal ?_
     have HL9 : Hid (((T ++ [(⟨at_, 1800 * (x4 - 5), 3600 * x8, s12⟩ : TurnD)]).length : Int) + (k - 1) ≤ 7) := by simp only [Hid, List.length_append, HN.out]; simp; omega
     go_wp2_with fail
     refine (spec_l01MaxS at_ 0 _).mono ?_
     rintro e wx ⟨rfl, hwx⟩
     have hwy := hwx.symm
     clear hwx
     subst hwy
     go_wp2_with fail
     refine (src_n p a len cap zs 9000 _ A9.src (by omega) (by omega)).mono ?_
     rintro e y9 ⟨x9, rfl, l9, u9, S9, g9'⟩
     have A10 := A9.drawn hp S9 g9'
     clear A9 S9 g9'
     go_wp2
     go_roundw
     case rel => exact ⟨_, k - 1, _, _, rfl, by go_num, by omega, by omega, A10, HL9.out⟩
     case measure => simp [intOf]; omega
    refine AllReadyL.cons rfl (fun K hK => ?_) AllReadyL.nil
    go_simp
    have B1 := B0.alloc (.cells (([⟨#[65]⟩, ⟨#[66]⟩] : List ByteArray).map Value.string).toArray 9)
    have R1 : StrRow (wa.drew.alloc (.cells (([⟨#[65]⟩, ⟨#[66]⟩] : List ByteArray).map Value.string).toArray 9)) wa.heap.size 2 100 := str_row wa.drew [⟨#[65]⟩, ⟨#[66]⟩] 9 (by decide)
    have cc1 := B1.c
    have bb : wa.heap.size ≠ p := by have : p < wa.heap.size := B0.src.lt; omega
    obtain ⟨bn, hbn⟩ : ∃ n, wa.heap.size = n := ⟨_, rfl⟩
    rw [hbn] at R1 bb ⊢
    refine hK.out _ _ (fun _ => cc1) (fun hHeld => ?_)
    clear hK K hHeld cc0
    try simp only [Act.put, List.setIfInBounds_toArray, List.set_cons_zero, List.set_cons_succ]
    refine wpAnyL_ready (rs := [4]) (by kernel_rfl) (by simp) ?_
    refine AllReadyL.cons rfl (fun K hK => ?_) AllReadyL.nil
    go_simp
    refine (src_n p a len cap zs 12 _ B1.src (by omega) (by omega)).mono ?_
    rintro e y2 ⟨x4, rfl, lx4, ux4, S7, g7⟩
    have B2 := B1.drawn hp S7 g7
    have R2 := R1.grown g7 bb
    have cc2 := B2.c
    clear S7 g7 cc1
    have qa : IntKind.i64.wrap (x4 - 5) = x4 - 5 := by rw [IntKind.wrap_i64]; omega
    have qb : IntKind.i64.wrap (1800 * (x4 - 5)) = 1800 * (x4 - 5) := by rw [IntKind.wrap_i64]; omega
    go_wp2_with fail
    refine hK.out _ _ (fun _ => cc2) (fun hHeld => ?_)
    clear hK K
    try simp only [Act.put, List.setIfInBounds_toArray, List.set_cons_zero, List.set_cons_succ]
    refine wpAnyL_pure (i := 5) (v := ?v27) rfl (by kernel_rfl) (by kernel_rfl) (by kernel_rfl) (fun _ _ _ h => h) (by decide) (Or.inl ⟨by rfl, ?y27⟩) hHeld ?z27
    case y27 => (intro wq _; go_simp; try with_reducible rfl)
    try simp only [Act.put, List.setIfInBounds_toArray, List.set_cons_zero, List.set_cons_succ]
    refine wpAnyL_pure (i := 6) (v := ?v28) rfl (by kernel_rfl) (by kernel_rfl) (by kernel_rfl) (fun _ _ _ h => h) (by decide) (Or.inl ⟨by rfl, ?y28⟩) hHeld ?z28
    case y28 => (intro wq _; go_simp; try with_reducible rfl)
    try simp only [Act.put, List.setIfInBounds_toArray, List.set_cons_zero, List.set_cons_succ]
    clear hHeld
    refine wpAnyL_ready (rs := [8]) (by kernel_rfl) (by simp) ?_
    refine AllReadyL.cons rfl (fun K hK => ?_) AllReadyL.nil
    go_simp
    refine (src_n p a len cap zs 2 _ B2.src (by omega) (by omega)).mono ?_
    rintro e y3 ⟨x8, rfl, lx8, ux8, S7, g7⟩
    have B3 := B2.drawn hp S7 g7
    have R3 := R2.grown g7 bb
    have cc3 := B3.c
    clear S7 g7 cc2
    have qc : IntKind.i64.wrap (3600 * x8) = 3600 * x8 := by rw [IntKind.wrap_i64]; omega
    go_wp2_with fail
    refine hK.out _ _ (fun _ => cc3) (fun hHeld => ?_)
    clear hK K
    try simp only [Act.put, List.setIfInBounds_toArray, List.set_cons_zero, List.set_cons_succ]
    refine wpAnyL_pure (i := 9) (v := ?v29) rfl (by kernel_rfl) (by kernel_rfl) (by kernel_rfl) (fun _ _ _ h => h) (by decide) (Or.inl ⟨by rfl, ?y29⟩) hHeld ?z29
    case y29 => (intro wq _; go_simp; try with_reducible rfl)
    try simp only [Act.put, List.setIfInBounds_toArray, List.set_cons_zero, List.set_cons_succ]
    clear hHeld
    refine wpAnyL_ready (rs := [12]) (by kernel_rfl) (by simp) ?_
    refine AllReadyL.cons rfl (fun K hK => ?_) AllReadyL.nil
    go_simp
    refine (src_pick p a len cap zs bn 2 100 _ B3.src R3 bb (by omega) (by omega)).mono ?_
    rintro e y4 ⟨s12, rfl, z12, S7, g7⟩
    have B4 := B3.drawn hp S7 g7
    have cc4 := B4.c
    clear S7 g7 cc3
    go_wp2_with fail
    refine hK.out _ _ (fun _ => cc4) (fun hHeld => ?_)
    clear hK K
    try simp only [Act.put, List.setIfInBounds_toArray, List.set_cons_zero, List.set_cons_succ]
    refine wpAnyL_pure (i := 13) (v := ?v30) rfl (by kernel_rfl) (by kernel_rfl) (by kernel_rfl) (fun _ _ _ h => h) (by decide) (Or.inl ⟨by rfl, ?y30⟩) hHeld ?z30
    case y30 => (intro wq _; go_simp; try with_reducible rfl)
    try simp only [Act.put, List.setIfInBounds_toArray, List.set_cons_zero, List.set_cons_succ]
    refine wpAnyL_ready (rs := [14]) (by kernel_rfl) (by simp) ?_
    refine AllReadyL.cons rfl (fun K hK => ?_) AllReadyL.nil
    go_simp
    refine hK.out _ _ (fun _ => keepC ((Below.refl _ y4).alloc (Nat.le_refl _) _) cc4) (fun hHeld => ?_)
    clear hK K
    try simp only [Act.put, List.setIfInBounds_toArray, List.set_cons_zero, List.set_cons_succ]
    refine wpAnyL_ready (rs := [15]) (by kernel_rfl) (by simp) ?_
    refine AllReadyL.cons rfl (fun K hK => ?_) AllReadyL.nil
    refine step_append_lies _ (by rfl) (.tmp 22) (.tmp 35) 23 (by rfl) (w.heap.size + 1 + 1) 38 i0 (.agg #[.int .i64 0, .int .i64 0, .int .i64 0, .string ⟨#[]⟩]) 4 40 Tryz.underlying23 hi hz0 hz1 hz2 rfl (by omega) (.slice bt n ct) n (T.map TurnD.cs).flatten (by rfl) (World.ownsRow.alloc (w := y4) (B4.ownN HN.out) _) ⟨y4.heap.size, 0, none⟩ 1 1 [.int .i64 at_, .int .i64 (1800 * (x4 - 5)), .int .i64 (3600 * x8), .string s12] (by rfl) rfl (cells_new _ _ _) (by intro u hu; simp at hu; rcases hu with rfl | rfl | rfl | rfl <;> rfl) (by omega) (by unfold maxLen; omega) (by omega) (by have := B4.size; simp; omega) _ rfl ?_
    intro g9 cap9 w9 hown9 hgrow9 hat9 hlt9
    have A9 := B4.app hp hgrow9 (OwnsT.add (x := ⟨at_, 1800 * (x4 - 5), 3600 * x8, s12⟩) (by rw [HN.out]; simpa [TurnD.cs] using hown9)) (N' := 8) (by rw [List.length_append, HN.out]; simp; omega) (ok_add B4.ok (by show s12.size ≤ maxLen; unfold maxLen; omega))
    have c9 := hgrow9.cell (a := ⟨w.heap.size + 1, 0, none⟩) (keepC ((Below.refl _ y4).alloc (Nat.le_refl _) _) cc4) B4.ne_own
    have f9 : w9.frozen? ⟨w.heap.size + 1, 0, none⟩ = false := by have := A9.f; rw [World.frozen?_setCell] at this; exact this
    refine hK.out _ _ (fun h0 => by cases h0) (fun hHeld => ?_)
    clear hK K hown9 hgrow9 hat9 hlt9 B4 cc4
    try simp only [Act.put, List.setIfInBounds_toArray, List.set_cons_zero, List.set_cons_succ]
    refine wpAnyL_pure (i := 16) (v := ?v31) rfl (by kernel_rfl) (by kernel_rfl) (by kernel_rfl) (fun _ _ _ h => h) (by decide) (Or.inl ⟨by rfl, ?y31⟩) hHeld ?z31
    case y31 => (intro wq _; go_simp; try with_reducible rfl)
    try simp only [Act.put, List.setIfInBounds_toArray, List.set_cons_zero, List.set_cons_succ]
    refine wpAnyL_ready (rs := [17]) (by kernel_rfl) (by simp) ?_
    refine AllReadyL.cons rfl (fun K hK => ?_) AllReadyL.nil
    go_simp
    refine hK.out _ _ (fun h0 => by cases h0) (fun hHeld => ?_)
    clear hK K hHeld c9 f9
    try simp only [Act.put, List.setIfInBounds_toArray, List.set_cons_zero, List.set_cons_succ]
    refine wpAnyL_done (by kernel_rfl) ?_ _
    refine NoPanic.normal ?_
    have HL9 : Hid (((T ++ [(⟨at_, 1800 * (x4 - 5), 3600 * x8, s12⟩ : TurnD)]).length : Int) + (k - 1) ≤ 7) := by simp only [Hid, List.length_append, HN.out]; simp; omega
    go_wp2_with fail
    refine (spec_l01MaxS at_ 0 _).mono ?_
    rintro e wx ⟨rfl, hwx⟩
    have hwy := hwx.symm
    clear hwx
    subst hwy
    go_wp2_with fail
    refine (src_n p a len cap zs 9000 _ A9.src (by omega) (by omega)).mono ?_
    rintro e y9 ⟨x9, rfl, l9, u9, S9, g9'⟩
    have A10 := A9.drawn hp S9 g9'
    clear A9 S9 g9'
    go_wp2
    go_roundw
    case rel => exact ⟨_, k - 1, _, _, rfl, by go_num, by omega, by omega, A10, HL9.out⟩
    case measure => simp [intOf]; omega
   ·
    have hk : k = -1 := by omega
    subst hk
    clear hk1 hk2 hk0
    obtain ⟨bt, ct, rfl⟩ := A3.slice
    go_wp2_with fail
    refine (src_one p a len cap zs 20 _ A3.src (by omega) (by omega)).mono ?_
    rintro e w5 ⟨v5, rfl, S5, g5⟩
    have A5 := A3.drawn hp S5 g5
    clear A3 S5 g5
    cases v5 with
    | false =>
     have c8 := A5.c
     have r8 := A5.rc
     have f8 := A5.f
     have q8 := A5.rf
     have hd8 := A5.done hp (by omega)
     have HD8 : Hid (SomeP p a len cap zs w (.returned (.agg #[(.slice bt T.length ct)])) (w5.setCell ⟨w.heap.size, 0, none⟩ (.slice bt T.length ct))) := hd8
     have t8 : (w5.setCell ⟨w.heap.size, 0, none⟩ (.slice bt T.length ct)).cell? ⟨w.heap.size, 0, none⟩ = some (.slice bt T.length ct) := World.cell?_setCell_same _ _ _ r8
     clear hd8 A5
     go_wp2
     exact bodyPost_ret (v := .agg #[(.slice bt T.length ct)]) (by simp [results, Tryz.results34, go_sem, t8]) rfl HD8.out
    | true =>
     go_wp2_with fail
     refine (src_n p a len cap zs 4 _ A5.src (by omega) (by omega)).mono ?_
     rintro e w6 ⟨q6, rfl, l6, u6, S6, g6⟩
     have A6 := A5.drawn hp S6 g6
     clear A5 S6 g6
     obtain ⟨n, hn⟩ : ∃ n, T.length = n := ⟨_, rfl⟩
     have HN : Hid (T.length = n) := hn
     have hlN := A6.len
     rw [hn] at hlN A6
     try rw [hn]
     clear hn
     rcases (show q6 = 0 ∨ q6 = 1 ∨ q6 = 2 ∨ q6 = 3 by omega) with rfl | rfl | rfl | rfl
     ·
      clear l6 u6
      have c6 := A6.c
      have f6 := A6.f
      go_wp2_with fail
      refine wp_region_noPanic ?_
      refine wp_region_L 7 (fun w' => w'.cell? ⟨w.heap.size + 1, 0, none⟩ = some (.slice bt n ct)) (by kernel_rfl) (by simpa using c6) (fun hHeld => ?_)
      refine wpAnyL_pure (i := 0) (v := ?v32) rfl (by kernel_rfl) (by kernel_rfl) (by kernel_rfl) (fun _ _ _ h => h) (by decide) (Or.inl ⟨by rfl, ?y32⟩) (fun _ => hHeld) ?z32
      case y32 => (intro wq _; go_simp; try with_reducible rfl)
      try simp only [Act.put, List.setIfInBounds_toArray, List.set_cons_zero, List.set_cons_succ]
      refine wpAnyL_load (i := 1) (v := ?v33) rfl (by kernel_rfl) (by kernel_rfl) (by kernel_rfl) (fun _ _ _ h => h) rfl (by kernel_rfl) (by decide) (by kernel_rfl) (Or.inl ⟨by rfl, ?y33⟩) hHeld ?z33
      case y33 => (intro wq hSw; (try dsimp only at hSw); go_simp; try with_reducible rfl)
      try simp only [Act.put, List.setIfInBounds_toArray, List.set_cons_zero, List.set_cons_succ]
      refine wpAnyL_pure (i := 2) (v := ?v34) rfl (by kernel_rfl) (by kernel_rfl) (by kernel_rfl) (fun _ _ _ h => h) (by decide) (Or.inl ⟨by rfl, ?y34⟩) (fun _ => hHeld) ?z34
      case y34 => (intro wq _; go_simp; try with_reducible rfl)
      try simp only [Act.put, List.setIfInBounds_toArray, List.set_cons_zero, List.set_cons_succ]
      refine wpAnyL_ready (rs := [3]) (by kernel_rfl) (by simp) ?_
      refine AllReadyL.cons rfl (fun K hK => ?_) AllReadyL.nil
      go_simp
      refine (src_n p a len cap zs 2 _ A6.drew.src (by omega) (by omega)).mono ?_
      rintro e w7 ⟨x7, rfl, l7, u7, S7, g7⟩
      have A7 := A6.drew.drawn hp S7 g7
      clear S7 g7 A6 c6 f6 hHeld
      have c7 := A7.c
      have q7 : IntKind.i64.wrap (100000 + x7) = 100000 + x7 := by rw [IntKind.wrap_i64]; omega
      go_wp2_with fail
      refine hK.out _ _ (fun _ => c7) (fun hHeld => ?_)
      clear hK K
      try simp only [Act.put, List.setIfInBounds_toArray, List.set_cons_zero, List.set_cons_succ]
      refine wpAnyL_pure (i := 4) (v := ?v35) rfl (by kernel_rfl) (by kernel_rfl) (by kernel_rfl) (fun _ _ _ h => h) (by decide) (Or.inl ⟨by rfl, ?y35⟩) hHeld ?z35
      case y35 => (intro wq _; go_simp; try with_reducible rfl)
      try simp only [Act.put, List.setIfInBounds_toArray, List.set_cons_zero, List.set_cons_succ]
      refine wpAnyL_pure (i := 5) (v := ?v36) rfl (by kernel_rfl) (by kernel_rfl) (by kernel_rfl) (fun _ _ _ h => h) (by decide) (Or.inl ⟨by rfl, ?y36⟩) hHeld ?z36
      case y36 => (intro wq _; go_simp; try with_reducible rfl)
      try simp only [Act.put, List.setIfInBounds_toArray, List.set_cons_zero, List.set_cons_succ]
      refine wpAnyL_ready (rs := [6]) (by kernel_rfl) (by simp) ?_
      refine AllReadyL.cons rfl (fun K hK => ?_) AllReadyL.nil
      go_simp
      refine hK.out _ _ (fun _ => keepC ((Below.refl _ w7).alloc (Nat.le_refl _) _) c7) (fun hHeld => ?_)
      clear hK K
      try simp only [Act.put, List.setIfInBounds_toArray, List.set_cons_zero, List.set_cons_succ]
      refine wpAnyL_ready (rs := [7]) (by kernel_rfl) (by simp) ?_
      refine AllReadyL.cons rfl (fun K hK => ?_) AllReadyL.nil
      refine step_append_lies _ (by rfl) (.tmp 57) (.tmp 62) 23 (by rfl) (w.heap.size + 1 + 1) 38 i0 (.agg #[.int .i64 0, .int .i64 0, .int .i64 0, .string ⟨#[]⟩]) 4 40 Tryz.underlying23 hi hz0 hz1 hz2 rfl (by omega) (.slice bt n ct) n (T.map TurnD.cs).flatten (by rfl) (World.ownsRow.alloc (w := w7) (A7.ownN HN.out) _) ⟨w7.heap.size, 0, none⟩ 1 1 [.int .i64 253402300799, .int .i64 (100000 + x7), .int .i64 0, .string ⟨#[]⟩] (by rfl) rfl (cells_new _ _ _) (by intro u hu; simp at hu; rcases hu with rfl | rfl | rfl | rfl <;> rfl) (by omega) (by unfold maxLen; omega) (by omega) (by have := A7.size; simp; omega) _ rfl ?_
      intro g9 cap9 w9 hown9 hgrow9 hat9 hlt9
      have A9 := A7.app hp hgrow9 (OwnsT.add (x := ⟨253402300799, 100000 + x7, 0, ⟨#[]⟩⟩) (by rw [HN.out]; simpa [TurnD.cs] using hown9)) (N' := 9) (by rw [List.length_append, HN.out]; simp; omega) (ok_add A7.ok (by show (0 : Nat) ≤ maxLen; omega))
      have c9 := hgrow9.cell (a := ⟨w.heap.size + 1, 0, none⟩) (keepC ((Below.refl _ w7).alloc (Nat.le_refl _) _) c7) A7.ne_own
      have f9 : w9.frozen? ⟨w.heap.size + 1, 0, none⟩ = false := by have := A9.f; rw [World.frozen?_setCell] at this; exact this
      refine hK.out _ _ (fun h0 => by cases h0) (fun hHeld => ?_)
      clear hK K hown9 hgrow9 hat9 hlt9 A7 c7
      try simp only [Act.put, List.setIfInBounds_toArray, List.set_cons_zero, List.set_cons_succ]
      refine wpAnyL_pure (i := 8) (v := ?v37) rfl (by kernel_rfl) (by kernel_rfl) (by kernel_rfl) (fun _ _ _ h => h) (by decide) (Or.inl ⟨by rfl, ?y37⟩) hHeld ?z37
      case y37 => (intro wq _; go_simp; try with_reducible rfl)
      try simp only [Act.put, List.setIfInBounds_toArray, List.set_cons_zero, List.set_cons_succ]
      refine wpAnyL_ready (rs := [9]) (by kernel_rfl) (by simp) ?_
      refine AllReadyL.cons rfl (fun K hK => ?_) AllReadyL.nil
      go_simp
      refine hK.out _ _ (fun h0 => by cases h0) (fun hHeld => ?_)
      clear hK K
      try simp only [Act.put, List.setIfInBounds_toArray, List.set_cons_zero, List.set_cons_succ]
      refine wpAnyL_done (by kernel_rfl) ?_ _
      refine NoPanic.normal ?_
      have c8 := A9.c
      have r8 := A9.rc
      have f8 := A9.f
      have q8 := A9.rf
      have hd8 := A9.done hp (by omega)
      have HD8 : Hid (SomeP p a len cap zs w (.returned (.agg #[(.slice (some ⟨g9, 0, none⟩) (n + 1) cap9)])) ((w9.setCell ⟨w.heap.size + 1, 0, none⟩ (.slice (some ⟨g9, 0, none⟩) (n + 1) cap9)).setCell ⟨w.heap.size, 0, none⟩ (.slice (some ⟨g9, 0, none⟩) (n + 1) cap9))) := hd8
      have t8 : ((w9.setCell ⟨w.heap.size + 1, 0, none⟩ (.slice (some ⟨g9, 0, none⟩) (n + 1) cap9)).setCell ⟨w.heap.size, 0, none⟩ (.slice (some ⟨g9, 0, none⟩) (n + 1) cap9)).cell? ⟨w.heap.size, 0, none⟩ = some (.slice (some ⟨g9, 0, none⟩) (n + 1) cap9) := World.cell?_setCell_same _ _ _ r8
      clear hd8 A9
      go_wp2
      exact bodyPost_ret (v := .agg #[(.slice (some ⟨g9, 0, none⟩) (n + 1) cap9)]) (by simp [results, Tryz.results34, go_sem, t8]) rfl HD8.out
     ·
      clear l6 u6
      by_cases h0 : n = 0
      ·
       have h0' : ¬ (0 : Int) < (n : Int) := by omega
       have c6 := A6.c
       clear h0
       have c8 := A6.c
       have r8 := A6.rc
       have f8 := A6.f
       have q8 := A6.rf
       have hd8 := A6.done hp (by omega)
       have HD8 : Hid (SomeP p a len cap zs w (.returned (.agg #[(.slice bt n ct)])) (w6.setCell ⟨w.heap.size, 0, none⟩ (.slice bt n ct))) := hd8
       have t8 : (w6.setCell ⟨w.heap.size, 0, none⟩ (.slice bt n ct)).cell? ⟨w.heap.size, 0, none⟩ = some (.slice bt n ct) := World.cell?_setCell_same _ _ _ r8
       clear hd8 A6
       go_wp2
       exact bodyPost_ret (v := .agg #[(.slice bt n ct)]) (by simp [results, Tryz.results34, go_sem, t8]) rfl HD8.out
      ·
       have h0' : (0 : Int) < (n : Int) := by omega
       obtain ⟨g, t, T0, rfl, rfl, hc⟩ := A6.some HN.out (by omega)
       have c6 := A6.c
       have f6 := A6.f
       obtain ⟨k0, z0⟩ := hc 0 _ rfl
       have A7 := A6.put hp HN.out 0 (.int .i64 0) (T' := ⟨0, t.offset, t.save, t.abbr⟩ :: T0) (by simp [TurnD.cs]) (by have := HN.out; simpa using this) (fun x hx => by rcases List.mem_cons.1 hx with rfl | hx; exact A6.ok t (by simp); exact A6.ok x (by simp [hx]))
       clear hc A6 h0
       have c8 := A7.c
       have r8 := A7.rc
       have f8 := A7.f
       have q8 := A7.rf
       have hd8 := A7.done hp (by omega)
       have HD8 : Hid (SomeP p a len cap zs w (.returned (.agg #[(.slice (some ⟨g, 0, none⟩) n ct)])) ((w6.setCell ⟨g, 0, none⟩ (.int .i64 0)).setCell ⟨w.heap.size, 0, none⟩ (.slice (some ⟨g, 0, none⟩) n ct))) := hd8
       have t8 : ((w6.setCell ⟨g, 0, none⟩ (.int .i64 0)).setCell ⟨w.heap.size, 0, none⟩ (.slice (some ⟨g, 0, none⟩) n ct)).cell? ⟨w.heap.size, 0, none⟩ = some (.slice (some ⟨g, 0, none⟩) n ct) := World.cell?_setCell_same _ _ _ r8
       clear hd8 A7
       go_wp2
       exact bodyPost_ret (v := .agg #[(.slice (some ⟨g, 0, none⟩) n ct)]) (by simp [results, Tryz.results34, go_sem, t8]) rfl HD8.out
     ·
      clear l6 u6
      by_cases h0 : n = 0
      ·
       have h0' : ¬ (0 : Int) < (n : Int) := by omega
       have c6 := A6.c
       clear h0
       have c8 := A6.c
       have r8 := A6.rc
       have f8 := A6.f
       have q8 := A6.rf
       have hd8 := A6.done hp (by omega)
       have HD8 : Hid (SomeP p a len cap zs w (.returned (.agg #[(.slice bt n ct)])) (w6.setCell ⟨w.heap.size, 0, none⟩ (.slice bt n ct))) := hd8
       have t8 : (w6.setCell ⟨w.heap.size, 0, none⟩ (.slice bt n ct)).cell? ⟨w.heap.size, 0, none⟩ = some (.slice bt n ct) := World.cell?_setCell_same _ _ _ r8
       clear hd8 A6
       go_wp2
       exact bodyPost_ret (v := .agg #[(.slice bt n ct)]) (by simp [results, Tryz.results34, go_sem, t8]) rfl HD8.out
      ·
       have h0' : (0 : Int) < (n : Int) := by omega
       obtain ⟨g, t, T0, rfl, rfl, hc⟩ := A6.some HN.out (by omega)
       have c6 := A6.c
       have f6 := A6.f
       clear hc
       go_wp2_with fail
       refine wp_region_noPanic ?_
       refine wp_region_held_drew (S := fun w' => w'.cell? ⟨w.heap.size + 1, 0, none⟩ = some (.slice (some ⟨g, 0, none⟩) n ct)) (by kernel_rfl) (by simpa using c6) (fun hHeld => ?_)
       refine wpAnyH_take (i := 0) (v := ?v38) rfl (by kernel_rfl) (by kernel_rfl) (by kernel_rfl) (fun _ _ _ h => h) (Or.inl ⟨by rfl, ?y38⟩) hHeld ?z38
       case y38 => (intro wq hSw; (try dsimp only at hSw); go_simp; try with_reducible rfl)
       try simp only [Act.put, List.setIfInBounds_toArray, List.set_cons_zero, List.set_cons_succ]
       refine wpAnyH_take (i := 1) (v := ?v39) rfl (by kernel_rfl) (by kernel_rfl) (by kernel_rfl) (fun _ _ _ h => h) (Or.inl ⟨by rfl, ?y39⟩) hHeld ?z39
       case y39 => (intro wq hSw; (try dsimp only at hSw); go_simp; try with_reducible rfl)
       try simp only [Act.put, List.setIfInBounds_toArray, List.set_cons_zero, List.set_cons_succ]
       refine wpAnyH_take (i := 2) (v := ?v40) rfl (by kernel_rfl) (by kernel_rfl) (by kernel_rfl) (fun _ _ _ h => h) (Or.inl ⟨by rfl, ?y40⟩) hHeld ?z40
       case y40 => (intro wq hSw; (try dsimp only at hSw); go_simp; try with_reducible rfl)
       try simp only [Act.put, List.setIfInBounds_toArray, List.set_cons_zero, List.set_cons_succ]
       refine wpAnyH_ready (rs := [3]) (by kernel_rfl) (by simp) ?_
       refine AllReadyH.cons rfl (fun K hK => ?_) AllReadyH.nil
       go_simp
       refine (src_n p a len cap zs 2 _ A6.drew.src (by omega) (by omega)).mono ?_
       rintro e w7 ⟨x7, rfl, l7, u7, S7, g7⟩
       have A7 := A6.drew.drawn hp S7 g7
       clear S7 g7 A6 c6 f6 hHeld
       obtain ⟨g2, t2, T2, e1, e2, hc⟩ := A7.some HN.out (by omega)
       injection e1 with e1
       injection e1 with e1
       injection e2 with e2 e3
       subst e1 e2 e3
       obtain ⟨k2, z2⟩ := hc 2 _ rfl
       clear hc
       have c7 := A7.c
       have q7 : IntKind.i64.wrap (7200 + x7) = 7200 + x7 := by rw [IntKind.wrap_i64]; omega
       have A8 := A7.put hp HN.out 2 (.int .i64 (7200 + x7)) (T' := ⟨t.at_, t.offset, 7200 + x7, t.abbr⟩ :: T0) (by simp [TurnD.cs]) (by have := HN.out; simpa using this) (fun x hx => by rcases List.mem_cons.1 hx with rfl | hx; exact A7.ok t (by simp); exact A7.ok x (by simp [hx]))
       go_wp2_with fail
       refine hK.out _ _ c7 (fun hHeld => ?_)
       clear hK K A7
       try simp only [Act.put, List.setIfInBounds_toArray, List.set_cons_zero, List.set_cons_succ]
       refine wpAnyH_take (i := 4) (v := ?v41) rfl (by kernel_rfl) (by kernel_rfl) (by kernel_rfl) (fun _ _ _ h => h) (Or.inl ⟨by rfl, ?y41⟩) hHeld ?z41
       case y41 => (intro wq hSw; (try dsimp only at hSw); go_simp; try with_reducible rfl)
       try simp only [Act.put, List.setIfInBounds_toArray, List.set_cons_zero, List.set_cons_succ]
       refine wpAnyH_take (i := 5) (v := ?v42) rfl (by kernel_rfl) (by kernel_rfl) (by kernel_rfl) (fun _ _ _ h => h) (Or.inl ⟨by rfl, ?y42⟩) hHeld ?z42
       case y42 => (intro wq hSw; (try dsimp only at hSw); go_simp; try with_reducible rfl)
       try simp only [Act.put, List.setIfInBounds_toArray, List.set_cons_zero, List.set_cons_succ]
       refine wpAnyH_take (i := 6) (v := ?v43) rfl (by kernel_rfl) (by kernel_rfl) (by kernel_rfl) (fun _ _ _ h => h) (Or.inl ⟨by rfl, ?y43⟩) hHeld ?z43
       case y43 => (intro wq hSw; (try dsimp only at hSw); go_simp; try with_reducible rfl)
       try simp only [Act.put, List.setIfInBounds_toArray, List.set_cons_zero, List.set_cons_succ]
       refine wpAnyH_ready (rs := [7]) (by kernel_rfl) (by simp) ?_
       refine AllReadyH.cons rfl (fun K hK => ?_) AllReadyH.nil
       go_simp
       refine hK.out _ _ A8.c (fun hHeld => ?_)
       clear hK K
       try simp only [Act.put, List.setIfInBounds_toArray, List.set_cons_zero, List.set_cons_succ]
       refine wpAnyH_done (by kernel_rfl) ?_ _
       refine NoPanic.normal ?_
       have c8 := A8.c
       have r8 := A8.rc
       have f8 := A8.f
       have q8 := A8.rf
       have hd8 := A8.done hp (by omega)
       have HD8 : Hid (SomeP p a len cap zs w (.returned (.agg #[(.slice (some ⟨g, 0, none⟩) n ct)])) ((w7.setCell ⟨g, 2, none⟩ (.int .i64 (7200 + x7))).setCell ⟨w.heap.size, 0, none⟩ (.slice (some ⟨g, 0, none⟩) n ct))) := hd8
       have t8 : ((w7.setCell ⟨g, 2, none⟩ (.int .i64 (7200 + x7))).setCell ⟨w.heap.size, 0, none⟩ (.slice (some ⟨g, 0, none⟩) n ct)).cell? ⟨w.heap.size, 0, none⟩ = some (.slice (some ⟨g, 0, none⟩) n ct) := World.cell?_setCell_same _ _ _ r8
       clear hd8 A8
       go_wp2
       exact bodyPost_ret (v := .agg #[(.slice (some ⟨g, 0, none⟩) n ct)]) (by simp [results, Tryz.results34, go_sem, t8]) rfl HD8.out
     ·
      clear l6 u6
      by_cases h0 : n = 0
      ·
       subst h0
       obtain rfl : T = [] := List.eq_nil_of_length_eq_zero HN.out
       have c6 := A6.c
       have f6 := A6.f
       rcases (A6.ownN (n := 0) rfl).2 with ⟨hv, _⟩ | ⟨g, cp, cur, hv, _⟩
       ·
        injection hv with hv1 _ hv3
        subst hv1 hv3
        have A9 := A6.store hp (Fr.refl (fun _ => False) w6) (fun _ _ h => h.elim) (tv' := .slice none 0 0) (T' := []) (N' := 0) (World.ownsRow_nil _ _ _ _) (by simp) (by simp)
        clear A6
        have c8 := A9.c
        have r8 := A9.rc
        have f8 := A9.f
        have q8 := A9.rf
        have hd8 := A9.done hp (by omega)
        have HD8 : Hid (SomeP p a len cap zs w (.returned (.agg #[(.slice none 0 0)])) ((w6.setCell ⟨w.heap.size + 1, 0, none⟩ (.slice none 0 0)).setCell ⟨w.heap.size, 0, none⟩ (.slice none 0 0))) := hd8
        have t8 : ((w6.setCell ⟨w.heap.size + 1, 0, none⟩ (.slice none 0 0)).setCell ⟨w.heap.size, 0, none⟩ (.slice none 0 0)).cell? ⟨w.heap.size, 0, none⟩ = some (.slice none 0 0) := World.cell?_setCell_same _ _ _ r8
        clear hd8 A9
        go_wp2
        exact bodyPost_ret (v := .agg #[(.slice none 0 0)]) (by simp [results, Tryz.results34, go_sem, t8]) rfl HD8.out
       ·
        injection hv with hv1 _ hv3
        subst hv1 hv3
        go_wp2_with (first | (at_builtin; refine wpList_append_own _ rfl _ _ 23 rfl (w.heap.size + 1 + 1) 38 i0 (.agg #[.int .i64 0, .int .i64 0, .int .i64 0, .string ⟨#[]⟩]) 4 40 Tryz.underlying23 hi hz0 hz1 hz2 rfl (by omega) (.slice (some ⟨g, 0, none⟩) 0 ct) 0 [] rfl (A6.ownN (n := 0) rfl) ⟨g, 0, none⟩ 0 ct [] rfl rfl (fun j u hu => by simp at hu) (by simp) (by unfold maxLen; omega) (by omega) (by have := A6.size; omega) ?_) | fail)
        intro v9 w9 hown9 hgrow9 _
        have hown9' : OwnsT w9 (w.heap.size + 1 + 1) v9 [] := hown9
        have A9 := A6.app0 hp hgrow9 hown9' (N' := 0) (by simp) (by simp)
        have c9 := hgrow9.cell (a := ⟨w.heap.size + 1, 0, none⟩) c6 A6.ne_own
        have f9 : w9.frozen? ⟨w.heap.size + 1, 0, none⟩ = false := by have := A9.f; rw [World.frozen?_setCell] at this; exact this
        obtain ⟨b9, d9, e9⟩ : ∃ b c, v9 = .slice b 0 c := A9.slice
        subst e9
        clear hown9 hown9' hgrow9 A6 c6 f6
        have c8 := A9.c
        have r8 := A9.rc
        have f8 := A9.f
        have q8 := A9.rf
        have hd8 := A9.done hp (by omega)
        have HD8 : Hid (SomeP p a len cap zs w (.returned (.agg #[(.slice b9 0 d9)])) ((w9.setCell ⟨w.heap.size + 1, 0, none⟩ (.slice b9 0 d9)).setCell ⟨w.heap.size, 0, none⟩ (.slice b9 0 d9))) := hd8
        have t8 : ((w9.setCell ⟨w.heap.size + 1, 0, none⟩ (.slice b9 0 d9)).setCell ⟨w.heap.size, 0, none⟩ (.slice b9 0 d9)).cell? ⟨w.heap.size, 0, none⟩ = some (.slice b9 0 d9) := World.cell?_setCell_same _ _ _ r8
        clear hd8 A9
        go_wp2
        exact bodyPost_ret (v := .agg #[(.slice b9 0 d9)]) (by simp [results, Tryz.results34, go_sem, t8]) rfl HD8.out
      ·
       obtain ⟨g, t, T0, rfl, rfl, hc⟩ := A6.some HN.out (by omega)
       have c6 := A6.c
       have f6 := A6.f
       clear hc
       go_wp2_with (first | (at_builtin; refine wpList_append_lies _ rfl _ _ 23 rfl (w.heap.size + 1 + 1) 38 i0 (.agg #[.int .i64 0, .int .i64 0, .int .i64 0, .string ⟨#[]⟩]) 4 40 Tryz.underlying23 hi hz0 hz1 hz2 rfl (by omega) (.slice (some ⟨g, 0, none⟩) n ct) n ((t :: T0).map TurnD.cs).flatten rfl (A6.ownN HN.out) ⟨g, 0, none⟩ n ct ((t :: T0).map TurnD.cs).flatten rfl (A6.ownN HN.out).1 (own_cells (A6.ownN HN.out)) turns_one (by omega) (by unfold maxLen; omega) (by omega) (by have := A6.size; omega) _ rfl ?_) | fail)
       intro g9 cap9 w9 hown9 hgrow9 hat9 hlt9
       have A9 := A6.app0 hp hgrow9 (OwnsT.dbl HN.out hown9) (N' := 1200) (by rw [List.length_append, HN.out]; omega) (fun x hx => by rcases List.mem_append.1 hx with h | h <;> exact A6.ok x h)
       have c9 := hgrow9.cell (a := ⟨w.heap.size + 1, 0, none⟩) c6 A6.ne_own
       have f9 : w9.frozen? ⟨w.heap.size + 1, 0, none⟩ = false := by have := A9.f; rw [World.frozen?_setCell] at this; exact this
       clear hown9 hgrow9 hat9 hlt9 A6 c6 f6
       have c8 := A9.c
       have r8 := A9.rc
       have f8 := A9.f
       have q8 := A9.rf
       have hd8 := A9.done hp (by omega)
       have HD8 : Hid (SomeP p a len cap zs w (.returned (.agg #[(.slice (some ⟨g9, 0, none⟩) (n + n) cap9)])) ((w9.setCell ⟨w.heap.size + 1, 0, none⟩ (.slice (some ⟨g9, 0, none⟩) (n + n) cap9)).setCell ⟨w.heap.size, 0, none⟩ (.slice (some ⟨g9, 0, none⟩) (n + n) cap9))) := hd8
       have t8 : ((w9.setCell ⟨w.heap.size + 1, 0, none⟩ (.slice (some ⟨g9, 0, none⟩) (n + n) cap9)).setCell ⟨w.heap.size, 0, none⟩ (.slice (some ⟨g9, 0, none⟩) (n + n) cap9)).cell? ⟨w.heap.size, 0, none⟩ = some (.slice (some ⟨g9, 0, none⟩) (n + n) cap9) := World.cell?_setCell_same _ _ _ r8
       clear hd8 A9
       go_wp2
       exact bodyPost_ret (v := .agg #[(.slice (some ⟨g9, 0, none⟩) (n + n) cap9)]) (by simp [results, Tryz.results34, go_sem, t8]) rfl HD8.out
end Go.Proofs.YtcelbkmnbjcjhaaGreat
